/-
  The walks of the reference's Corrected and of SameInts. By an AI agent.
-/
import Derived.Test.YtkddmjadilmldaaLightCc
import Derived.StillTailTactics
import Derived.Deep.RegionLaw
namespace Go.Proofs.Ytkddmjadilmldaa
set_option linter.unusedVariables false
set_option linter.unusedSimpArgs false
open Go.RowKit

theorem bent {x a b : Int} (h : btw x a b = false) : ¬ (a ≤ x ∧ x ≤ b) := (btw_false _ _ _).1 h
set_option maxRecDepth 100000 in
set_option maxHeartbeats 8000000 in
theorem RefCorrected_any (aa : Option Addr) (l : List (Int × Int)) (ca : Nat) (t1 c1 t2 c2 rf : Int) (w : World) (hA : PairsS w aa l) :
    Calls Try.prog 19 #[.slice aa l.length ca, .agg #[.int .i64 t1, .int .i64 c1], .agg #[.int .i64 t2, .int .i64 c2], .int .i64 rf] w fun e w' => ∃ a cap, e = .returned (.tuple #[.slice a (corL t1 c1 t2 c2 rf l).length cap, .int .i64 (corE t1 c1 t2 c2 rf l)]) ∧ IntsS w' a (corL t1 c1 t2 c2 rf l) ∧ Below w.heap.size w w' := by
  have hlen := hA.1
  have HArg : Hid (¬ EndsOk t1 c1 t2 c2 rf ∨ ¬ RdsOk l t1 t2 → corE t1 c1 t2 c2 rf l = 2 ∧ corL t1 c1 t2 c2 rf l = []) := Lib.hid fun h => cor_arg fun g => by
    rcases h with h | h
    · exact h (endsB_iff.1 g.1)
    · exact h (rdsB_iff.1 g.2)
  by_cases h100 : l.length ≤ 100
  rotate_left
  · obtain ⟨x1, x2⟩ := HArg.out (.inr fun g => h100 g.1)
    have h2 : (100 : Int) < l.length := by omega
    rw [x1, x2]
    clear x1 x2 hA HArg
    go_enter Try.func19, Try.ntmps19
    go_wp2_with fail
    go_ret2
    exact ⟨none, 0, rfl, ints_nil _, ((Below.refl _ _).alloc (Nat.le_refl _) _ : Below w.heap.size w (w.alloc _)).alloc (by simp) _⟩
  have h2 : ¬ (100 : Int) < l.length := by omega
  rcases btw_cases rf 1 100000 with b1 | b1
  rotate_left
  · obtain ⟨x1, x2⟩ := HArg.out (.inl fun h => bent b1 h.2.2.2.2)
    rw [x1, x2]
    have B1 := Lib.hid b1
    have B2 := Lib.hid b1
    have B3 := Lib.hid b1
    have B4 := Lib.hid b1
    clear x1 x2 hA HArg b1
    go_enter Try.func19, Try.ntmps19
    go_wp2_with (go_at_call 35; refine (within_any _ _ _ _).mono ?_; rintro e w' ⟨rfl, rfl⟩; first | rw [B1.out] | rw [B2.out] | rw [B3.out] | rw [B4.out])
    go_ret2
    exact ⟨none, 0, rfl, ints_nil _, ((Below.refl _ _).alloc (Nat.le_refl _) _ : Below w.heap.size w (w.alloc _)).alloc (by simp) _⟩
  rcases btw_cases c1 1 100000 with b2 | b2
  rotate_left
  · obtain ⟨x1, x2⟩ := HArg.out (.inl fun h => bent b2 h.1)
    rw [x1, x2]
    have B1 := Lib.hid b1
    have B2 := Lib.hid b2
    have B3 := Lib.hid b2
    have B4 := Lib.hid b2
    clear x1 x2 hA HArg b1 b2
    go_enter Try.func19, Try.ntmps19
    go_wp2_with (go_at_call 35; refine (within_any _ _ _ _).mono ?_; rintro e w' ⟨rfl, rfl⟩; first | rw [B1.out] | rw [B2.out] | rw [B3.out] | rw [B4.out])
    go_ret2
    exact ⟨none, 0, rfl, ints_nil _, ((Below.refl _ _).alloc (Nat.le_refl _) _ : Below w.heap.size w (w.alloc _)).alloc (by simp) _⟩
  rcases btw_cases c2 1 100000 with b3 | b3
  rotate_left
  · obtain ⟨x1, x2⟩ := HArg.out (.inl fun h => bent b3 h.2.2.1)
    rw [x1, x2]
    have B1 := Lib.hid b1
    have B2 := Lib.hid b2
    have B3 := Lib.hid b3
    have B4 := Lib.hid b3
    clear x1 x2 hA HArg b1 b2 b3
    go_enter Try.func19, Try.ntmps19
    go_wp2_with (go_at_call 35; refine (within_any _ _ _ _).mono ?_; rintro e w' ⟨rfl, rfl⟩; first | rw [B1.out] | rw [B2.out] | rw [B3.out] | rw [B4.out])
    go_ret2
    exact ⟨none, 0, rfl, ints_nil _, ((Below.refl _ _).alloc (Nat.le_refl _) _ : Below w.heap.size w (w.alloc _)).alloc (by simp) _⟩
  rcases btw_cases t1 0 1000000 with b4 | b4
  rotate_left
  · obtain ⟨x1, x2⟩ := HArg.out (.inl fun h => bent b4 h.2.1)
    rw [x1, x2]
    have B1 := Lib.hid b1
    have B2 := Lib.hid b2
    have B3 := Lib.hid b3
    have B4 := Lib.hid b4
    clear x1 x2 hA HArg b1 b2 b3 b4
    go_enter Try.func19, Try.ntmps19
    go_wp2_with (go_at_call 35; refine (within_any _ _ _ _).mono ?_; rintro e w' ⟨rfl, rfl⟩; first | rw [B1.out] | rw [B2.out] | rw [B3.out] | rw [B4.out])
    go_ret2
    exact ⟨none, 0, rfl, ints_nil _, ((Below.refl _ _).alloc (Nat.le_refl _) _ : Below w.heap.size w (w.alloc _)).alloc (by simp) _⟩
  have B1 := Lib.hid b1
  have B2 := Lib.hid b2
  have B3 := Lib.hid b3
  have B4 := Lib.hid b4
  have z1 := (btw_iff _ _ _).1 b1
  have z2 := (btw_iff _ _ _).1 b2
  have z3 := (btw_iff _ _ _).1 b3
  have z4 := (btw_iff _ _ _).1 b4
  clear b1 b2 b3 b4
  by_cases g1 : t2 ≤ t1
  · obtain ⟨x1, x2⟩ := HArg.out (.inl (fun h => by have := h.2.2.2.1; omega))
    rw [x1, x2]
    clear x1 x2 hA HArg z1 z2 z3 z4
    go_enter Try.func19, Try.ntmps19
    go_wp2_with (go_at_call 35; refine (within_any _ _ _ _).mono ?_; rintro e w' ⟨rfl, rfl⟩; first | rw [B1.out] | rw [B2.out] | rw [B3.out] | rw [B4.out])
    go_ret2
    exact ⟨none, 0, rfl, ints_nil _, ((Below.refl _ _).alloc (Nat.le_refl _) _ : Below w.heap.size w (w.alloc _)).alloc (by simp) _⟩
  by_cases g2 : 1000000 < t2
  · obtain ⟨x1, x2⟩ := HArg.out (.inl (fun h => by have := h.2.2.2.1; omega))
    rw [x1, x2]
    clear x1 x2 hA HArg z1 z2 z3 z4
    go_enter Try.func19, Try.ntmps19
    go_wp2_with (go_at_call 35; refine (within_any _ _ _ _).mono ?_; rintro e w' ⟨rfl, rfl⟩; first | rw [B1.out] | rw [B2.out] | rw [B3.out] | rw [B4.out])
    go_ret2
    exact ⟨none, 0, rfl, ints_nil _, ((Below.refl _ _).alloc (Nat.le_refl _) _ : Below w.heap.size w (w.alloc _)).alloc (by simp) _⟩
  have hE : EndsOk t1 c1 t2 c2 rf := ⟨z2, z4, z3, ⟨by omega, by omega⟩, z1⟩
  have HRd : Hid (∀ j, j < l.length → ¬ rdOk l t1 t2 j → corE t1 c1 t2 c2 rf l = 2 ∧ corL t1 c1 t2 c2 rf l = []) := Lib.hid fun j hj h => HArg.out (.inr fun g => h (g.2 j hj))
  have HDr : Hid ((∀ j, j < l.length → rdOk l t1 t2 j) → (drB c1 rf = true ∨ drB c2 rf = true) → corE t1 c1 t2 c2 rf l = 32 ∧ corL t1 c1 t2 c2 rf l = []) := Lib.hid fun h hd => cor_drift ⟨endsB_iff.2 hE, rdsB_t ⟨h100, h⟩⟩ hd
  have HOk : Hid ((∀ j, j < l.length → rdOk l t1 t2 j) → drB c1 rf = false → drB c2 rf = false → corE t1 c1 t2 c2 rf l = 0 ∧ corL t1 c1 t2 c2 rf l = gm (corF t1 c1 t2 c2 rf l) l.length) := Lib.hid fun h d1 d2 => cor_ok ⟨endsB_iff.2 hE, rdsB_t ⟨h100, h⟩⟩ d1 d2
  have HVd : Hid ((∀ j, j < l.length → rdOk l t1 t2 j) → ∀ j, j < l.length → I64 (corF t1 c1 t2 c2 rf l j)) := Lib.hid fun hrd j hj => by
    have b := (corV_bd (p := gp l j) hE (hrd j hj).1 (hrd j hj).2).2.2.2.2.2
    unfold corF I64
    omega
  have HBD : Hid ((∀ j, j < l.length → rdOk l t1 t2 j) → ∀ j, j < l.length → _) := Lib.hid fun hrd j hj => corV_bd (p := gp l j) hE (hrd j hj).1 (hrd j hj).2
  have HCF : Hid (∀ j, corF t1 c1 t2 c2 rf l j = (gp l j).2 * rf * (t2 - t1) / (c1 * (t2 - (gp l j).1) + c2 * ((gp l j).1 - t1))) := Lib.hid fun j => rfl
  have HD1 := Lib.hid (fun W => refDrifted_any c1 rf W z2 z1)
  have HD2 := Lib.hid (fun W => refDrifted_any c2 rf W z3 z1)
  obtain ⟨-, -, blk, off, hadr, hc⟩ := hA
  have HC := Lib.hid hc
  have HL : Hid (0 < l.length → aa = some ⟨blk, off, none⟩) := Lib.hid fun h => hadr (by rintro rfl; simp at h)
  obtain ⟨z10, z11⟩ := z1
  obtain ⟨z20, z21⟩ := z2
  obtain ⟨z30, z31⟩ := z3
  obtain ⟨z40, z41⟩ := z4
  have HGN := Lib.hid (gv_next (corF t1 c1 t2 c2 rf l))
  have HGL := Lib.hid (gm_len (corF t1 c1 t2 c2 rf l) l.length)
  have HRES : Hid ((∀ j, j < l.length → I64 (corF t1 c1 t2 c2 rf l j)) → ∀ W a c base, W.ownsRow base 3 1 (.slice a l.length c) l.length (gv (corF t1 c1 t2 c2 rf l) l.length) → IntsS W a (gm (corF t1 c1 t2 c2 rf l) l.length)) := Lib.hid fun hv W a c base h => ints_own h hlen hv
  obtain ⟨n0, hi, hz0, hz1, hz2⟩ := info_parts intInfo
  generalize corE t1 c1 t2 c2 rf l = CE at *
  generalize corL t1 c1 t2 c2 rf l = CL at *
  generalize corF t1 c1 t2 c2 rf l = f at *
  clear hc hadr hE HArg
  go_enter Try.func19, Try.ntmps19
  go_wp2_with (go_at_call 35; refine (within_any _ _ _ _).mono ?_; rintro e w' ⟨rfl, rfl⟩; first | rw [B1.out] | rw [B2.out] | rw [B3.out] | rw [B4.out])
  obtain ⟨wo, hwo⟩ : ∃ wo, (w.alloc (.cells #[.int .i64 t1, .int .i64 c1] 44)).alloc (.cells #[.int .i64 t2, .int .i64 c2] 44) = wo := ⟨_, rfl⟩
  have hbo : Below w.heap.size w wo := by rw [← hwo]; exact ((Below.refl _ _).alloc (Nat.le_refl _) _ : Below w.heap.size w (w.alloc _)).alloc (by simp) _
  have e0 : wo.cell? ⟨w.heap.size, 0, none⟩ = some (.int .i64 t1) := by rw [← hwo]; simp [go_sem]
  have e1 : wo.cell? ⟨w.heap.size, 1, none⟩ = some (.int .i64 c1) := by rw [← hwo]; simp [go_sem]
  have e2 : wo.cell? ⟨w.heap.size + 1, 0, none⟩ = some (.int .i64 t2) := by rw [← hwo]; simp [go_sem]
  have e3 : wo.cell? ⟨w.heap.size + 1, 1, none⟩ = some (.int .i64 c2) := by rw [← hwo]; simp [go_sem]
  rw [hwo]
  clear hwo B1 B2 B3 B4
  go_loopw [10] (fun i wr => ∃ k : Nat, k ≤ l.length ∧ i = .int .i64 k ∧ Below wo.heap.size wo wr ∧ Hid (∀ j, j < k → rdOk l t1 t2 j)) (fun i _ => l.length - (intOf i).toNat)
  case atStart => exact ⟨0, Nat.zero_le _, rfl, Below.refl _ _, Lib.hid fun j hj => absurd hj (Nat.not_lt_zero _)⟩
  case round =>
    obtain ⟨k, hk, rfl, hbr, HA⟩ := hrel
    have hbw := hbo.trans (hbr.mono hbo.size)
    have e0 := cell_below e0 hbr
    have e1 := cell_below e1 hbr
    have e2 := cell_below e2 hbr
    have e3 := cell_below e3 hbr
    by_cases hlt : k < l.length
    · obtain rfl := HL.out (by omega)
      have d0 := cell_below (HC.out k hlt).1 hbw
      have d1 := cell_below (HC.out k hlt).2 hbw
      have HN := Lib.hid (HRd.out k hlt)
      obtain ⟨HQ, hHQ⟩ : ∃ Q : Prop, Q = (∀ j, j < k + 1 → rdOk l t1 t2 j) := ⟨_, rfl⟩
      have HK : Hid (rdOk l t1 t2 k → HQ) := Lib.hid fun h => by
        rw [hHQ]
        intro j hj
        by_cases e : j = k
        · subst e; exact h
        · exact HA.out j (by omega)
      have HQQ : Hid (HQ → ∀ j, j < k + 1 → rdOk l t1 t2 j) := Lib.hid fun h => by rwa [hHQ] at h
      unfold rdOk at HN HK
      clear HC HL HRd HDr HOk HVd HBD HCF HD1 HD2 HGN HGL HRES HA hHQ
      generalize (gp l k).1 = x at d0 HN HK
      generalize (gp l k).2 = y at d1 HN HK
      have hkl : (k : Int) < (l.length : Int) := by omega
      rcases btw_cases y 0 100000 with b1 | b1
      rotate_left
      · obtain ⟨x1, x2⟩ := HN.out fun h => by rw [btw_t h.1.1 h.1.2] at b1; cases b1
        subst x1
        subst x2
        have B1 := Lib.hid b1
        clear b1 HN HK HQQ
        go_wp2_with fail
        go_quiet ((go_at_call 35; exact Calls.quiet_of_same (within_q B1.out _)))
        go_wp2_with fail
        go_ret2
        exact ⟨none, 0, rfl, ints_nil _, below_drewN hbw _⟩
      rcases btw_cases x t1 t2 with b2 | b2
      rotate_left
      · obtain ⟨x1, x2⟩ := HN.out fun h => by rw [btw_t h.2.1 h.2.2] at b2; cases b2
        subst x1
        subst x2
        have B1 := Lib.hid b1
        have B2 := Lib.hid b2
        clear b1 b2 HN HK HQQ
        go_wp2_with fail
        go_quiet ((go_at_call 35; exact Calls.quiet_of_same (within_q (by first | exact B1.out | exact B2.out) _)))
        go_wp2_with fail
        go_ret2
        exact ⟨none, 0, rfl, ints_nil _, below_drewN hbw _⟩
      have HR := Lib.hid (HQQ.out (HK.out ⟨(btw_iff _ _ _).1 b1, (btw_iff _ _ _).1 b2⟩))
      have B1 := Lib.hid b1
      have B2 := Lib.hid b2
      clear b1 b2 HN HK HQQ
      go_wp2_with fail
      go_quiet ((go_at_call 35; exact Calls.quiet_of_same (within_q (by first | exact B1.out | exact B2.out) _)))
      go_wp2_with fail
      go_roundw
      case rel => exact ⟨k + 1, by omega, by go_num, below_drewN hbr _, HR⟩
      case measure => simp [intOf]; omega
    · obtain rfl : k = l.length := by omega
      have HDr := Lib.hid (HDr.out HA.out)
      have HOk := Lib.hid (HOk.out HA.out)
      have HVd := Lib.hid (HVd.out HA.out)
      have HBD := Lib.hid (HBD.out HA.out)
      have HRES := Lib.hid (HRES.out HVd.out)
      have HAA := HA
      cases hd1 : drB c1 rf with
      | true =>
        obtain ⟨x1, x2⟩ := HDr.out (.inl hd1)
        subst x1
        subst x2
        rw [hd1] at HD1
        clear hd1 HRd HDr HOk HVd HBD HCF HGN HGL HRES HA HAA
        go_wp2_with (go_at_call 46; refine (HD1.out _).mono ?_; rintro e w' ⟨rfl, rfl⟩)
        go_ret2
        exact ⟨none, 0, rfl, ints_nil _, hbw⟩
      | false =>
        rw [hd1] at HD1
        cases hd2 : drB c2 rf with
        | true =>
          obtain ⟨x1, x2⟩ := HDr.out (.inr hd2)
          subst x1
          subst x2
          rw [hd2] at HD2
          clear hd1 hd2 HRd HDr HOk HVd HBD HCF HGN HGL HRES HA HAA
          go_wp2_with fail
          refine (HD1.out _).mono ?_
          rintro e w' ⟨rfl, rfl⟩
          go_wp2_with fail
          refine (HD2.out _).mono ?_
          rintro e w' ⟨rfl, rfl⟩
          go_wp2_with fail
          go_ret2
          exact ⟨none, 0, rfl, ints_nil _, hbw⟩
        | false =>
          rw [hd2] at HD2
          obtain ⟨x1, x2⟩ := HOk.out hd1 hd2
          subst x1
          subst x2
          clear hd1 hd2 HRd HDr HOk HVd HA
          go_wp2_with fail
          refine (HD1.out _).mono ?_
          rintro e w' ⟨rfl, rfl⟩
          go_wp2_with fail
          refine (HD2.out _).mono ?_
          rintro e w' ⟨rfl, rfl⟩
          go_wp2_with fail
          obtain ⟨wq, rfl⟩ : ∃ wq : World, wq = wr := ⟨_, rfl⟩
          go_loopw [11, 12] (fun v i wr => ∃ k : Nat, k ≤ l.length ∧ i = .int .i64 k ∧ (∃ a c, v = .slice a k c) ∧ Hid (wr.ownsRow wq.heap.size 3 1 v k (gv f k)) ∧ Below wq.heap.size wq wr) (fun _ i _ => l.length - (intOf i).toNat)
          case atStart => exact ⟨0, Nat.zero_le _, rfl, ⟨none, 0, rfl⟩, Lib.hid ⟨rfl, .inl ⟨rfl, rfl⟩⟩, Below.refl _ _⟩
          case round =>
            clear hbr
            obtain ⟨k, hk, rfl, ⟨ar, cr, rfl⟩, HRow, hbr⟩ := hrel
            have hbw := hbw.trans (hbr.mono hbw.size)
            have hbs := hbr.size
            have e0 := cell_below e0 hbr
            have e1 := cell_below e1 hbr
            have e2 := cell_below e2 hbr
            have e3 := cell_below e3 hbr
            by_cases hlt : k < l.length
            · obtain rfl := HL.out (by omega)
              have d0 := cell_below (HC.out k hlt).1 hbw
              have d1 := cell_below (HC.out k hlt).2 hbw
              obtain ⟨⟨m0, m1⟩, ⟨m2, m3⟩, ⟨m4, m5⟩, ⟨m6, m7⟩, m8, m9, m10⟩ := HBD.out k hlt
              have HV := Lib.hid (HCF.out k)
              obtain ⟨⟨y0, y1⟩, y2, y3⟩ := HAA.out k hlt
              have HNk := Lib.hid (HGN.out k)
              have hm9 : 0 ≤ f k := by rw [HV.out]; exact m9
              have hm10 : f k ≤ 10000000000000000 := by rw [HV.out]; exact m10
              have hkl : (k : Int) < (l.length : Int) := by omega
              clear HC HGN HL HRES HBD HCF HAA m9 m10
              generalize (gp l k).1 = t at *
              generalize (gp l k).2 = v at *
              generalize f k = V at *
              obtain ⟨A, hA⟩ : ∃ A, t2 - t = A := ⟨_, rfl⟩
              obtain ⟨B, hB⟩ : ∃ B, t - t1 = B := ⟨_, rfl⟩
              obtain ⟨D, hD⟩ : ∃ D, t2 - t1 = D := ⟨_, rfl⟩
              rw [hA] at m4 m5 m8 HV
              rw [hB] at m6 m7 m8 HV
              rw [hD] at m2 m3 HV
              obtain ⟨P1, hP1⟩ : ∃ x, c1 * A = x := ⟨_, rfl⟩
              obtain ⟨P2, hP2⟩ : ∃ x, c2 * B = x := ⟨_, rfl⟩
              obtain ⟨Q1, hQ1⟩ : ∃ x, v * rf = x := ⟨_, rfl⟩
              rw [hP1] at m4 m5 m8 HV
              rw [hP2] at m6 m7 m8 HV
              rw [hQ1] at m0 m1 m2 m3 HV
              obtain ⟨Q2, hQ2⟩ : ∃ x, Q1 * D = x := ⟨_, rfl⟩
              rw [hQ2] at m2 m3 HV
              obtain ⟨PL, hPL⟩ : ∃ x, P1 + P2 = x := ⟨_, rfl⟩
              rw [hPL] at m8 HV
              have wA : IntKind.i64.wrap A = A := IntWalk.i64_in _ (by omega)
              have wB : IntKind.i64.wrap B = B := IntWalk.i64_in _ (by omega)
              have wD1 : IntKind.i64.wrap D = D := IntWalk.i64_in _ (by omega)
              have wP1 : IntKind.i64.wrap P1 = P1 := IntWalk.i64_in _ (by omega)
              have wP2 : IntKind.i64.wrap P2 = P2 := IntWalk.i64_in _ (by omega)
              have wQ1 : IntKind.i64.wrap Q1 = Q1 := IntWalk.i64_in _ (by omega)
              have wQ2 : IntKind.i64.wrap Q2 = Q2 := IntWalk.i64_in _ (by omega)
              have wPL : IntKind.i64.wrap PL = PL := IntWalk.i64_in _ (by omega)
              have hV := HV.out
              have td : Q2.tdiv PL = V := by rw [Int.tdiv_eq_ediv_of_nonneg m2]; exact hV.symm
              have ed : Q2 / PL = V := hV.symm
              have wV : IntKind.i64.wrap V = V := IntWalk.i64_in _ (by omega)
              have nz : ¬ PL = 0 := by omega
              clear HV hV HD1 HD2
              go_wp2_with fail
              have hn5 : w.heap.size ≠ wr.heap.size := by have := block_lt e0; omega
              go_region_law
                (refine step_append_lies _ (by rfl) _ _ _ (by rfl) wq.heap.size 3 n0 _ 1 8 Try.underlying22 hi hz0 hz1 hz2 rfl (by decide) (.slice ar k cr) k _ (by rfl) ((HRow.out.alloc _).drew) ⟨wr.heap.size, 0, none⟩ 1 1 [.int .i64 V] (by rfl) (by rfl) ?d1 ?d2 (by decide) ?d3 ?d4 ?d5 (wr.heap.size + 1) (by simp) ?_
                 case d1 =>
                   refine World.news_of_block (cs := #[.int .i64 V]) (t := 3) (fr := (0, 0)) ?_
                   exact heap_alloc_new wr _
                 case d2 => simp [Value.oneCell']
                 case d3 => unfold maxLen; omega
                 case d4 => omega
                 case d5 => simp; omega
                 intro g c2' w6 hown6 hgrow6 hat6 hlt6
                 have hb6 : Below wq.heap.size wq w6 := (((hbr.alloc hbs _).drew).grown hgrow6 (by simp; omega) (fun z hz => by
                   rcases HRow.out.2 with ⟨h, _⟩ | ⟨g2, c3, cur, h1, h2, _⟩
                   · rw [h] at hz; simp [Value.ownBlock] at hz
                   · rw [h1] at hz; simp [Value.ownBlock] at hz; omega)))
              all_goals
                go_wp2_with fail
                go_roundw
                case rel => exact ⟨k + 1, by omega, by go_num, ⟨_, c2', rfl⟩, Lib.hid (by rw [HNk.out]; exact hown6), hb6⟩
                case measure => simp [intOf]; omega
            · obtain rfl : k = l.length := by omega
              have HI := Lib.hid (HRES.out _ _ _ _ HRow.out)
              clear HRES HRow HBD HCF HAA
              go_wp2_with fail
              go_ret2
              exact ⟨ar, cr, by rw [HGL.out]; rfl, HI.out, hbw⟩

set_option maxRecDepth 100000 in
set_option maxHeartbeats 1000000 in
/-- SameInts of two lists that are the same. -/
theorem sameInts_any (a b : Option Addr) (l : List Int) (ca cb : Nat) (w : World) (hA : IntsS w a l) (hB : IntsS w b l) :
    Calls Try.prog 20 #[.slice a l.length ca, .slice b l.length cb] w fun e w' => e = .returned (.bool true) ∧ Below w.heap.size w w' := by
  obtain ⟨hlen, -, ba, oa, hada, ha⟩ := hA
  obtain ⟨-, -, bb, ob, hadb, hb⟩ := hB
  have HA := Lib.hid ha
  have HB := Lib.hid hb
  have HLA : Hid (0 < l.length → a = some ⟨ba, oa, none⟩) := Lib.hid fun h => hada (by rintro rfl; simp at h)
  have HLB : Hid (0 < l.length → b = some ⟨bb, ob, none⟩) := Lib.hid fun h => hadb (by rintro rfl; simp at h)
  clear ha hb hada hadb
  go_enter Try.func20, Try.ntmps20
  go_wp2_with fail
  go_loopw [5] (fun i wr => ∃ k : Nat, k ≤ l.length ∧ i = .int .i64 k ∧ Below w.heap.size w wr) (fun i _ => l.length - (intOf i).toNat)
  case atStart => exact ⟨0, Nat.zero_le _, rfl, Below.refl _ _⟩
  case round =>
    obtain ⟨k, hk, rfl, hbr⟩ := hrel
    by_cases hlt : k < l.length
    · obtain rfl := HLA.out (by omega)
      obtain rfl := HLB.out (by omega)
      have d0 := cell_below (HA.out k hlt) hbr
      have d1 := cell_below (HB.out k hlt) hbr
      have hkl : (k : Int) < (l.length : Int) := by omega
      clear HA HB HLA HLB
      generalize gi l k = x at *
      go_wp2_with fail
      go_quiet (fail)
      go_wp2_with fail
      go_roundw
      case rel => exact ⟨k + 1, by omega, by go_num, below_drewN hbr _⟩
      case measure => simp [intOf]; omega
    · obtain rfl : k = l.length := by omega
      go_wp2_with fail
      go_ret
      exact ⟨rfl, hbr⟩
end Go.Proofs.Ytkddmjadilmldaa
