/-
  The walks of the functions of package shop for a shop that is not valid, and of Next, Worked and After for one that is. By an AI agent.; The walk of chain of package shop. By an AI agent.; The walks of the reference's free, Shift, Next and opened. By an AI agent.; The walks of the reference's opened, Worked and After. By an AI agent.
-/
import Derived.Test.YtgphkfonjfdifaaMgShopBounds2
import Derived.Deep.RegionHeld3

namespace Go.Proofs.Ytgphkfonjfdifaa
set_option linter.unusedVariables false
set_option linter.unusedSimpArgs false
open Go.RowKit

theorem next_ok (s : Sh) (t m : Int) (w : World) (hI : ShS w s) (hV : ShOk s) (t0 : 0 ≤ t) (t1 : t ≤ 100000000) (m0 : 1 ≤ m) (m1 : m ≤ s.C - s.O) :
    Calls Try.prog 33 #[.agg #[.int .i64 s.O, .int .i64 s.C, .slice s.aH s.H.length s.cH, .int .i64 s.M, .slice s.aS s.S.length s.cS, .slice s.aJ s.J.length s.cJ], .int .i64 t, .int .i64 m] w fun e w' => e = .returned (.tuple #[.int .i64 (nextV s.O s.C s.H t m), .int .i64 0]) ∧ Below w.heap.size w w' := by
  have HV := Lib.hid (fun W (hW : Below w.heap.size w W) => Valid_sh s W (hI.below hW))
  have HN := Lib.hid (fun W (hW : Below w.heap.size w W) => next_sh s t m W (hI.below hW).1 hV.2.1 hV.1.1 hV.1.2.1 hV.1.2.2 t0 (by omega) (by omega) m1)
  have hB := ShBox.start w s 25
  have hf := shB_t hV
  rw [hf] at HV
  have HB1 := Lib.hid (btw_t t0 t1)
  have HB2 := Lib.hid (btw_t m0 m1)
  obtain ⟨o0, o1, o2⟩ := hV.1
  clear hf hI hV
  generalize nextV s.O s.C s.H t m = R at *
  go_enter Try.func33, Try.ntmps33
  go_wp2_with fail
  obtain ⟨wB, hwB⟩ : ∃ wB, w.alloc (.cells #[.int .i64 s.O, .int .i64 s.C, .slice s.aH s.H.length s.cH, .int .i64 s.M, .slice s.aS s.S.length s.cS, .slice s.aJ s.J.length s.cJ] 25) = wB := ⟨_, rfl⟩
  rw [hwB] at hB ⊢
  clear hwB
  refine (HV.out _ hB.1).mono ?_
  rintro e w1 ⟨rfl, hb1⟩
  obtain ⟨hb, p0, p1, p2, p3, p4, p5⟩ := hB.on hb1
  clear hb1 hB HV
  go_wp2_with (go_at_call 53; refine (sbt_any _ _ _ _).mono ?_; rintro e w' ⟨rfl, rfl⟩; first | rw [HB1.out] | rw [HB2.out])
  refine (HN.out _ hb).mono ?_
  rintro e w2 ⟨rfl, hb2⟩
  go_wp2_with fail
  go_returns
  exact ⟨rfl, hb.trans (hb2.mono hb.size)⟩
theorem after_ok (s : Sh) (t : Int) (m : Nat) (w : World) (hI : ShS w s) (hV : ShOk s) (t0 : 0 ≤ t) (t1 : t ≤ 100000000) (m1 : m ≤ 1000000) :
    Calls Try.prog 34 #[.agg #[.int .i64 s.O, .int .i64 s.C, .slice s.aH s.H.length s.cH, .int .i64 s.M, .slice s.aS s.S.length s.cS, .slice s.aJ s.J.length s.cJ], .int .i64 t, .int .i64 m] w fun e w' => e = .returned (.tuple #[.int .i64 (aftV s.O s.C s.H t m), .int .i64 0]) ∧ Below w.heap.size w w' := by
  have HV := Lib.hid (fun W (hW : Below w.heap.size w W) => Valid_sh s W (hI.below hW))
  have HN := Lib.hid (fun W (hW : Below w.heap.size w W) => after_sh s t m W (hI.below hW).1 hV.2.1 hV.1.1 hV.1.2.1 hV.1.2.2 t0 (by omega) m1)
  have hB := ShBox.start w s 25
  have hf := shB_t hV
  rw [hf] at HV
  have HB1 := Lib.hid (btw_t t0 t1)
  have HB2 := Lib.hid (btw_t (show (0 : Int) ≤ m by omega) (show (m : Int) ≤ 1000000 by omega))
  clear hf hI hV
  generalize aftV s.O s.C s.H t m = R at *
  go_enter Try.func34, Try.ntmps34
  go_wp2_with fail
  obtain ⟨wB, hwB⟩ : ∃ wB, w.alloc (.cells #[.int .i64 s.O, .int .i64 s.C, .slice s.aH s.H.length s.cH, .int .i64 s.M, .slice s.aS s.S.length s.cS, .slice s.aJ s.J.length s.cJ] 25) = wB := ⟨_, rfl⟩
  rw [hwB] at hB ⊢
  clear hwB
  refine (HV.out _ hB.1).mono ?_
  rintro e w1 ⟨rfl, hb1⟩
  obtain ⟨hb, p0, p1, p2, p3, p4, p5⟩ := hB.on hb1
  clear hb1 hB HV
  go_wp2_with (go_at_call 53; refine (sbt_any _ _ _ _).mono ?_; rintro e w' ⟨rfl, rfl⟩; first | rw [HB1.out] | rw [HB2.out])
  refine (HN.out _ hb).mono ?_
  rintro e w2 ⟨rfl, hb2⟩
  go_wp2_with fail
  go_returns
  exact ⟨rfl, hb.trans (hb2.mono hb.size)⟩
end Go.Proofs.Ytgphkfonjfdifaa

namespace Go.Proofs.Ytgphkfonjfdifaa
set_option linter.unusedVariables false
set_option linter.unusedSimpArgs false
open Go.RowKit

theorem nextV_bd {s : Sh} {t m : Int} (h : ShOk s) (t0 : 0 ≤ t) (m1 : m ≤ s.C - s.O) : t ≤ nextV s.O s.C s.H t m ∧ nextV s.O s.C s.H t m ≤ t + 14500000 := by
  obtain ⟨x, hx, hb⟩ := next_exists h.1.1 h.1.2.1 h.1.2.2 m1 h.2.1.late t0
  rw [nextV_eq hx]
  exact ⟨hx.1, hb⟩
/-- When the first k steps of a job that has the shop for itself are done and dry. -/
noncomputable def dryK (O C : Int) (H : List Int) (l : List Stp) : Nat → Int
  | 0 => 0
  | k + 1 => nextV O C H (dryK O C H l k) (gs l k).2.1 + (gs l k).2.1 + (gs l k).2.2.2
/-- When the last of them ends. -/
noncomputable def endK (O C : Int) (H : List Int) (l : List Stp) : Nat → Int
  | 0 => 0
  | k + 1 => nextV O C H (dryK O C H l k) (gs l k).2.1 + (gs l k).2.1
noncomputable def chainV (s : Sh) (l : List Stp) : Int := endK s.O s.C s.H l l.length
theorem dryK_bd {s : Sh} {l : List Stp} (h : ShOk s) (hl : jobOk s.O s.C s.M l) : ∀ k, k ≤ l.length → 0 ≤ dryK s.O s.C s.H l k ∧ dryK s.O s.C s.H l k ≤ 14600000 * k ∧ 0 ≤ endK s.O s.C s.H l k ∧ endK s.O s.C s.H l k ≤ 14600000 * k
  | 0, _ => by simp [dryK, endK]
  | k + 1, hk => by
    have ih := dryK_bd h hl k (by omega)
    have hs := hl.2 k (by omega)
    have hb := nextV_bd h ih.1 hs.2.1.2
    obtain ⟨⟨o0, o1, o2⟩, _⟩ := h
    unfold stpOk at hs
    rw [dryK, endK]
    omega

set_option maxRecDepth 100000 in
set_option maxHeartbeats 4000000 in
theorem chain_sh (s : Sh) (aa : Option Addr) (l : List Stp) (ca : Nat) (w : World) (hI : ShS w s) (hV : ShOk s) (hL : StepsS w aa l) (hJ : jobOk s.O s.C s.M l) :
    Calls Try.prog 62 #[.agg #[.int .i64 s.O, .int .i64 s.C, .slice s.aH s.H.length s.cH, .int .i64 s.M, .slice s.aS s.S.length s.cS, .slice s.aJ s.J.length s.cJ], .agg #[.slice aa l.length ca]] w fun e w' => e = .returned (.int .i64 (chainV s l)) ∧ Below w.heap.size w w' := by
  have HN := Lib.hid (fun t m t0 t1 m0 m1 W (hW : Below w.heap.size w W) => next_sh s t m W (hI.below hW).1 hV.2.1 hV.1.1 hV.1.2.1 hV.1.2.2 t0 t1 m0 m1)
  have HD := Lib.hid (dryK_bd hV hJ)
  have HB0 : Hid (∀ t m, 0 ≤ t → m ≤ s.C - s.O → t ≤ nextV s.O s.C s.H t m ∧ nextV s.O s.C s.H t m ≤ t + 14500000) := Lib.hid fun t m t0 m1 => nextV_bd hV t0 m1
  have HJ : Hid (∀ k, k < l.length → (1 ≤ (gs l k).2.1 ∧ (gs l k).2.1 ≤ s.C - s.O) ∧ 0 ≤ (gs l k).2.2.2 ∧ (gs l k).2.2.2 ≤ 10000) := Lib.hid fun k hk => ⟨(hJ.2 k hk).2.1, (hJ.2 k hk).2.2.2⟩
  have h8 := hJ.1
  obtain ⟨⟨o0, o1, o2⟩, _⟩ := hV
  obtain ⟨hln, hbd, blk, off, hadr, hc⟩ := hL
  have HC := Lib.hid hc
  have HL : Hid (0 < l.length → aa = some ⟨blk, off, none⟩) := Lib.hid fun h => hadr (fun e => by rw [e] at h; simp at h)
  have hB := ShBox.start w s 25
  unfold chainV
  clear hI hJ hbd hadr hc
  go_enter Try.func62, Try.ntmps62
  go_wp2_with fail
  obtain ⟨wB, hwB⟩ : ∃ wB, (w.alloc (.cells #[.int .i64 s.O, .int .i64 s.C, .slice s.aH s.H.length s.cH, .int .i64 s.M, .slice s.aS s.S.length s.cS, .slice s.aJ s.J.length s.cJ] 25)).alloc (.cells #[.slice aa l.length ca] 55) = wB := ⟨_, rfl⟩
  have hB : ShBox w wB s := by rw [← hwB]; exact hB.on ((Below.refl _ _).alloc (Nat.le_refl _) _)
  rw [hwB]
  clear hwB
  go_loopw [5, 6, 12] (fun x y i wr => ∃ k : Nat, k ≤ l.length ∧ i = .int .i64 k ∧ x = .int .i64 (endK s.O s.C s.H l k) ∧ y = .int .i64 (dryK s.O s.C s.H l k) ∧ ShBox w wr s) (fun _ _ i _ => l.length - (intOf i).toNat)
  case atStart => exact ⟨0, Nat.zero_le _, rfl, rfl, rfl, hB⟩
  case round =>
    clear hB
    obtain ⟨k, hk, rfl, rfl, rfl, hB1⟩ := hrel
    have HB := Lib.hid hB1
    obtain ⟨hb, p0, p1, p2, p3, p4, p5⟩ := hB1
    by_cases hlt : k < l.length
    · obtain rfl := HL.out (by omega)
      obtain ⟨c0, c1, c2, c3⟩ := HC.out k hlt
      have c0 := cell_below c0 hb
      have c1 := cell_below c1 hb
      have c2 := cell_below c2 hb
      have c3 := cell_below c3 hb
      obtain ⟨⟨m0, m1⟩, d0, d1⟩ := HJ.out k hlt
      obtain ⟨t0, t1, e0, e1⟩ := HD.out k hk
      obtain ⟨n0, n1⟩ := HB0.out _ _ t0 m1
      have HS : Hid (endK s.O s.C s.H l (k + 1) = nextV s.O s.C s.H (dryK s.O s.C s.H l k) (gs l k).2.1 + (gs l k).2.1 ∧ dryK s.O s.C s.H l (k + 1) = nextV s.O s.C s.H (dryK s.O s.C s.H l k) (gs l k).2.1 + (gs l k).2.1 + (gs l k).2.2.2) := Lib.hid ⟨rfl, rfl⟩
      have hk8 : k ≤ 8 := by omega
      have HNk := Lib.hid (fun W hW => HN.out (dryK s.O s.C s.H l k) (gs l k).2.1 t0 (by omega) (by omega) m1 W hW)
      clear HC HL HJ HD HB0 HN
      generalize nextV s.O s.C s.H (dryK s.O s.C s.H l k) (gs l k).2.1 = v at *
      generalize dryK s.O s.C s.H l k = t at *
      generalize endK s.O s.C s.H l k = en at *
      generalize (gs l k).1 = x0 at *
      generalize (gs l k).2.1 = x1 at *
      generalize (gs l k).2.2.1 = x2 at *
      generalize (gs l k).2.2.2 = x3 at *
      have n3 : (k : Int) < l.length := by omega
      go_wp2_with fail
      obtain ⟨wD, hwD⟩ : ∃ wD, wr.alloc (.cells #[.int .i64 x0, .int .i64 x1, .int .i64 x2, .int .i64 x3] 57) = wD := ⟨_, rfl⟩
      have hBD : ShBox w wD s := by rw [← hwD]; exact HB.out.on ((Below.refl _ _).alloc (Nat.le_refl _) _)
      have q1 : wD.cell? ⟨wr.heap.size, 1, none⟩ = some (.int .i64 x1) := by rw [← hwD]; simp [go_sem]
      have q3 : wD.cell? ⟨wr.heap.size, 3, none⟩ = some (.int .i64 x3) := by rw [← hwD]; simp [go_sem]
      rw [hwD]
      clear hwD HB hb p0 p1 p2 p3 p4 p5 c0 c1 c2 c3
      obtain ⟨hB, p0, p1, p2, p3, p4, p5⟩ := hBD
      have z0 := block_lt p0
      have z1 := block_lt q1
      have ws1 : IntKind.i64.wrap (v + x1) = v + x1 := IntWalk.i64_in _ (by omega)
      go_region_held3 (fun w' => w'.cell? ⟨w.heap.size, 0, none⟩ = some (.int .i64 s.O) ∧ w'.cell? ⟨w.heap.size, 1, none⟩ = some (.int .i64 s.C) ∧ w'.cell? ⟨w.heap.size, 2, none⟩ = some (.slice s.aH s.H.length s.cH) ∧ w'.cell? ⟨w.heap.size, 3, none⟩ = some (.int .i64 s.M) ∧ w'.cell? ⟨w.heap.size, 4, none⟩ = some (.slice s.aS s.S.length s.cS) ∧ w'.cell? ⟨w.heap.size, 5, none⟩ = some (.slice s.aJ s.J.length s.cJ) ∧ w'.cell? ⟨wr.heap.size, 1, none⟩ = some (.int .i64 x1) ∧ w'.cell? ⟨wr.heap.size, 3, none⟩ = some (.int .i64 x3)) (go_keep)
        ((go_at_call 66
          refine (HNk.out _ (by first | exact hB.drew | exact hB | exact hB.drew.drew | exact below_drewN hB _ | exact below_drewN hB.drew _)).mono ?_
          rintro E w9 ⟨rfl, hb9⟩
          have p0 := (hb9.cell (p := ⟨w.heap.size, 0, none⟩) z0).trans p0
          have p1 := (hb9.cell (p := ⟨w.heap.size, 1, none⟩) z0).trans p1
          have p2 := (hb9.cell (p := ⟨w.heap.size, 2, none⟩) z0).trans p2
          have p3 := (hb9.cell (p := ⟨w.heap.size, 3, none⟩) z0).trans p3
          have p4 := (hb9.cell (p := ⟨w.heap.size, 4, none⟩) z0).trans p4
          have p5 := (hb9.cell (p := ⟨w.heap.size, 5, none⟩) z0).trans p5
          have q1 := (hb9.cell (p := ⟨wr.heap.size, 1, none⟩) z1).trans q1
          have q3 := (hb9.cell (p := ⟨wr.heap.size, 3, none⟩) z1).trans q3
          have hB : Below w.heap.size w w9 := by first | exact (hB.drew).trans (hb9.mono hB.size) | exact hB.trans (hb9.mono hB.size)
          have z0 := Nat.lt_of_lt_of_le z0 hb9.size
          have z1 := Nat.lt_of_lt_of_le z1 hb9.size))
      all_goals
        go_wp2_with fail
        go_roundw
        case rel => exact ⟨k + 1, by omega, by go_num, by rw [HS.out.1], by rw [HS.out.2], hB, p0, p1, p2, p3, p4, p5⟩
        case measure => simp [intOf]; omega
    · obtain rfl : k = l.length := by omega
      clear HC HL HJ HD HB0 HN hlt
      go_wp2_with fail
      go_ret
      exact ⟨rfl, hb⟩
end Go.Proofs.Ytgphkfonjfdifaa

namespace Go.Proofs.Ytgphkfonjfdifaa
set_option linter.unusedVariables false
set_option linter.unusedSimpArgs false
open Go.RowKit

set_option maxRecDepth 100000 in
set_option maxHeartbeats 1000000 in
theorem free_sh (s : Sh) (d : Int) (w : World) (hI : IntsS w s.aH s.H) (h4 : s.H.length ≤ 400) :
    Calls Try.prog 78 #[.agg #[.int .i64 s.O, .int .i64 s.C, .slice s.aH s.H.length s.cH, .int .i64 s.M, .slice s.aS s.S.length s.cS, .slice s.aJ s.J.length s.cJ], .int .i64 d] w fun e w' => e = .returned (.bool (hol s.H d)) ∧ Below w.heap.size w w' := by
  obtain ⟨hlen, hbd, blk, off, hadr, hc⟩ := hI
  have HC := Lib.hid hc
  have HL : Hid (0 < s.H.length → s.aH = some ⟨blk, off, none⟩) := Lib.hid fun h => hadr (fun e => by rw [e] at h; simp at h)
  have HT : Hid (∀ k, k < s.H.length → gi s.H k = d → hol s.H d = true) := Lib.hid fun k hk h => hol_iff.2 ⟨k, hk, h⟩
  have HF : Hid ((∀ j, j < s.H.length → gi s.H j ≠ d) → hol s.H d = false) := Lib.hid fun h => hol_false.2 h
  have hB := ShBox.start w s 25
  generalize hol s.H d = R at *
  clear hc hbd hadr
  go_enter Try.func78, Try.ntmps78
  go_wp2_with fail
  obtain ⟨wB, hwB⟩ : ∃ wB, w.alloc (.cells #[.int .i64 s.O, .int .i64 s.C, .slice s.aH s.H.length s.cH, .int .i64 s.M, .slice s.aS s.S.length s.cS, .slice s.aJ s.J.length s.cJ] 25) = wB := ⟨_, rfl⟩
  rw [hwB] at hB ⊢
  clear hwB
  go_loopw [5] (fun i wr => ∃ k : Nat, k ≤ s.H.length ∧ i = .int .i64 k ∧ ShBox w wr s ∧ Hid (∀ j, j < k → gi s.H j ≠ d)) (fun i _ => s.H.length - (intOf i).toNat)
  case atStart => exact ⟨0, Nat.zero_le _, rfl, hB, Lib.hid fun j hj => absurd hj (Nat.not_lt_zero _)⟩
  case round =>
    obtain ⟨k, hk, rfl, hB1, HA⟩ := hrel
    have HB := Lib.hid hB1
    obtain ⟨hb, p0, p1, p2, p3, p4, p5⟩ := hB1
    by_cases hlt : k < s.H.length
    · have ha := HL.out (by omega)
      have c0 := cell_below (HC.out k hlt) hb
      have HK : Hid (gi s.H k ≠ d → ∀ j, j < k + 1 → gi s.H j ≠ d) := Lib.hid fun h j hj => by
        by_cases e : j = k
        · subst e; exact h
        · exact HA.out j (by omega)
      have HTk := Lib.hid (HT.out k hlt)
      rw [ha] at p2
      clear HC HL HT HF ha
      generalize gi s.H k = x at *
      have n3 : (k : Int) < s.H.length := by omega
      by_cases hx : x = d
      · have HR := Lib.hid (HTk.out hx)
        have hx' : (x == d) = true := by simpa using hx
        clear HK HTk hx
        go_wp2_with fail
        go_ret
        rw [HR.out]
        exact ⟨rfl, hb⟩
      · have HR := Lib.hid (HK.out hx)
        have hx' : (x == d) = false := by simpa using hx
        clear HK HTk hx
        go_wp2_with fail
        go_roundw
        case rel => exact ⟨k + 1, by omega, by go_num, HB.out, HR⟩
        case measure => simp [intOf]; omega
    · obtain rfl : k = s.H.length := by omega
      have HR := Lib.hid (HF.out HA.out)
      clear HC HL HT HF hlt
      go_wp2_with fail
      go_ret
      rw [HR.out]
      exact ⟨rfl, hb⟩

set_option maxRecDepth 100000 in
set_option maxHeartbeats 1000000 in
theorem shift_sh (s : Sh) (t m : Int) (w : World) (hI : IntsS w s.aH s.H) (h4 : s.H.length ≤ 400) (o0 : 0 ≤ s.O) (o1 : s.O < s.C) (o2 : s.C ≤ 1440) (t0 : 0 ≤ t) (t1 : t ≤ 100000000000) (m0 : -100000 ≤ m) (m1 : m ≤ 100000) :
    Calls Try.prog 48 #[.agg #[.int .i64 s.O, .int .i64 s.C, .slice s.aH s.H.length s.cH, .int .i64 s.M, .slice s.aS s.S.length s.cS, .slice s.aJ s.J.length s.cJ], .int .i64 t, .int .i64 m] w fun e w' => e = .returned (.bool (inShB s.O s.C s.H t m)) ∧ Below w.heap.size w w' := by
  have HS := Lib.hid (fun W (hW : Below w.heap.size w W) => free_sh s (t / 1440) W (hI.below hW) h4)
  have hB := ShBox.start w s 25
  have hd0 : 0 ≤ t / 1440 := by omega
  have r0 : 0 ≤ t - 1440 * (t / 1440) := by omega
  have r1 : t - 1440 * (t / 1440) < 1440 := by omega
  have HT : Hid (inShB s.O s.C s.H t m = (!(hol s.H (t / 1440)) && (decide (s.O ≤ t - 1440 * (t / 1440)) && decide (t + m - 1440 * (t / 1440) ≤ s.C)))) := Lib.hid (by
    rw [Bool.eq_iff_iff, inShB_iff]; unfold InSh; simp only [Bool.and_eq_true, Bool.not_eq_true', decide_eq_true_iff]
    have : t % 1440 = t - 1440 * (t / 1440) := by omega
    rw [this]
    constructor
    · rintro ⟨h1, h2, h3⟩; exact ⟨h1, h2, by omega⟩
    · rintro ⟨h1, h2, h3⟩; exact ⟨h1, h2, by omega⟩)
  generalize inShB s.O s.C s.H t m = R at *
  generalize hol s.H (t / 1440) = hh at *
  clear hI
  go_enter Try.func48, Try.ntmps48
  go_wp2_with fail
  obtain ⟨wB, hwB⟩ : ∃ wB, w.alloc (.cells #[.int .i64 s.O, .int .i64 s.C, .slice s.aH s.H.length s.cH, .int .i64 s.M, .slice s.aS s.S.length s.cS, .slice s.aJ s.J.length s.cJ] 25) = wB := ⟨_, rfl⟩
  rw [hwB] at hB ⊢
  clear hwB
  refine (HS.out _ hB.1).mono ?_
  rintro e w1 ⟨rfl, hb1⟩
  have hB1 := hB.on hb1
  obtain ⟨hb, p0, p1, p2, p3, p4, p5⟩ := hB1
  clear hB hb1 HS
  go_wp2_with fail
  all_goals
    go_ret
    exact ⟨by rw [HT.out]; simp_all <;> omega, hb⟩

end Go.Proofs.Ytgphkfonjfdifaa

namespace Go.Proofs.Ytgphkfonjfdifaa
set_option linter.unusedVariables false
set_option linter.unusedSimpArgs false
open Go.RowKit

end Go.Proofs.Ytgphkfonjfdifaa
