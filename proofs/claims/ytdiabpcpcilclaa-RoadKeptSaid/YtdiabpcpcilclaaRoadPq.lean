/-
  The reference's kept, Kept and Gone. By an AI agent.
-/
import Derived.Test.YtdiabpcpcilclaaRoadPo
import Derived.Test.YtdiabpcpcilclaaRoadPc
import Derived.Test.YtdiabpcpcilclaaRoadI
import Derived.Test.YtdiabpcpcilclaaRoadJ
import Derived.Deep.RegionHeld3
import Derived.BigQuiet
namespace Go.Proofs.Ytdiabpcpcilclaa
set_option linter.unusedVariables false
set_option linter.unusedSimpArgs false
open Go.RowKit

theorem alloc_c0 (w : World) (B : Nat) (hB : w.heap.size = B) (c d : Value) (T : TypeId) : (w.alloc (.cells #[c, d] T)).cell? ⟨B, 0, none⟩ = some c := by subst hB; simp [go_sem]
theorem alloc_c1 (w : World) (B : Nat) (hB : w.heap.size = B) (c d : Value) (T : TypeId) : (w.alloc (.cells #[c, d] T)).cell? ⟨B, 1, none⟩ = some d := by subst hB; simp [go_sem]
theorem pairs1 {w : World} {b : Nat} {p : Spn} (h0 : w.cell? ⟨b, 0, none⟩ = some (.int .i64 p.1)) (h1 : w.cell? ⟨b, 1, none⟩ = some (.int .i64 p.2)) (hp : I64 p.1 ∧ I64 p.2) : PairsS w (some ⟨b, 0, none⟩) [p] := ⟨by simp, fun i hi => by
  obtain rfl : i = 0 := by simpa using hi
  exact hp, b, 0, fun _ => rfl, fun i hi => by
  obtain rfl : i = 0 := by simpa using hi
  exact ⟨h0, h1⟩⟩
set_option maxRecDepth 100000 in
set_option maxHeartbeats 2000000 in
theorem refkept_any (N L : Int) (a : Option Addr) (l : List Chg) (ca : Nat) (b0 : Nat) (x y : Int) (u v : Nat) (w : World) (hA : QuadS w a l) (q0 : w.cell? ⟨b0, 0, none⟩ = some (.int .i64 x)) (q1 : w.cell? ⟨b0, 1, none⟩ = some (.int .i64 y)) (hr : RoadOk N L l) (hu : u ≤ l.length) (hv : v ≤ l.length) (hx : 0 ≤ x ∧ x < y ∧ y ≤ lenK L l u) :
    Calls Try.prog 37 #[.agg #[.int .i64 N, .int .i64 L, .slice a l.length ca], .slice (some ⟨b0, 0, none⟩) 1 1, .int .i64 u, .int .i64 v] w (OwnE w (canL (keptP l (x, y) u v))) := by
  have h40 := hr.2.2.1
  obtain ⟨n0', n1'⟩ := len_bd hr u hu
  have HTw := Lib.hid (fun j (hj : j < dst u v) W => toward_w u v (by omega) (by omega) j hj W)
  have HSt := Lib.hid (fun j (hj : j < dst u v) W (hW : Below w.heap.size w W) => step_w N L a l ca u v hr hu hv j hj W (hA.below hW))
  have hs : ∀ i, i < dst u v → swOk (lenK L l (posK u v i)) (lenK L l (posK u v (i + 1))) (swK l u v i) := fun i hi => sw_ok hr hu hv hi
  have hp0 : 0 ≤ ((x, y) : Spn).1 ∧ ((x, y) : Spn).1 ≤ ((x, y) : Spn).2 ∧ ((x, y) : Spn).2 ≤ lenK L l (posK u v 0) := by rw [pos_0]; (try simp only []); omega
  have HKf : Hid (∀ k, k ≤ dst u v → InV (lenK L l (posK u v k)) (keptK (swK l u v) (x, y) k) ∧ sumL (keptK (swK l u v) (x, y) k) ≤ 10000000 ∧ (keptK (swK l u v) (x, y) k).length ≤ 10000000 ∧ lenK L l (posK u v k) ≤ 10000000) := Lib.hid fun k hk => by
    have h1 := keptK_in (len := fun j => lenK L l (posK u v j)) (p := (x, y)) hs hp0 k hk
    have h2 := keptK_sum (len := fun j => lenK L l (posK u v j)) (p := (x, y)) hs hp0 k hk
    have h3 := keptK_len (len := fun j => lenK L l (posK u v j)) (p := (x, y)) hs hp0 (by (try simp only []); rw [pos_0]; exact n1') k hk
    have h4 : posK u v k ≤ l.length := by unfold posK; unfold dst at hk; split <;> omega
    simp only [] at h2
    exact ⟨h1, by omega, h3, (len_bd hr _ h4).2⟩
  have HLf : Hid (∀ k, k < dst u v → ∀ b c W, PairsS W b (keptK (swK l u v) (x, y) k) → Calls Try.prog 44 #[.agg #[.int .i64 (swK l u v k).1, .int .i64 (swK l u v k).2.1, .int .i64 (swK l u v k).2.2], .slice b (keptK (swK l u v) (x, y) k).length c] W (LefE W (keptK (swK l u v) (x, y) (k + 1)))) := Lib.hid fun k hk b c W hP =>
    left_any _ _ _ b _ c _ _ W hP (hs k hk) (HKf.out k (by omega)).1 (HKf.out k (by omega)).2.1
  have HPn : Hid (∀ k, k ≤ dst u v → ∀ W base b c, W.ownsRow base 26 2 (.slice b (keptK (swK l u v) (x, y) k).length c) (keptK (swK l u v) (x, y) k).length (clS (keptK (swK l u v) (x, y) k)) → PairsS W b (keptK (swK l u v) (x, y) k)) := Lib.hid fun k hk W base b c h => by
    obtain ⟨k1, k2, k3, k4⟩ := HKf.out k hk
    exact pairs_own h (by omega) fun j hj => inV_64 k1 k4 hj
  have HJ : Hid (∀ b c W, PairsS W b (keptK (swK l u v) (x, y) (dst u v)) → Calls Try.prog 42 #[.slice b (keptK (swK l u v) (x, y) (dst u v)).length c] W (OwnE W (canL (keptK (swK l u v) (x, y) (dst u v))))) := Lib.hid fun b c W hP => by
    obtain ⟨k1, k2, k3, k4⟩ := HKf.out (dst u v) (Nat.le_refl _)
    exact joined_any b _ c W hP k3 (keptK_v hx.2.1 _) (inV_mono k4 k1)
  have HI : Hid (PairsS w (some ⟨b0, 0, none⟩) (keptK (swK l u v) (x, y) 0) ∧ (keptK (swK l u v) (x, y) 0).length = 1) := Lib.hid ⟨pairs1 (p := (x, y)) q0 q1 (by unfold I64; (try simp only []); omega), rfl⟩
  have HP : Hid (posK u v 0 = u ∧ posK u v (dst u v) = v ∧ (∀ j, j < dst u v → posK u v j ≠ v) ∧ (∀ j, j < dst u v → (((posK u v (j + 1) : Nat) : Int) - v).natAbs < (((posK u v j : Nat) : Int) - v).natAbs)) := Lib.hid ⟨pos_0 u v, pos_end u v, fun j hj => by unfold posK; unfold dst at hj; split <;> omega, fun j hj => by unfold posK; unfold dst at hj; split <;> omega⟩
  have hkp : keptP l (x, y) u v = keptK (swK l u v) (x, y) (dst u v) := rfl
  rw [hkp]
  obtain ⟨KK, hK⟩ : ∃ KK, keptK (swK l u v) (x, y) = KK := ⟨_, rfl⟩
  rw [hK] at HKf HLf HPn HJ HI ⊢
  obtain ⟨P, hP⟩ : ∃ P, posK u v = P := ⟨_, rfl⟩
  rw [hP] at HTw HSt HP
  obtain ⟨M, hM⟩ : ∃ M, dst u v = M := ⟨_, rfl⟩
  rw [hM] at HTw HSt HLf HPn HJ HP ⊢
  have hM80 : M ≤ 80 := by rw [← hM]; unfold dst; omega
  generalize canL (KK M) = RR at *
  clear hA hr hK hP hM hs hp0 hkp HKf q0 q1 hx n0' n1'
  go_enter Try.func37, Try.ntmps37
  go_wp2_with fail
  obtain ⟨wB, hwB⟩ : ∃ wB, w.alloc (.cells #[.int .i64 N, .int .i64 L, .slice a l.length ca] 24) = wB := ⟨_, rfl⟩
  have hB := RdBox.start w N L a l ca 24
  rw [hwB] at hB ⊢
  clear hwB
  have HB := Lib.hid hB
  obtain ⟨hb, p0, p1, p2⟩ := hB
  have HI := Lib.hid (And.intro (HI.out.1.below hb) HI.out.2)
  go_loopw [1, 2] (fun s y wr => ∃ (k : Nat), k ≤ M ∧ (∃ b c, s = .slice b (KK k).length c ∧ Hid (PairsS wr b (KK k))) ∧ y = .int .i64 (P k : Nat) ∧ RdBox w wr N L a l ca) (fun _ y _ => ((intOf y) - v).natAbs)
  case atStart => exact ⟨0, Nat.zero_le _, ⟨some ⟨b0, 0, none⟩, 1, by rw [HI.out.2], Lib.hid HI.out.1⟩, by rw [HP.out.1], HB.out⟩
  case round =>
    obtain ⟨k, hk, ⟨bq, cq, rfl, HQ⟩, rfl, hB⟩ := hrel
    obtain ⟨hb, p0, p1, p2⟩ := hB
    have HB := Lib.hid (show RdBox w wr N L a l ca from ⟨hb, p0, p1, p2⟩)
    by_cases hlt : k < M
    · have hne := HP.out.2.2.1 k hlt
      have HMs := Lib.hid (HP.out.2.2.2 k hlt)
      have HT := Lib.hid (HTw.out k hlt)
      have HS := Lib.hid (HSt.out k hlt)
      have HV := Lib.hid (HLf.out k hlt)
      have HPk := Lib.hid (HPn.out (k + 1) (by omega))
      have hq : (((P k : Nat) : Int) == (v : Int)) = false := by simp; omega
      clear HTw HSt HLf HPn HJ HI HP hne
      obtain ⟨Q, hQ⟩ : ∃ Q, P (k + 1) = Q := ⟨_, rfl⟩
      obtain ⟨Q0, hQ0⟩ : ∃ Q0, P k = Q0 := ⟨_, rfl⟩
      obtain ⟨S1, hS1⟩ : ∃ S1, KK (k + 1) = S1 := ⟨_, rfl⟩
      rw [hQ] at HT HS HMs
      rw [hQ0] at HT HS HMs hq ⊢
      rw [hS1] at HV HPk
      have HQQ := Lib.hid hQ
      have HS1 := Lib.hid hS1
      clear hQ hQ0 hS1
      generalize KK k = S0 at *
      generalize (swK l u v k).1 = s0 at *
      generalize (swK l u v k).2.1 = s1 at *
      generalize (swK l u v k).2.2 = s2 at *
      go_wp2_with fail
      refine (HT.out _).mono ?_
      rintro e w1 ⟨rfl, rfl⟩
      go_wp2_with fail
      refine (HS.out _ hb).mono ?_
      rintro e w2 ⟨rfl, hb2⟩
      have HB := Lib.hid (HB.out.on hb2)
      have HQ := Lib.hid (HQ.out.below hb2)
      obtain ⟨hb, p0, p1, p2⟩ := HB.out
      clear hb2
      go_wp2_with fail
      refine (HV.out _ _ _ HQ.out).mono ?_
      rintro e w3 ⟨b9, c9, rfl, ho9, hb3⟩
      have HB := Lib.hid (HB.out.on hb3)
      have H9 := Lib.hid (HPk.out _ _ _ _ ho9)
      clear hb3 hb p0 p1 p2 ho9 HQ
      go_wp2_with fail
      go_roundw
      case rel => exact ⟨k + 1, by omega, ⟨b9, c9, by rw [HS1.out], by rw [HS1.out]; exact H9⟩, by rw [HQQ.out], HB.out⟩
      case measure => have := HMs.out; simp [intOf]; omega
    · obtain rfl : k = M := by omega
      have hPk := HP.out.2.1
      have hj := Lib.hid (HJ.out bq cq wr HQ.out)
      rw [hPk]
      clear HTw HSt HLf HPn HJ HI HP hPk HQ
      generalize KK k = S0 at *
      go_wp2_with fail
      refine hj.out.mono ?_
      rintro e w3 ⟨b9, c9, rfl, ho9, hb3⟩
      have hE : Hid (OwnE w RR (.returned (.slice b9 RR.length c9)) w3) := Lib.hid ⟨b9, c9, rfl, owns_base ho9 hb.size, below_on hb hb3⟩
      clear ho9 hb3 hj
      go_wp2_with fail
      go_ret
      exact hE.out

set_option maxRecDepth 100000 in
set_option maxHeartbeats 1000000 in
theorem refKept_any (N L : Int) (a : Option Addr) (l : List Chg) (ca : Nat) (x y u v : Int) (w : World) (hA : QuadS w a l) :
    Calls Try.prog 11 #[.agg #[.int .i64 N, .int .i64 L, .slice a l.length ca], .agg #[.int .i64 x, .int .i64 y], .int .i64 u, .int .i64 v] w (LstE w (kpL N L l x y u v) (kpE N L l x y u v)) := by
  have hlen := hA.1
  rcases errL_cases N L l [u, v] with ⟨hr, hw, he⟩ | he | he
  · obtain ⟨⟨u0, u1⟩, v0, v1⟩ := ver_ok (N := N) (L := L) hw
    obtain ⟨i, rfl⟩ : ∃ n : Nat, u = n := ⟨u.toNat, by omega⟩
    obtain ⟨j, rfl⟩ : ∃ n : Nat, v = n := ⟨v.toNat, by omega⟩
    have HV := Lib.hid (ver_at N L a l ca i j w hA he (by omega))
    have hx1 : (i : Int) < (l.length : Int) + 1 := by omega
    have hx2 : (0 : Int) ≤ (i : Int) := by omega
    by_cases hc : 0 ≤ x ∧ x < y ∧ y ≤ lenK L l i
    · have hst := strB_t hc
      have e1 : kpE N L l x y i j = 0 := by unfold kpE; rw [if_pos he, Int.toNat_natCast, hst, if_pos rfl]
      have e2 : kpL N L l x y i j = canL (keptP l (x, y) i j) := by unfold kpL; rw [if_pos e1, Int.toNat_natCast, Int.toNat_natCast]
      rw [e1, e2]
      have HK := Lib.hid (fun W b (hW : Below w.heap.size w W) (h0 : W.cell? ⟨b, 0, none⟩ = some (.int .i64 x)) (h1 : W.cell? ⟨b, 1, none⟩ = some (.int .i64 y)) => refkept_any N L a l ca b x y i j W (hA.below hW) h0 h1 hr (by omega) (by omega) hc)
      obtain ⟨hk1, hk2, hk3⟩ := keptP_in hr (u := i) (v := j) (p := (x, y)) (by omega) (by omega) ⟨hc.1, by simp only []; omega, hc.2.2⟩
      have hkv : AllV (keptP l (x, y) i j) := keptK_v hc.2.1 _
      have HE : Hid (∀ W b c w', Below w.heap.size w W → w'.ownsRow W.heap.size 26 2 (.slice b (canL (keptP l (x, y) i j)).length c) (canL (keptP l (x, y) i j)).length (clS (canL (keptP l (x, y) i j))) → Below W.heap.size W w' → LstE w (canL (keptP l (x, y) i j)) 0 (.returned (.tuple #[.slice b (canL (keptP l (x, y) i j)).length c, .int .i64 0])) w') := Lib.hid fun W b c w' hW ho hb =>
        ⟨b, c, rfl, OwnE.pairs (w := W) ho (inV_canL hk1 hkv) (by have := (canL_ok hkv).2.2; omega), below_on hW hb, own_cap ho⟩
      generalize canL (keptP l (x, y) i j) = Q at *
      obtain ⟨c0, c1, c2⟩ := hc
      generalize lenK L l i = n at *
      have d0 : decide (x < 0) = false := decide_eq_false (by omega)
      have d1 : decide (y ≤ x) = false := decide_eq_false (by omega)
      have d2 : decide (n < y) = false := decide_eq_false (by omega)
      clear hA hr hw he e1 e2 hst hk1 hk2 hk3 hkv
      go_enter Try.func11, Try.ntmps11
      go_wp2_with fail
      obtain ⟨wB, hwB⟩ : ∃ wB, (w.alloc (.cells #[.int .i64 N, .int .i64 L, .slice a l.length ca] 24)).alloc (.cells #[.int .i64 x, .int .i64 y] 26) = wB := ⟨_, rfl⟩
      have hB := (RdBox.start w N L a l ca 24).alloc (.cells #[.int .i64 x, .int .i64 y] 26)
      have q0 : wB.cell? ⟨w.heap.size + 1, 0, none⟩ = some (.int .i64 x) := by rw [← hwB]; simp [go_sem]
      have q1 : wB.cell? ⟨w.heap.size + 1, 1, none⟩ = some (.int .i64 y) := by rw [← hwB]; simp [go_sem]
      rw [hwB] at hB ⊢
      clear hwB
      have HB := Lib.hid hB
      obtain ⟨hb, p0, p1, p2⟩ := hB
      refine (HV.out _ hb).mono ?_
      rintro e w1 ⟨b, c, rfl, ⟨blk, off, rfl, hcl⟩, hb1⟩
      have q0 := cell_below q0 hb1
      have q1 := cell_below q1 hb1
      have HB := Lib.hid (HB.out.on hb1)
      obtain ⟨hb, p0, p1, p2⟩ := HB.out
      clear hb1 HV
      go_wp2_with fail
      go_quiet (fail)
      go_wp2_with fail
      refine Calls.mono (HK.out _ _ ?k1 ?k2 ?k3) ?_
      case k1 => first | exact hb.drew.alloc (hb.drew).size _ | exact (below_drewN hb _).alloc (below_drewN hb _).size _ | exact hb.alloc hb.size _
      case k2 => exact alloc_c0 _ _ (by first | rfl | simp) _ _ _
      case k3 => exact alloc_c1 _ _ (by first | rfl | simp) _ _ _
      rintro e w2 ⟨b9, c9, rfl, ho9, hb9⟩
      have hE := Lib.hid (HE.out _ _ _ _ (by first | exact hb.drew.alloc (hb.drew).size _ | exact (below_drewN hb _).alloc (below_drewN hb _).size _ | exact hb.alloc hb.size _) ho9 hb9)
      clear ho9 hb9 HE HK
      go_wp2_with fail
      go_ret2
      exact hE.out
    · have hst := strB_f hc
      have e1 : kpE N L l x y i j = 2 := by unfold kpE; rw [if_pos he, Int.toNat_natCast, hst]; rfl
      have e2 : kpL N L l x y i j = [] := by unfold kpL; rw [e1]; rfl
      rw [e1, e2]
      have HLE : Hid (∀ W, Below w.heap.size w W → LstE w [] 2 (.returned (.tuple #[.slice none 0 0, .int .i64 2])) W) := Lib.hid fun W h2 => ⟨none, 0, rfl, pairs_nil W, h2, Nat.le_refl _⟩
      generalize lenK L l i = n at *
      clear hA hr hw he e1 e2 hst
      by_cases g0 : x < 0
      · have d0 : decide (x < 0) = true := decide_eq_true g0
        clear hc
        go_enter Try.func11, Try.ntmps11
        go_wp2_with fail
        obtain ⟨wB, hwB⟩ : ∃ wB, (w.alloc (.cells #[.int .i64 N, .int .i64 L, .slice a l.length ca] 24)).alloc (.cells #[.int .i64 x, .int .i64 y] 26) = wB := ⟨_, rfl⟩
        have hB := (RdBox.start w N L a l ca 24).alloc (.cells #[.int .i64 x, .int .i64 y] 26)
        have q0 : wB.cell? ⟨w.heap.size + 1, 0, none⟩ = some (.int .i64 x) := by rw [← hwB]; simp [go_sem]
        have q1 : wB.cell? ⟨w.heap.size + 1, 1, none⟩ = some (.int .i64 y) := by rw [← hwB]; simp [go_sem]
        rw [hwB] at hB ⊢
        clear hwB
        have HB := Lib.hid hB
        obtain ⟨hb, p0, p1, p2⟩ := hB
        refine (HV.out _ hb).mono ?_
        rintro e w1 ⟨b, c, rfl, ⟨blk, off, rfl, hcl⟩, hb1⟩
        have q0 := cell_below q0 hb1
        have q1 := cell_below q1 hb1
        have HB := Lib.hid (HB.out.on hb1)
        obtain ⟨hb, p0, p1, p2⟩ := HB.out
        clear hb1 HV
        go_wp2_with fail
        go_quiet (fail)
        go_wp2_with fail
        go_ret2
        exact HLE.out _ (by first | exact hb | exact hb.drew | exact below_drewN hb _)
      · have d0 : decide (x < 0) = false := decide_eq_false g0
        by_cases g1 : y ≤ x
        · have d1 : decide (y ≤ x) = true := decide_eq_true g1
          clear hc
          go_enter Try.func11, Try.ntmps11
          go_wp2_with fail
          obtain ⟨wB, hwB⟩ : ∃ wB, (w.alloc (.cells #[.int .i64 N, .int .i64 L, .slice a l.length ca] 24)).alloc (.cells #[.int .i64 x, .int .i64 y] 26) = wB := ⟨_, rfl⟩
          have hB := (RdBox.start w N L a l ca 24).alloc (.cells #[.int .i64 x, .int .i64 y] 26)
          have q0 : wB.cell? ⟨w.heap.size + 1, 0, none⟩ = some (.int .i64 x) := by rw [← hwB]; simp [go_sem]
          have q1 : wB.cell? ⟨w.heap.size + 1, 1, none⟩ = some (.int .i64 y) := by rw [← hwB]; simp [go_sem]
          rw [hwB] at hB ⊢
          clear hwB
          have HB := Lib.hid hB
          obtain ⟨hb, p0, p1, p2⟩ := hB
          refine (HV.out _ hb).mono ?_
          rintro e w1 ⟨b, c, rfl, ⟨blk, off, rfl, hcl⟩, hb1⟩
          have q0 := cell_below q0 hb1
          have q1 := cell_below q1 hb1
          have HB := Lib.hid (HB.out.on hb1)
          obtain ⟨hb, p0, p1, p2⟩ := HB.out
          clear hb1 HV
          go_wp2_with fail
          go_quiet (fail)
          go_wp2_with fail
          go_ret2
          exact HLE.out _ (by first | exact hb | exact hb.drew | exact below_drewN hb _)
        · have d1 : decide (y ≤ x) = false := decide_eq_false g1
          have d2 : decide (n < y) = true := decide_eq_true (by omega)
          clear hc
          go_enter Try.func11, Try.ntmps11
          go_wp2_with fail
          obtain ⟨wB, hwB⟩ : ∃ wB, (w.alloc (.cells #[.int .i64 N, .int .i64 L, .slice a l.length ca] 24)).alloc (.cells #[.int .i64 x, .int .i64 y] 26) = wB := ⟨_, rfl⟩
          have hB := (RdBox.start w N L a l ca 24).alloc (.cells #[.int .i64 x, .int .i64 y] 26)
          have q0 : wB.cell? ⟨w.heap.size + 1, 0, none⟩ = some (.int .i64 x) := by rw [← hwB]; simp [go_sem]
          have q1 : wB.cell? ⟨w.heap.size + 1, 1, none⟩ = some (.int .i64 y) := by rw [← hwB]; simp [go_sem]
          rw [hwB] at hB ⊢
          clear hwB
          have HB := Lib.hid hB
          obtain ⟨hb, p0, p1, p2⟩ := hB
          refine (HV.out _ hb).mono ?_
          rintro e w1 ⟨b, c, rfl, ⟨blk, off, rfl, hcl⟩, hb1⟩
          have q0 := cell_below q0 hb1
          have q1 := cell_below q1 hb1
          have HB := Lib.hid (HB.out.on hb1)
          obtain ⟨hb, p0, p1, p2⟩ := HB.out
          clear hb1 HV
          go_wp2_with fail
          go_quiet (fail)
          go_wp2_with fail
          go_ret2
          exact HLE.out _ (by first | exact hb | exact hb.drew | exact below_drewN hb _)
  · have e1 : kpE N L l x y u v = 60 := by unfold kpE; rw [if_neg (by rw [he]; decide), he]
    have e2 : kpL N L l x y u v = [] := by unfold kpL; rw [e1]; rfl
    have HV := Lib.hid (ver_bad N L a l ca u v w hA (by rw [he]; decide))
    rw [he] at HV
    rw [e1, e2]
    have HLE : Hid (∀ W, Below w.heap.size w W → LstE w [] 60 (.returned (.tuple #[.slice none 0 0, .int .i64 60])) W) := Lib.hid fun W h2 => ⟨none, 0, rfl, pairs_nil W, h2, Nat.le_refl _⟩
    clear hA he e1 e2
    go_enter Try.func11, Try.ntmps11
    go_wp2_with fail
    obtain ⟨wB, hwB⟩ : ∃ wB, (w.alloc (.cells #[.int .i64 N, .int .i64 L, .slice a l.length ca] 24)).alloc (.cells #[.int .i64 x, .int .i64 y] 26) = wB := ⟨_, rfl⟩
    have hB := (RdBox.start w N L a l ca 24).alloc (.cells #[.int .i64 x, .int .i64 y] 26)
    have q0 : wB.cell? ⟨w.heap.size + 1, 0, none⟩ = some (.int .i64 x) := by rw [← hwB]; simp [go_sem]
    have q1 : wB.cell? ⟨w.heap.size + 1, 1, none⟩ = some (.int .i64 y) := by rw [← hwB]; simp [go_sem]
    rw [hwB] at hB ⊢
    clear hwB
    have HB := Lib.hid hB
    obtain ⟨hb, p0, p1, p2⟩ := hB
    refine (HV.out _ hb).mono ?_
    rintro e w1 ⟨rfl, hb1⟩
    have HB := Lib.hid (HB.out.on hb1)
    obtain ⟨hb, p0, p1, p2⟩ := HB.out
    clear hb1
    go_wp2_with fail
    go_ret2
    exact HLE.out _ hb
  · have e1 : kpE N L l x y u v = 61 := by unfold kpE; rw [if_neg (by rw [he]; decide), he]
    have e2 : kpL N L l x y u v = [] := by unfold kpL; rw [e1]; rfl
    have HV := Lib.hid (ver_bad N L a l ca u v w hA (by rw [he]; decide))
    rw [he] at HV
    rw [e1, e2]
    have HLE : Hid (∀ W, Below w.heap.size w W → LstE w [] 61 (.returned (.tuple #[.slice none 0 0, .int .i64 61])) W) := Lib.hid fun W h2 => ⟨none, 0, rfl, pairs_nil W, h2, Nat.le_refl _⟩
    clear hA he e1 e2
    go_enter Try.func11, Try.ntmps11
    go_wp2_with fail
    obtain ⟨wB, hwB⟩ : ∃ wB, (w.alloc (.cells #[.int .i64 N, .int .i64 L, .slice a l.length ca] 24)).alloc (.cells #[.int .i64 x, .int .i64 y] 26) = wB := ⟨_, rfl⟩
    have hB := (RdBox.start w N L a l ca 24).alloc (.cells #[.int .i64 x, .int .i64 y] 26)
    have q0 : wB.cell? ⟨w.heap.size + 1, 0, none⟩ = some (.int .i64 x) := by rw [← hwB]; simp [go_sem]
    have q1 : wB.cell? ⟨w.heap.size + 1, 1, none⟩ = some (.int .i64 y) := by rw [← hwB]; simp [go_sem]
    rw [hwB] at hB ⊢
    clear hwB
    have HB := Lib.hid hB
    obtain ⟨hb, p0, p1, p2⟩ := hB
    refine (HV.out _ hb).mono ?_
    rintro e w1 ⟨rfl, hb1⟩
    have HB := Lib.hid (HB.out.on hb1)
    obtain ⟨hb, p0, p1, p2⟩ := HB.out
    clear hb1
    go_wp2_with fail
    go_ret2
    exact HLE.out _ hb
set_option maxRecDepth 100000 in
set_option maxHeartbeats 2000000 in
theorem refGone_any (N L : Int) (a : Option Addr) (l : List Chg) (ca : Nat) (u v : Int) (w : World) (hA : QuadS w a l) :
    Calls Try.prog 13 #[.agg #[.int .i64 N, .int .i64 L, .slice a l.length ca], .int .i64 u, .int .i64 v] w fun e w' => e = .returned (.tuple #[.int .i64 (goV N L l u v), .int .i64 (errL N L l [u, v])]) ∧ Below w.heap.size w w' := by
  have hlen := hA.1
  rcases errL_cases N L l [u, v] with ⟨hr, hw, he⟩ | he | he
  · obtain ⟨⟨u0, u1⟩, v0, v1⟩ := ver_ok (N := N) (L := L) hw
    obtain ⟨i, rfl⟩ : ∃ n : Nat, u = n := ⟨u.toNat, by omega⟩
    obtain ⟨j, rfl⟩ : ∃ n : Nat, v = n := ⟨v.toNat, by omega⟩
    have HV := Lib.hid (ver_at N L a l ca i j w hA he (by omega))
    have hx1 : (i : Int) < (l.length : Int) + 1 := by omega
    have hx2 : (0 : Int) ≤ (i : Int) := by omega
    obtain ⟨n0, n1⟩ := len_bd hr i (by omega)
    have hgo : goV N L l i j = lenK L l i - (if lenK L l i = 0 then 0 else sumL (canL (keptP l (0, lenK L l i) i j))) := by unfold goV; rw [if_pos he, Int.toNat_natCast, Int.toNat_natCast]
    rw [hgo, he]
    by_cases hz : lenK L l i = 0
    · rw [if_pos hz, hz] 
      rw [hz] at HV
      clear hA hr hw he hz n0 n1 hgo
      go_enter Try.func13, Try.ntmps13
      go_wp2_with fail
      obtain ⟨wB, hwB⟩ : ∃ wB, w.alloc (.cells #[.int .i64 N, .int .i64 L, .slice a l.length ca] 24) = wB := ⟨_, rfl⟩
      have hB := RdBox.start w N L a l ca 24
      rw [hwB] at hB ⊢
      clear hwB
      have HB := Lib.hid hB
      obtain ⟨hb, p0, p1, p2⟩ := hB
      refine (HV.out _ hb).mono ?_
      rintro e w1 ⟨b, c, rfl, ⟨blk, off, rfl, hcl⟩, hb1⟩
      have HB := Lib.hid (HB.out.on hb1)
      obtain ⟨hb, p0, p1, p2⟩ := HB.out
      clear hb1 HV
      go_wp2_with fail
      go_ret2
      exact ⟨rfl, hb⟩
    · rw [if_neg hz]
      have HK := Lib.hid (fun W b (hW : Below w.heap.size w W) (h0 : W.cell? ⟨b, 0, none⟩ = some (.int .i64 0)) (h1 : W.cell? ⟨b, 1, none⟩ = some (.int .i64 (lenK L l i))) => refkept_any N L a l ca b 0 (lenK L l i) i j W (hA.below hW) h0 h1 hr (by omega) (by omega) ⟨Int.le_refl _, by omega, Int.le_refl _⟩)
      obtain ⟨hk1, hk2, hk3⟩ := keptP_in hr (u := i) (v := j) (p := (0, lenK L l i)) (by omega) (by omega) ⟨Int.le_refl _, n0, Int.le_refl _⟩
      have hkv : AllV (keptP l (0, lenK L l i) i j) := keptK_v (by simp only []; omega) _
      generalize lenK L l i = n at *
      generalize keptP l (0, n) i j = X at *
      have hqi := inV_canL hk1 hkv
      have hqs := canon_sum (canL_ok hkv).1 hqi
      have hql := (canL_ok hkv).2.2
      generalize canL X = Q at *
      have HM : Hid (∀ base b c W, W.ownsRow base 26 2 (.slice b Q.length c) Q.length (clS Q) → ∀ W', Below W.heap.size W W' → Calls Try.prog 39 #[.slice b Q.length c] W' fun e w2 => e = .returned (.int .i64 (sumL Q)) ∧ Below W'.heap.size W' w2) := Lib.hid fun base b c W ho W' hW' =>
        metres_any b Q c W' ((pairs_own ho (by omega) fun j hj => inV_64 hqi (Int.le_refl _) hj).below hW') hqi hqs.2
      obtain ⟨t0, t1⟩ := hqs
      generalize sumL Q = T at *
      have wT : IntKind.i64.wrap (n - T) = n - T := IntWalk.i64_in _ (by omega)
      have hzb : (n == 0) = false := by simpa using hz
      clear hA hr hw he hgo hk1 hk2 hk3 hkv hqi hql
      go_enter Try.func13, Try.ntmps13
      go_wp2_with fail
      obtain ⟨wB, hwB⟩ : ∃ wB, w.alloc (.cells #[.int .i64 N, .int .i64 L, .slice a l.length ca] 24) = wB := ⟨_, rfl⟩
      have hB := RdBox.start w N L a l ca 24
      rw [hwB] at hB ⊢
      clear hwB
      have HB := Lib.hid hB
      obtain ⟨hb, p0, p1, p2⟩ := hB
      refine (HV.out _ hb).mono ?_
      rintro e w1 ⟨b, c, rfl, ⟨blk, off, rfl, hcl⟩, hb1⟩
      have HB := Lib.hid (HB.out.on hb1)
      obtain ⟨hb, p0, p1, p2⟩ := HB.out
      clear hb1 HV
      have hz1 := block_lt p0
      have hz2 := block_lt hcl
      go_wp2_with fail
      go_region_held3 (fun w' => w'.cell? ⟨w.heap.size, 0, none⟩ = some (.int .i64 N) ∧ w'.cell? ⟨w.heap.size, 1, none⟩ = some (.int .i64 L) ∧ w'.cell? ⟨w.heap.size, 2, none⟩ = some (.slice a l.length ca) ∧ w'.cell? ⟨blk, off + i, none⟩ = some (.int .i64 n)) (go_keep)
        (first
          | (go_at_call 37
             refine Calls.mono (HK.out _ _ ?k4 ?k5 ?k6) ?_
             case k4 => exact below_on hb (by first | exact (Below.refl _ _).alloc (Nat.le_refl _) _ | exact ((Below.refl _ _).alloc (Nat.le_refl _) _).drew | exact ((Below.refl _ _).drew).alloc (Nat.le_refl _) _ | exact (((Below.refl _ _).drew).alloc (Nat.le_refl _) _).drew | exact (below_drewN (Below.refl _ _) _).alloc (Nat.le_refl _) _ | exact ((below_drewN (Below.refl _ _) _).alloc (Nat.le_refl _) _).drew)
             case k5 => simp [go_sem]
             case k6 => simp [go_sem]
             rintro E w9 ⟨b9, c9, rfl, ho9, hb9⟩
             have hbx : Below w1.heap.size w1 w9 := by
               refine below_on ?_ hb9
               exact (by first | exact (Below.refl _ _).alloc (Nat.le_refl _) _ | exact ((Below.refl _ _).alloc (Nat.le_refl _) _).drew | exact ((Below.refl _ _).drew).alloc (Nat.le_refl _) _ | exact (((Below.refl _ _).drew).alloc (Nat.le_refl _) _).drew | exact (below_drewN (Below.refl _ _) _).alloc (Nat.le_refl _) _ | exact ((below_drewN (Below.refl _ _) _).alloc (Nat.le_refl _) _).drew)
             have p0 := cell_below p0 hbx
             have p1 := cell_below p1 hbx
             have p2 := cell_below p2 hbx
             have hcl := cell_below hcl hbx
             have hb := below_on hb hbx
             have HMt := Lib.hid (HM.out _ _ _ _ ho9)
             clear ho9 hbx)
          | (go_at_call 39
             refine (HMt.out _ (by first | exact Below.refl _ _ | exact (Below.refl _ _).drew | exact below_drewN (Below.refl _ _) _)).mono ?_
             rintro E w8 ⟨rfl, hb8⟩
             have hb88 : Below w9.heap.size w9 w8 := by first | exact hb8 | exact ((Below.refl _ _).drew).trans hb8
             have p0 := cell_below p0 hb88
             have p1 := cell_below p1 hb88
             have p2 := cell_below p2 hb88
             have hcl := cell_below hcl hb88
             have hb := below_on hb hb88))
      all_goals
        go_wp2_with fail
        go_ret2
        exact ⟨by first | rfl | (rw [← wT]; rfl), by first | exact hb | exact hb.drew | exact below_drewN hb _⟩
  · have e1 : goV N L l u v = 0 := by unfold goV; rw [if_neg (by rw [he]; decide)]
    have HV := Lib.hid (ver_bad N L a l ca u v w hA (by rw [he]; decide))
    rw [he] at HV
    rw [e1, he]
    clear hA he e1
    go_enter Try.func13, Try.ntmps13
    go_wp2_with fail
    obtain ⟨wB, hwB⟩ : ∃ wB, w.alloc (.cells #[.int .i64 N, .int .i64 L, .slice a l.length ca] 24) = wB := ⟨_, rfl⟩
    have hB := RdBox.start w N L a l ca 24
    rw [hwB] at hB ⊢
    clear hwB
    have HB := Lib.hid hB
    obtain ⟨hb, p0, p1, p2⟩ := hB
    refine (HV.out _ hb).mono ?_
    rintro e w1 ⟨rfl, hb1⟩
    have HB := Lib.hid (HB.out.on hb1)
    obtain ⟨hb, p0, p1, p2⟩ := HB.out
    clear hb1
    go_wp2_with fail
    go_ret2
    exact ⟨rfl, hb⟩
  · have e1 : goV N L l u v = 0 := by unfold goV; rw [if_neg (by rw [he]; decide)]
    have HV := Lib.hid (ver_bad N L a l ca u v w hA (by rw [he]; decide))
    rw [he] at HV
    rw [e1, he]
    clear hA he e1
    go_enter Try.func13, Try.ntmps13
    go_wp2_with fail
    obtain ⟨wB, hwB⟩ : ∃ wB, w.alloc (.cells #[.int .i64 N, .int .i64 L, .slice a l.length ca] 24) = wB := ⟨_, rfl⟩
    have hB := RdBox.start w N L a l ca 24
    rw [hwB] at hB ⊢
    clear hwB
    have HB := Lib.hid hB
    obtain ⟨hb, p0, p1, p2⟩ := hB
    refine (HV.out _ hb).mono ?_
    rintro e w1 ⟨rfl, hb1⟩
    have HB := Lib.hid (HB.out.on hb1)
    obtain ⟨hb, p0, p1, p2⟩ := HB.out
    clear hb1
    go_wp2_with fail
    go_ret2
    exact ⟨rfl, hb⟩
end Go.Proofs.Ytdiabpcpcilclaa
