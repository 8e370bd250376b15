/-
  Gone of package road. By an AI agent.
-/
import Derived.Test.YtdiabpcpcilclaaRoadI
import Derived.Deep.RegionHeld3
namespace Go.Proofs.Ytdiabpcpcilclaa
set_option linter.unusedVariables false
set_option linter.unusedSimpArgs false
open Go.RowKit

noncomputable def goV (N L : Int) (l : List Chg) (u v : Int) : Int := if errL N L l [u, v] = 0 then lenK L l u.toNat - (if lenK L l u.toNat = 0 then 0 else sumL (canL (keptP l (0, lenK L l u.toNat) u.toNat v.toNat))) else 0
/-- The metres of what is joined twice. -/
theorem tot_two {X d d2 : List Spn} (hp : d.Perm X) (hA : AscF d) (hp2 : d2.Perm (joinK d d.length)) (hA2 : AscF d2) (hI : InV 10000000 X) : (AllV X → sumL (joinK d2 d2.length) = sumL (canL X)) ∧ (sumL X ≤ 0 → sumL (joinK d2 d2.length) = 0) := by
  constructor
  · intro hV
    rw [(join_eq hV hp hA).1] at hp2
    have hC := (canL_ok hV).1
    rw [(join_eq hC.2 hp2 hA2).1, canL_self hC]
  · intro h0
    have h1 := join_sum (fun p hp => (hI p hp).2.1) hp
    have h2 := join_sum h1.1 hp2
    omega
set_option maxRecDepth 100000 in
set_option maxHeartbeats 4000000 in
theorem Gone_any (N L : Int) (a : Option Addr) (l : List Chg) (ca : Nat) (u v : Int) (w : World) (hA : QuadS w a l) (hca : l.length ≤ ca) :
    Calls Try.prog 12 #[.agg #[.int .i64 N, .int .i64 L, .slice a l.length ca], .int .i64 u, .int .i64 v] w fun e w' => e = .returned (.tuple #[.int .i64 (goV N L l u v), .int .i64 (errL N L l [u, v])]) ∧ Below w.heap.size w w' := by
  have HE := Lib.hid (fun W (hW : Below w.heap.size w W) b (h1 : W.cell? ⟨b, 0, none⟩ = some (.int .i64 u)) (h2 : W.cell? ⟨b, 1, none⟩ = some (.int .i64 v)) => roadErr_any N L a l ca (some ⟨b, 0, none⟩) [u, v] 2 W (hA.below hW) (ints2 h1 h2))
  have hlen := hA.1
  rcases errL_cases N L l [u, v] with ⟨hr, hw, he⟩ | he | he
  · rw [he] at HE
    obtain ⟨⟨u0, u1⟩, v0, v1⟩ := ver_ok (N := N) (L := L) hw
    obtain ⟨i, rfl⟩ : ∃ n : Nat, u = n := ⟨u.toNat, by omega⟩
    obtain ⟨j, rfl⟩ : ∃ n : Nat, v = n := ⟨v.toNat, by omega⟩
    have HL := Lib.hid (fun W (hW : Below w.heap.size w W) => lengthOf_any N L a l ca i W (hA.below hW) hca hr (by omega))
    obtain ⟨n0, n1⟩ := len_bd hr i (by omega)
    have hgo : goV N L l i j = lenK L l i - (if lenK L l i = 0 then 0 else sumL (canL (keptP l (0, lenK L l i) i j))) := by unfold goV; rw [if_pos he, Int.toNat_natCast, Int.toNat_natCast]
    obtain ⟨hk1, hk2, hk3⟩ := keptP_in hr (u := i) (v := j) (p := (0, lenK L l i)) (by omega) (by omega) ⟨Int.le_refl _, n0, Int.le_refl _⟩
    have hk4 : lenK L l i ≠ 0 → AllV (keptP l (0, lenK L l i) i j) := fun h => keptK_v (by simp only []; omega) _
    have HSw := Lib.hid (fun W (hW : Below w.heap.size w W) => swaps_any N L a l ca i j W (hA.below hW) hca hr (by omega) (by omega))
    have HKp := Lib.hid (fun b c W (hT : TripS W b (wayL l i j)) => keptW_any N L a l ca 0 (lenK L l i) i j hr (by omega) (by omega) ⟨Int.le_refl _, n0, Int.le_refl _⟩ b c W hT)
    generalize lenK L l i = n at *
    generalize keptP l (0, n) i j = X at *
    have HTot : Hid (∀ d b c W base, d.Perm X → W.ownsRow base 26 2 (.slice b (joinK d d.length).length c) (joinK d d.length).length (clS (joinK d d.length)) → ∀ W', Below W.heap.size W W' → Calls Try.prog 38 #[.slice b (joinK d d.length).length c] W' (TotE W' (joinK d d.length))) := Lib.hid fun d b c W base hp ho W' hW' => by
      have hIJ : InV 10000000 (joinK d d.length) := fun p hpp => by
        have h1 := (join_sum (fun p hp => (hk1 p hp).2.1) hp).1 p hpp
        obtain ⟨⟨q, hq, e1⟩, r, hr, e2⟩ := joinK_from d d.length (Nat.le_refl _) p hpp
        have hq := hk1 q (hp.mem_iff.1 hq)
        have hr := hk1 r (hp.mem_iff.1 hr)
        omega
      have hJL : (joinK d d.length).length ≤ 100000000 := by
        have h1 := joinK_len d d.length
        have := hp.length_eq
        omega
      exact total_raw b (joinK d d.length) c W' ((pairs_own ho (by omega) (fun j hj => inV_64 hIJ (Int.le_refl _) hj)).below hW') hJL hIJ
    have HVal : Hid (∀ d d2 : List Spn, d.Perm X → AscF d → d2.Perm (joinK d d.length) → AscF d2 → 0 ≤ sumL (joinK d2 d2.length) ∧ sumL (joinK d2 d2.length) ≤ 10000000 ∧ n - sumL (joinK d2 d2.length) = goV N L l i j) := Lib.hid fun d d2 hp hA hp2 hA2 => by
      have ht := tot_two hp hA hp2 hA2 hk1
      have h1 := join_sum (fun p hp => (hk1 p hp).2.1) hp
      have h2 := join_sum h1.1 hp2
      simp only [] at hk3
      refine ⟨h2.2.1, by omega, ?_⟩
      rw [hgo]
      by_cases h0 : n = 0
      · rw [if_pos h0, ht.2 (by omega)]
      · rw [if_neg h0, ht.1 (hk4 h0)]
    clear hA hr hw hgo hk1 hk2 hk3 hk4
    rw [he]
    clear he
    go_enter Try.func12, Try.ntmps12
    go_wp2_with fail
    obtain ⟨wB, hwB⟩ : ∃ wB, (w.alloc (.cells #[.int .i64 N, .int .i64 L, .slice a l.length ca] 24)).alloc (.cells #[.int .i64 i, .int .i64 j] 3) = wB := ⟨_, rfl⟩
    have HB := Lib.hid ((RdBox.start w N L a l ca 24).alloc (.cells #[.int .i64 i, .int .i64 j] 3))
    have pu : wB.cell? ⟨w.heap.size + 1, 0, none⟩ = some (.int .i64 i) := by rw [← hwB]; simp [go_sem]
    have pv : wB.cell? ⟨w.heap.size + 1, 1, none⟩ = some (.int .i64 j) := by rw [← hwB]; simp [go_sem]
    rw [hwB] at HB ⊢
    clear hwB
    refine (HE.out _ HB.out.1 _ pu pv).mono ?_
    rintro e w1 ⟨rfl, hb1⟩
    obtain ⟨hB, p0, p1, p2⟩ := HB.out.on hb1
    clear pu pv hb1 HB
    go_wp2_with fail
    refine (HL.out _ hB).mono ?_
    rintro e w2 ⟨rfl, hb2⟩
    have HB := Lib.hid (RdBox.on ⟨hB, p0, p1, p2⟩ hb2)
    clear hB p0 p1 p2 hb2
    go_wp2_with fail
    obtain ⟨B, hBB⟩ : ∃ B, w2.heap.size = B := ⟨_, rfl⟩
    have HB := Lib.hid (HB.out.alloc (.cells #[.int .i64 0, .int .i64 n] 26))
    have q0 : (w2.alloc (.cells #[.int .i64 0, .int .i64 n] 26)).cell? ⟨B, 0, none⟩ = some (.int .i64 0) := by rw [← hBB]; simp [go_sem]
    have q1 : (w2.alloc (.cells #[.int .i64 0, .int .i64 n] 26)).cell? ⟨B, 1, none⟩ = some (.int .i64 n) := by rw [← hBB]; simp [go_sem]
    rw [hBB]
    obtain ⟨wC, hwC⟩ : ∃ wC, w2.alloc (.cells #[.int .i64 0, .int .i64 n] 26) = wC := ⟨_, rfl⟩
    rw [hwC] at HB q0 q1 ⊢
    clear hwC hBB
    obtain ⟨hB, p0, p1, p2⟩ := HB.out
    clear HB
    have hz := block_lt p0
    have hzq := block_lt q0
    go_region_held3 (fun w' => w'.cell? ⟨w.heap.size, 0, none⟩ = some (.int .i64 N) ∧ w'.cell? ⟨w.heap.size, 1, none⟩ = some (.int .i64 L) ∧ w'.cell? ⟨w.heap.size, 2, none⟩ = some (.slice a l.length ca) ∧ w'.cell? ⟨B, 0, none⟩ = some (.int .i64 0) ∧ w'.cell? ⟨B, 1, none⟩ = some (.int .i64 n)) (go_keep)
      (first
        | (go_at_call 35
           refine (HSw.out _ (by first | exact hB.drew | exact hB | exact hB.drew.drew | exact below_drewN hB _ | exact below_drewN hB.drew _)).mono ?_
           rintro E w9 ⟨bw, cw, rfl, hT, hb9⟩
           have p0 := (hb9.cell (p := ⟨w.heap.size, 0, none⟩) hz).trans p0
           have p1 := (hb9.cell (p := ⟨w.heap.size, 1, none⟩) hz).trans p1
           have p2 := (hb9.cell (p := ⟨w.heap.size, 2, none⟩) hz).trans p2
           have q0 := (hb9.cell (p := ⟨B, 0, none⟩) hzq).trans q0
           have q1 := (hb9.cell (p := ⟨B, 1, none⟩) hzq).trans q1
           have hB : Below w.heap.size w w9 := by first | exact (hB.drew).trans (hb9.mono hB.size) | exact hB.trans (hb9.mono hB.size)
           have hz := Nat.lt_of_lt_of_le hz hb9.size
           have hzq := Nat.lt_of_lt_of_le hzq hb9.size)
        | (go_at_call 34
           refine (HKp.out bw cw _ (by first | exact hT | exact hT.below ((Below.refl _ _).drew) | exact hT.below (below_drewN (Below.refl _ _) _))).mono ?_
           rintro E w9 hU
           obtain ⟨d, hp, hA, bk, ck, rfl, ho, hb9⟩ := hU
           have HTt := Lib.hid (HTot.out d bk ck _ _ hp ho)
           have p0 := (hb9.cell (p := ⟨w.heap.size, 0, none⟩) hz).trans p0
           have p1 := (hb9.cell (p := ⟨w.heap.size, 1, none⟩) hz).trans p1
           have p2 := (hb9.cell (p := ⟨w.heap.size, 2, none⟩) hz).trans p2
           have q0 := (hb9.cell (p := ⟨B, 0, none⟩) hzq).trans q0
           have q1 := (hb9.cell (p := ⟨B, 1, none⟩) hzq).trans q1
           have hB : Below w.heap.size w w9 := by first | exact (hB.drew).trans (hb9.mono hB.size) | exact hB.trans (hb9.mono hB.size)
           have hz := Nat.lt_of_lt_of_le hz hb9.size
           have hzq := Nat.lt_of_lt_of_le hzq hb9.size)
        | (go_at_call 38
           refine (HTt.out _ (by first | exact Below.refl _ _ | exact (Below.refl _ _).drew | exact below_drewN (Below.refl _ _) _)).mono ?_
           rintro E w9 ⟨d2, hp2, hA2, rfl, hb9⟩
           have HV := Lib.hid (HVal.out d d2 hp hA hp2 hA2)
           obtain ⟨T, hTT⟩ : ∃ T, sumL (joinK d2 d2.length) = T := ⟨_, rfl⟩
           rw [hTT] at HV
           try rw [hTT]
           have t0 := HV.out.1
           have t1 := HV.out.2.1
           have wT : IntKind.i64.wrap (n - T) = n - T := IntWalk.i64_in _ (by omega)
           clear hTT
           have p0 := (hb9.cell (p := ⟨w.heap.size, 0, none⟩) hz).trans p0
           have p1 := (hb9.cell (p := ⟨w.heap.size, 1, none⟩) hz).trans p1
           have p2 := (hb9.cell (p := ⟨w.heap.size, 2, none⟩) hz).trans p2
           have q0 := (hb9.cell (p := ⟨B, 0, none⟩) hzq).trans q0
           have q1 := (hb9.cell (p := ⟨B, 1, none⟩) hzq).trans q1
           have hB : Below w.heap.size w w9 := by first | exact (hB.drew).trans (hb9.mono hB.size) | exact hB.trans (hb9.mono hB.size)
           have hz := Nat.lt_of_lt_of_le hz hb9.size
           have hzq := Nat.lt_of_lt_of_le hzq hb9.size))
    all_goals
      go_wp2_with fail
      go_ret2
      exact ⟨by rw [← HV.out.2.2]; first | rfl | (rw [← wT]; rfl), (by first | exact hB.drew | exact hB | exact hB.drew.drew | exact below_drewN hB _ | exact below_drewN hB.drew _)⟩

  · have e1 : goV N L l u v = 0 := by unfold goV; rw [if_neg (by rw [he]; decide)]
    rw [he] at HE
    rw [e1, he]
    clear hA he e1
    go_enter Try.func12, Try.ntmps12
    go_wp2_with fail
    obtain ⟨wB, hwB⟩ : ∃ wB, (w.alloc (.cells #[.int .i64 N, .int .i64 L, .slice a l.length ca] 24)).alloc (.cells #[.int .i64 u, .int .i64 v] 3) = wB := ⟨_, rfl⟩
    have HB := Lib.hid ((RdBox.start w N L a l ca 24).alloc (.cells #[.int .i64 u, .int .i64 v] 3))
    have pu : wB.cell? ⟨w.heap.size + 1, 0, none⟩ = some (.int .i64 u) := by rw [← hwB]; simp [go_sem]
    have pv : wB.cell? ⟨w.heap.size + 1, 1, none⟩ = some (.int .i64 v) := by rw [← hwB]; simp [go_sem]
    rw [hwB] at HB ⊢
    clear hwB
    refine (HE.out _ HB.out.1 _ pu pv).mono ?_
    rintro e w1 ⟨rfl, hb1⟩
    obtain ⟨hB, p0, p1, p2⟩ := HB.out.on hb1
    clear pu pv hb1 HB
    go_wp2_with fail
    go_ret2
    exact ⟨rfl, hB⟩

  · have e1 : goV N L l u v = 0 := by unfold goV; rw [if_neg (by rw [he]; decide)]
    rw [he] at HE
    rw [e1, he]
    clear hA he e1
    go_enter Try.func12, Try.ntmps12
    go_wp2_with fail
    obtain ⟨wB, hwB⟩ : ∃ wB, (w.alloc (.cells #[.int .i64 N, .int .i64 L, .slice a l.length ca] 24)).alloc (.cells #[.int .i64 u, .int .i64 v] 3) = wB := ⟨_, rfl⟩
    have HB := Lib.hid ((RdBox.start w N L a l ca 24).alloc (.cells #[.int .i64 u, .int .i64 v] 3))
    have pu : wB.cell? ⟨w.heap.size + 1, 0, none⟩ = some (.int .i64 u) := by rw [← hwB]; simp [go_sem]
    have pv : wB.cell? ⟨w.heap.size + 1, 1, none⟩ = some (.int .i64 v) := by rw [← hwB]; simp [go_sem]
    rw [hwB] at HB ⊢
    clear hwB
    refine (HE.out _ HB.out.1 _ pu pv).mono ?_
    rintro e w1 ⟨rfl, hb1⟩
    obtain ⟨hB, p0, p1, p2⟩ := HB.out.on hb1
    clear pu pv hb1 HB
    go_wp2_with fail
    go_ret2
    exact ⟨rfl, hB⟩

end Go.Proofs.Ytdiabpcpcilclaa
