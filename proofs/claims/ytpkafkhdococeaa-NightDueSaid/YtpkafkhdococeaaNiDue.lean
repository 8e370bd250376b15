/-
  DueJob of package night and of its reference. By an AI agent.
-/
import Derived.Test.YtpkafkhdococeaaNiRc
import Derived.Test.YtpkafkhdococeaaLightVD
import Derived.Deep.RegionHeld3
import Derived.BigQuiet
namespace Go.Proofs.Ytpkafkhdococeaa
set_option linter.unusedVariables false
set_option linter.unusedSimpArgs false
open Go.RowKit

noncomputable def dqD (z0 z1 z2 z3 side : Int) (l : List (Int × Int)) (least : Int) : Int := dueD (gp l (l.length - 1)).1 (dueY z0 z1 z2 z3 side l least)
noncomputable def dqO (z0 z1 z2 z3 side : Int) (l : List (Int × Int)) (least : Int) : Bool := (dueY z0 z1 z2 z3 side l least).isSome
/-- What DueJob returns. -/
noncomputable def djV (n r c cr z0 z1 z2 z3 side : Int) (l : List (Int × Int)) (least lead : Int) : Value :=
  if btw n 1 1000000000 && (placeB r c cr && btw lead 0 100000) then
    (if dqO z0 z1 z2 z3 side l least then
      .tuple #[.agg #[.int .i64 n, .int .i64 r, .int .i64 c, .int .i64 (max (max (dqD z0 z1 z2 z3 side l least - 1) (gp l (l.length - 1)).1 - lead) 0), .int .i64 (max (dqD z0 z1 z2 z3 side l least - 1) (gp l (l.length - 1)).1), .int .i64 cr, .bool true, .bool false], .bool true, .int .i64 0]
     else .tuple #[.agg #[.int .i64 0, .int .i64 0, .int .i64 0, .int .i64 0, .int .i64 0, .int .i64 0, .bool false, .bool false], .bool false, .int .i64 (dueE z0 z1 z2 z3 side l least)])
  else .tuple #[.agg #[.int .i64 0, .int .i64 0, .int .i64 0, .int .i64 0, .int .i64 0, .int .i64 0, .bool false, .bool false], .bool false, .int .i64 2]
theorem dq_good {z0 z1 z2 z3 side : Int} {l : List (Int × Int)} {least : Int} (h : dqO z0 z1 z2 z3 side l least = true) :
    dueE z0 z1 z2 z3 side l least = 0 ∧ 0 < l.length ∧ (0 ≤ (gp l (l.length - 1)).1 ∧ (gp l (l.length - 1)).1 ≤ 100000) ∧ 0 ≤ dqD z0 z1 z2 z3 side l least ∧ dqD z0 z1 z2 z3 side l least ≤ 1000000 := by
  unfold dqO at h
  obtain ⟨y, hy⟩ := Option.isSome_iff_exists.1 h
  have hB : dueB z0 z1 z2 z3 side l least = true := by
    cases e : dueB z0 z1 z2 z3 side l least with
    | true => rfl
    | false => unfold dueY at hy; rw [e] at hy; cases hy
  have hE : dueE z0 z1 z2 z3 side l least = 0 := by unfold dueE; rw [if_pos hB]
  have hH : hisB z0 z1 z2 z3 side l = true := by unfold dueB at hB; rw [Bool.and_eq_true] at hB; exact hB.1
  have hM := (hisB_iff.1 hH).2.2.2.2.2
  have n0 := hM.1
  have hl : 0 < l.length := by omega
  obtain ⟨m0, m1, m2, m3⟩ := mes_day hM (show l.length - 1 < l.length by omega)
  unfold dueY at hy
  rw [if_pos hB] at hy
  have h1 := (dueIx_some hy).1
  have hD : dqD z0 z1 z2 z3 side l least = (gp l (l.length - 1)).1 + y * 365 := by
    unfold dqD dueY; rw [if_pos hB, hy]; rfl
  rw [hD]
  unfold dueN at h1
  exact ⟨hE, hl, ⟨by omega, by omega⟩, by omega, by omega⟩
theorem set8 (W : World) (B : Nat) (v0 v1 v2 v3 v4 v5 v6 v7 : Value) (h : ∀ i, i < 8 → (W.cell? ⟨B, i, none⟩).isSome = true) :
    ∃ W', ((((((((W.setCell ⟨B, 0, none⟩ v0).setCell ⟨B, 1, none⟩ v1).setCell ⟨B, 2, none⟩ v2).setCell ⟨B, 3, none⟩ v3).setCell ⟨B, 4, none⟩ v4).setCell ⟨B, 5, none⟩ v5).setCell ⟨B, 6, none⟩ v6).setCell ⟨B, 7, none⟩ v7) = W' ∧
      W'.cell? ⟨B, 0, none⟩ = some v0 ∧ W'.cell? ⟨B, 1, none⟩ = some v1 ∧ W'.cell? ⟨B, 2, none⟩ = some v2 ∧ W'.cell? ⟨B, 3, none⟩ = some v3 ∧ W'.cell? ⟨B, 4, none⟩ = some v4 ∧ W'.cell? ⟨B, 5, none⟩ = some v5 ∧ W'.cell? ⟨B, 6, none⟩ = some v6 ∧ W'.cell? ⟨B, 7, none⟩ = some v7 ∧
      ∀ (C : Nat) (w : World), C ≤ B → Below C w W → Below C w W' := by
  have e : ((((((((W.setCell ⟨B, 0, none⟩ v0).setCell ⟨B, 1, none⟩ v1).setCell ⟨B, 2, none⟩ v2).setCell ⟨B, 3, none⟩ v3).setCell ⟨B, 4, none⟩ v4).setCell ⟨B, 5, none⟩ v5).setCell ⟨B, 6, none⟩ v6).setCell ⟨B, 7, none⟩ v7) = W.setCells B 0 [v0, v1, v2, v3, v4, v5, v6, v7] := rfl
  have k : ∀ j (hj : j < 8), (W.setCells B 0 [v0, v1, v2, v3, v4, v5, v6, v7]).cell? ⟨B, 0 + j, none⟩ = some ([v0, v1, v2, v3, v4, v5, v6, v7][j]'hj) := fun j hj => World.cell?_setCells_in B [v0, v1, v2, v3, v4, v5, v6, v7] 0 W (fun i hi => by rw [Nat.zero_add]; exact h i hi) j hj
  exact ⟨_, e, k 0 (by decide), k 1 (by decide), k 2 (by decide), k 3 (by decide), k 4 (by decide), k 5 (by decide), k 6 (by decide), k 7 (by decide), fun C w hC hw => below_cellsN hC _ 0 _ hw⟩
theorem eight {P : Nat → Prop} (h0 : P 0) (h1 : P 1) (h2 : P 2) (h3 : P 3) (h4 : P 4) (h5 : P 5) (h6 : P 6) (h7 : P 7) : ∀ i, i < 8 → P i := fun i hi => by
  match i, hi with
  | 0, _ => exact h0
  | 1, _ => exact h1
  | 2, _ => exact h2
  | 3, _ => exact h3
  | 4, _ => exact h4
  | 5, _ => exact h5
  | 6, _ => exact h6
  | 7, _ => exact h7
theorem isSome_of {o : Option Value} {v : Value} (h : o = some v) : o.isSome = true := by rw [h]; rfl
set_option maxRecDepth 100000 in
set_option maxHeartbeats 2000000 in
theorem dueJob_a (n r c cr z0 z1 z2 z3 side : Int) (a : Option Addr) (l : List (Int × Int)) (cap : Nat) (least lead : Int) (w : World) (hP : PairsS w a l) (hle : I64 least) (hld : I64 lead) (h0 : btw n 1 1000000000 = false) :
    Calls Try.prog 37 #[.int .i64 n, .int .i64 r, .int .i64 c, .int .i64 cr, .agg #[.int .i64 z0, .int .i64 z1, .int .i64 z2, .int .i64 z3], .int .i64 side, .slice a l.length cap, .int .i64 least, .int .i64 lead] w fun e w' => e = .returned (djV n r c cr z0 z1 z2 z3 side l least lead) ∧ Below w.heap.size w w' := by
  have HV : Hid (djV n r c cr z0 z1 z2 z3 side l least lead = .tuple #[.agg #[.int .i64 0, .int .i64 0, .int .i64 0, .int .i64 0, .int .i64 0, .int .i64 0, .bool false, .bool false], .bool false, .int .i64 2]) := Lib.hid (by unfold djV; simp [h0])
  have H0 := Lib.hid h0
  clear h0
  obtain ⟨wB, hwB⟩ : ∃ wB, ((w.alloc (.cells #[.int .i64 z0, .int .i64 z1, .int .i64 z2, .int .i64 z3] 62)).alloc (.cells #[.int .i64 0, .int .i64 0, .int .i64 0, .int .i64 0, .int .i64 0, .int .i64 0, .bool false, .bool false] 53)) = wB := ⟨_, rfl⟩
  have hb : Below w.heap.size w wB := by rw [← hwB]; exact ((Below.refl _ _).alloc (Nat.le_refl _) _).alloc (by simp) _
  have p0 : wB.cell? ⟨w.heap.size, 0, none⟩ = some (.int .i64 z0) := by rw [← hwB]; simp [go_sem]
  have p1 : wB.cell? ⟨w.heap.size, 1, none⟩ = some (.int .i64 z1) := by rw [← hwB]; simp [go_sem]
  have p2 : wB.cell? ⟨w.heap.size, 2, none⟩ = some (.int .i64 z2) := by rw [← hwB]; simp [go_sem]
  have p3 : wB.cell? ⟨w.heap.size, 3, none⟩ = some (.int .i64 z3) := by rw [← hwB]; simp [go_sem]
  have r0 : wB.cell? ⟨w.heap.size + 1, 0, none⟩ = some (.int .i64 0) := by rw [← hwB]; simp [go_sem]
  have s0 : wB.frozen? ⟨w.heap.size + 1, 0, none⟩ = false := by rw [← hwB]; simp [go_sem]
  have r1 : wB.cell? ⟨w.heap.size + 1, 1, none⟩ = some (.int .i64 0) := by rw [← hwB]; simp [go_sem]
  have s1 : wB.frozen? ⟨w.heap.size + 1, 1, none⟩ = false := by rw [← hwB]; simp [go_sem]
  have r2 : wB.cell? ⟨w.heap.size + 1, 2, none⟩ = some (.int .i64 0) := by rw [← hwB]; simp [go_sem]
  have s2 : wB.frozen? ⟨w.heap.size + 1, 2, none⟩ = false := by rw [← hwB]; simp [go_sem]
  have r3 : wB.cell? ⟨w.heap.size + 1, 3, none⟩ = some (.int .i64 0) := by rw [← hwB]; simp [go_sem]
  have s3 : wB.frozen? ⟨w.heap.size + 1, 3, none⟩ = false := by rw [← hwB]; simp [go_sem]
  have r4 : wB.cell? ⟨w.heap.size + 1, 4, none⟩ = some (.int .i64 0) := by rw [← hwB]; simp [go_sem]
  have s4 : wB.frozen? ⟨w.heap.size + 1, 4, none⟩ = false := by rw [← hwB]; simp [go_sem]
  have r5 : wB.cell? ⟨w.heap.size + 1, 5, none⟩ = some (.int .i64 0) := by rw [← hwB]; simp [go_sem]
  have s5 : wB.frozen? ⟨w.heap.size + 1, 5, none⟩ = false := by rw [← hwB]; simp [go_sem]
  have r6 : wB.cell? ⟨w.heap.size + 1, 6, none⟩ = some (.bool false) := by rw [← hwB]; simp [go_sem]
  have s6 : wB.frozen? ⟨w.heap.size + 1, 6, none⟩ = false := by rw [← hwB]; simp [go_sem]
  have r7 : wB.cell? ⟨w.heap.size + 1, 7, none⟩ = some (.bool false) := by rw [← hwB]; simp [go_sem]
  have s7 : wB.frozen? ⟨w.heap.size + 1, 7, none⟩ = false := by rw [← hwB]; simp [go_sem]

  clear hP hle hld
  go_enter Try.func37, Try.ntmps37
  go_wp2_with fail
  refine (withinN1_any 1 1000000000 n _ _ (by simp [go_sem])).mono ?_
  rintro e w1 ⟨rfl, hb1⟩
  rw [H0.out]
  have hb1 := box_below hb1
  have p0 := cell_below p0 hb1
  have p1 := cell_below p1 hb1
  have p2 := cell_below p2 hb1
  have p3 := cell_below p3 hb1
  have hzr := block_lt r0
  have s0 := (Below.frozen hb1 (p := ⟨w.heap.size + 1, 0, none⟩) hzr).trans s0
  have r0 := cell_below r0 hb1
  have s1 := (Below.frozen hb1 (p := ⟨w.heap.size + 1, 1, none⟩) hzr).trans s1
  have r1 := cell_below r1 hb1
  have s2 := (Below.frozen hb1 (p := ⟨w.heap.size + 1, 2, none⟩) hzr).trans s2
  have r2 := cell_below r2 hb1
  have s3 := (Below.frozen hb1 (p := ⟨w.heap.size + 1, 3, none⟩) hzr).trans s3
  have r3 := cell_below r3 hb1
  have s4 := (Below.frozen hb1 (p := ⟨w.heap.size + 1, 4, none⟩) hzr).trans s4
  have r4 := cell_below r4 hb1
  have s5 := (Below.frozen hb1 (p := ⟨w.heap.size + 1, 5, none⟩) hzr).trans s5
  have r5 := cell_below r5 hb1
  have s6 := (Below.frozen hb1 (p := ⟨w.heap.size + 1, 6, none⟩) hzr).trans s6
  have r6 := cell_below r6 hb1
  have s7 := (Below.frozen hb1 (p := ⟨w.heap.size + 1, 7, none⟩) hzr).trans s7
  have r7 := cell_below r7 hb1
  have hb := below_onN hb hb1 hb.size
  clear hzr
  clear hwB hb1
  go_wp2_with fail
  obtain ⟨wz, hwz, x0, x1, x2, x3, x4, x5, x6, x7, hbz⟩ := set8 _ (w.heap.size + 1) (.int .i64 0) (.int .i64 0) (.int .i64 0) (.int .i64 0) (.int .i64 0) (.int .i64 0) (.bool false) (.bool false) (eight (isSome_of r0) (isSome_of r1) (isSome_of r2) (isSome_of r3) (isSome_of r4) (isSome_of r5) (isSome_of r6) (isSome_of r7))
  have hb := hbz w.heap.size w (Nat.le_succ _) hb
  clear hbz r0 s0 r1 s1 r2 s2 r3 s3 r4 s4 r5 s5 r6 s6 r7 s7
  rw [hwz]
  clear hwz
  refine bodyPost_ret (v := .tuple #[.agg #[.int .i64 0, .int .i64 0, .int .i64 0, .int .i64 0, .int .i64 0, .int .i64 0, .bool false, .bool false], .bool false, .int .i64 2]) (by simp [results, Try.results37, go_sem, x0, x1, x2, x3, x4, x5, x6, x7]) rfl ?_
  exact ⟨by rw [HV.out], hb⟩

set_option maxRecDepth 100000 in
set_option maxHeartbeats 2000000 in
theorem dueJob_b (n r c cr z0 z1 z2 z3 side : Int) (a : Option Addr) (l : List (Int × Int)) (cap : Nat) (least lead : Int) (w : World) (hP : PairsS w a l) (hle : I64 least) (hld : I64 lead) (h0 : btw n 1 1000000000 = true) (h1 : placeB r c cr = false) :
    Calls Try.prog 37 #[.int .i64 n, .int .i64 r, .int .i64 c, .int .i64 cr, .agg #[.int .i64 z0, .int .i64 z1, .int .i64 z2, .int .i64 z3], .int .i64 side, .slice a l.length cap, .int .i64 least, .int .i64 lead] w fun e w' => e = .returned (djV n r c cr z0 z1 z2 z3 side l least lead) ∧ Below w.heap.size w w' := by
  have HV : Hid (djV n r c cr z0 z1 z2 z3 side l least lead = .tuple #[.agg #[.int .i64 0, .int .i64 0, .int .i64 0, .int .i64 0, .int .i64 0, .int .i64 0, .bool false, .bool false], .bool false, .int .i64 2]) := Lib.hid (by unfold djV; simp [h0, h1])
  have H0 := Lib.hid h0
  have HP2 := Lib.hid (fun W => placeValid_v r c cr h1 W)
  clear h0 h1
  obtain ⟨wB, hwB⟩ : ∃ wB, ((w.alloc (.cells #[.int .i64 z0, .int .i64 z1, .int .i64 z2, .int .i64 z3] 62)).alloc (.cells #[.int .i64 0, .int .i64 0, .int .i64 0, .int .i64 0, .int .i64 0, .int .i64 0, .bool false, .bool false] 53)) = wB := ⟨_, rfl⟩
  have hb : Below w.heap.size w wB := by rw [← hwB]; exact ((Below.refl _ _).alloc (Nat.le_refl _) _).alloc (by simp) _
  have p0 : wB.cell? ⟨w.heap.size, 0, none⟩ = some (.int .i64 z0) := by rw [← hwB]; simp [go_sem]
  have p1 : wB.cell? ⟨w.heap.size, 1, none⟩ = some (.int .i64 z1) := by rw [← hwB]; simp [go_sem]
  have p2 : wB.cell? ⟨w.heap.size, 2, none⟩ = some (.int .i64 z2) := by rw [← hwB]; simp [go_sem]
  have p3 : wB.cell? ⟨w.heap.size, 3, none⟩ = some (.int .i64 z3) := by rw [← hwB]; simp [go_sem]
  have r0 : wB.cell? ⟨w.heap.size + 1, 0, none⟩ = some (.int .i64 0) := by rw [← hwB]; simp [go_sem]
  have s0 : wB.frozen? ⟨w.heap.size + 1, 0, none⟩ = false := by rw [← hwB]; simp [go_sem]
  have r1 : wB.cell? ⟨w.heap.size + 1, 1, none⟩ = some (.int .i64 0) := by rw [← hwB]; simp [go_sem]
  have s1 : wB.frozen? ⟨w.heap.size + 1, 1, none⟩ = false := by rw [← hwB]; simp [go_sem]
  have r2 : wB.cell? ⟨w.heap.size + 1, 2, none⟩ = some (.int .i64 0) := by rw [← hwB]; simp [go_sem]
  have s2 : wB.frozen? ⟨w.heap.size + 1, 2, none⟩ = false := by rw [← hwB]; simp [go_sem]
  have r3 : wB.cell? ⟨w.heap.size + 1, 3, none⟩ = some (.int .i64 0) := by rw [← hwB]; simp [go_sem]
  have s3 : wB.frozen? ⟨w.heap.size + 1, 3, none⟩ = false := by rw [← hwB]; simp [go_sem]
  have r4 : wB.cell? ⟨w.heap.size + 1, 4, none⟩ = some (.int .i64 0) := by rw [← hwB]; simp [go_sem]
  have s4 : wB.frozen? ⟨w.heap.size + 1, 4, none⟩ = false := by rw [← hwB]; simp [go_sem]
  have r5 : wB.cell? ⟨w.heap.size + 1, 5, none⟩ = some (.int .i64 0) := by rw [← hwB]; simp [go_sem]
  have s5 : wB.frozen? ⟨w.heap.size + 1, 5, none⟩ = false := by rw [← hwB]; simp [go_sem]
  have r6 : wB.cell? ⟨w.heap.size + 1, 6, none⟩ = some (.bool false) := by rw [← hwB]; simp [go_sem]
  have s6 : wB.frozen? ⟨w.heap.size + 1, 6, none⟩ = false := by rw [← hwB]; simp [go_sem]
  have r7 : wB.cell? ⟨w.heap.size + 1, 7, none⟩ = some (.bool false) := by rw [← hwB]; simp [go_sem]
  have s7 : wB.frozen? ⟨w.heap.size + 1, 7, none⟩ = false := by rw [← hwB]; simp [go_sem]

  clear hP hle hld
  go_enter Try.func37, Try.ntmps37
  go_wp2_with fail
  refine (withinN1_any 1 1000000000 n _ _ (by simp [go_sem])).mono ?_
  rintro e w1 ⟨rfl, hb1⟩
  rw [H0.out]
  have hb1 := box_below hb1
  have p0 := cell_below p0 hb1
  have p1 := cell_below p1 hb1
  have p2 := cell_below p2 hb1
  have p3 := cell_below p3 hb1
  have hzr := block_lt r0
  have s0 := (Below.frozen hb1 (p := ⟨w.heap.size + 1, 0, none⟩) hzr).trans s0
  have r0 := cell_below r0 hb1
  have s1 := (Below.frozen hb1 (p := ⟨w.heap.size + 1, 1, none⟩) hzr).trans s1
  have r1 := cell_below r1 hb1
  have s2 := (Below.frozen hb1 (p := ⟨w.heap.size + 1, 2, none⟩) hzr).trans s2
  have r2 := cell_below r2 hb1
  have s3 := (Below.frozen hb1 (p := ⟨w.heap.size + 1, 3, none⟩) hzr).trans s3
  have r3 := cell_below r3 hb1
  have s4 := (Below.frozen hb1 (p := ⟨w.heap.size + 1, 4, none⟩) hzr).trans s4
  have r4 := cell_below r4 hb1
  have s5 := (Below.frozen hb1 (p := ⟨w.heap.size + 1, 5, none⟩) hzr).trans s5
  have r5 := cell_below r5 hb1
  have s6 := (Below.frozen hb1 (p := ⟨w.heap.size + 1, 6, none⟩) hzr).trans s6
  have r6 := cell_below r6 hb1
  have s7 := (Below.frozen hb1 (p := ⟨w.heap.size + 1, 7, none⟩) hzr).trans s7
  have r7 := cell_below r7 hb1
  have hb := below_onN hb hb1 hb.size
  clear hzr
  clear hwB hb1
  go_wp2_with fail
  refine (HP2.out _).mono ?_
  rintro e w2 ⟨rfl, hb2⟩
  have p0 := cell_below p0 hb2
  have p1 := cell_below p1 hb2
  have p2 := cell_below p2 hb2
  have p3 := cell_below p3 hb2
  have hzr := block_lt r0
  have s0 := (Below.frozen hb2 (p := ⟨w.heap.size + 1, 0, none⟩) hzr).trans s0
  have r0 := cell_below r0 hb2
  have s1 := (Below.frozen hb2 (p := ⟨w.heap.size + 1, 1, none⟩) hzr).trans s1
  have r1 := cell_below r1 hb2
  have s2 := (Below.frozen hb2 (p := ⟨w.heap.size + 1, 2, none⟩) hzr).trans s2
  have r2 := cell_below r2 hb2
  have s3 := (Below.frozen hb2 (p := ⟨w.heap.size + 1, 3, none⟩) hzr).trans s3
  have r3 := cell_below r3 hb2
  have s4 := (Below.frozen hb2 (p := ⟨w.heap.size + 1, 4, none⟩) hzr).trans s4
  have r4 := cell_below r4 hb2
  have s5 := (Below.frozen hb2 (p := ⟨w.heap.size + 1, 5, none⟩) hzr).trans s5
  have r5 := cell_below r5 hb2
  have s6 := (Below.frozen hb2 (p := ⟨w.heap.size + 1, 6, none⟩) hzr).trans s6
  have r6 := cell_below r6 hb2
  have s7 := (Below.frozen hb2 (p := ⟨w.heap.size + 1, 7, none⟩) hzr).trans s7
  have r7 := cell_below r7 hb2
  have hb := below_onN hb hb2 hb.size
  clear hzr
  clear hb2
  go_wp2_with fail
  obtain ⟨wz, hwz, x0, x1, x2, x3, x4, x5, x6, x7, hbz⟩ := set8 _ (w.heap.size + 1) (.int .i64 0) (.int .i64 0) (.int .i64 0) (.int .i64 0) (.int .i64 0) (.int .i64 0) (.bool false) (.bool false) (eight (isSome_of r0) (isSome_of r1) (isSome_of r2) (isSome_of r3) (isSome_of r4) (isSome_of r5) (isSome_of r6) (isSome_of r7))
  have hb := hbz w.heap.size w (Nat.le_succ _) hb
  clear hbz r0 s0 r1 s1 r2 s2 r3 s3 r4 s4 r5 s5 r6 s6 r7 s7
  rw [hwz]
  clear hwz
  refine bodyPost_ret (v := .tuple #[.agg #[.int .i64 0, .int .i64 0, .int .i64 0, .int .i64 0, .int .i64 0, .int .i64 0, .bool false, .bool false], .bool false, .int .i64 2]) (by simp [results, Try.results37, go_sem, x0, x1, x2, x3, x4, x5, x6, x7]) rfl ?_
  exact ⟨by rw [HV.out], hb⟩

set_option maxRecDepth 100000 in
set_option maxHeartbeats 2000000 in
theorem dueJob_c (n r c cr z0 z1 z2 z3 side : Int) (a : Option Addr) (l : List (Int × Int)) (cap : Nat) (least lead : Int) (w : World) (hP : PairsS w a l) (hle : I64 least) (hld : I64 lead) (h0 : btw n 1 1000000000 = true) (h1 : placeB r c cr = true) (h2 : btw lead 0 100000 = false) :
    Calls Try.prog 37 #[.int .i64 n, .int .i64 r, .int .i64 c, .int .i64 cr, .agg #[.int .i64 z0, .int .i64 z1, .int .i64 z2, .int .i64 z3], .int .i64 side, .slice a l.length cap, .int .i64 least, .int .i64 lead] w fun e w' => e = .returned (djV n r c cr z0 z1 z2 z3 side l least lead) ∧ Below w.heap.size w w' := by
  have HV : Hid (djV n r c cr z0 z1 z2 z3 side l least lead = .tuple #[.agg #[.int .i64 0, .int .i64 0, .int .i64 0, .int .i64 0, .int .i64 0, .int .i64 0, .bool false, .bool false], .bool false, .int .i64 2]) := Lib.hid (by unfold djV; simp [h0, h1, h2])
  have H0 := Lib.hid h0
  have H2 := Lib.hid h2
  have HP2 := Lib.hid (fun W => placeValid_v r c cr h1 W)
  clear h0 h1 h2
  obtain ⟨wB, hwB⟩ : ∃ wB, ((w.alloc (.cells #[.int .i64 z0, .int .i64 z1, .int .i64 z2, .int .i64 z3] 62)).alloc (.cells #[.int .i64 0, .int .i64 0, .int .i64 0, .int .i64 0, .int .i64 0, .int .i64 0, .bool false, .bool false] 53)) = wB := ⟨_, rfl⟩
  have hb : Below w.heap.size w wB := by rw [← hwB]; exact ((Below.refl _ _).alloc (Nat.le_refl _) _).alloc (by simp) _
  have p0 : wB.cell? ⟨w.heap.size, 0, none⟩ = some (.int .i64 z0) := by rw [← hwB]; simp [go_sem]
  have p1 : wB.cell? ⟨w.heap.size, 1, none⟩ = some (.int .i64 z1) := by rw [← hwB]; simp [go_sem]
  have p2 : wB.cell? ⟨w.heap.size, 2, none⟩ = some (.int .i64 z2) := by rw [← hwB]; simp [go_sem]
  have p3 : wB.cell? ⟨w.heap.size, 3, none⟩ = some (.int .i64 z3) := by rw [← hwB]; simp [go_sem]
  have r0 : wB.cell? ⟨w.heap.size + 1, 0, none⟩ = some (.int .i64 0) := by rw [← hwB]; simp [go_sem]
  have s0 : wB.frozen? ⟨w.heap.size + 1, 0, none⟩ = false := by rw [← hwB]; simp [go_sem]
  have r1 : wB.cell? ⟨w.heap.size + 1, 1, none⟩ = some (.int .i64 0) := by rw [← hwB]; simp [go_sem]
  have s1 : wB.frozen? ⟨w.heap.size + 1, 1, none⟩ = false := by rw [← hwB]; simp [go_sem]
  have r2 : wB.cell? ⟨w.heap.size + 1, 2, none⟩ = some (.int .i64 0) := by rw [← hwB]; simp [go_sem]
  have s2 : wB.frozen? ⟨w.heap.size + 1, 2, none⟩ = false := by rw [← hwB]; simp [go_sem]
  have r3 : wB.cell? ⟨w.heap.size + 1, 3, none⟩ = some (.int .i64 0) := by rw [← hwB]; simp [go_sem]
  have s3 : wB.frozen? ⟨w.heap.size + 1, 3, none⟩ = false := by rw [← hwB]; simp [go_sem]
  have r4 : wB.cell? ⟨w.heap.size + 1, 4, none⟩ = some (.int .i64 0) := by rw [← hwB]; simp [go_sem]
  have s4 : wB.frozen? ⟨w.heap.size + 1, 4, none⟩ = false := by rw [← hwB]; simp [go_sem]
  have r5 : wB.cell? ⟨w.heap.size + 1, 5, none⟩ = some (.int .i64 0) := by rw [← hwB]; simp [go_sem]
  have s5 : wB.frozen? ⟨w.heap.size + 1, 5, none⟩ = false := by rw [← hwB]; simp [go_sem]
  have r6 : wB.cell? ⟨w.heap.size + 1, 6, none⟩ = some (.bool false) := by rw [← hwB]; simp [go_sem]
  have s6 : wB.frozen? ⟨w.heap.size + 1, 6, none⟩ = false := by rw [← hwB]; simp [go_sem]
  have r7 : wB.cell? ⟨w.heap.size + 1, 7, none⟩ = some (.bool false) := by rw [← hwB]; simp [go_sem]
  have s7 : wB.frozen? ⟨w.heap.size + 1, 7, none⟩ = false := by rw [← hwB]; simp [go_sem]

  clear hP hle hld
  go_enter Try.func37, Try.ntmps37
  go_wp2_with fail
  refine (withinN1_any 1 1000000000 n _ _ (by simp [go_sem])).mono ?_
  rintro e w1 ⟨rfl, hb1⟩
  rw [H0.out]
  have hb1 := box_below hb1
  have p0 := cell_below p0 hb1
  have p1 := cell_below p1 hb1
  have p2 := cell_below p2 hb1
  have p3 := cell_below p3 hb1
  have hzr := block_lt r0
  have s0 := (Below.frozen hb1 (p := ⟨w.heap.size + 1, 0, none⟩) hzr).trans s0
  have r0 := cell_below r0 hb1
  have s1 := (Below.frozen hb1 (p := ⟨w.heap.size + 1, 1, none⟩) hzr).trans s1
  have r1 := cell_below r1 hb1
  have s2 := (Below.frozen hb1 (p := ⟨w.heap.size + 1, 2, none⟩) hzr).trans s2
  have r2 := cell_below r2 hb1
  have s3 := (Below.frozen hb1 (p := ⟨w.heap.size + 1, 3, none⟩) hzr).trans s3
  have r3 := cell_below r3 hb1
  have s4 := (Below.frozen hb1 (p := ⟨w.heap.size + 1, 4, none⟩) hzr).trans s4
  have r4 := cell_below r4 hb1
  have s5 := (Below.frozen hb1 (p := ⟨w.heap.size + 1, 5, none⟩) hzr).trans s5
  have r5 := cell_below r5 hb1
  have s6 := (Below.frozen hb1 (p := ⟨w.heap.size + 1, 6, none⟩) hzr).trans s6
  have r6 := cell_below r6 hb1
  have s7 := (Below.frozen hb1 (p := ⟨w.heap.size + 1, 7, none⟩) hzr).trans s7
  have r7 := cell_below r7 hb1
  have hb := below_onN hb hb1 hb.size
  clear hzr
  clear hwB hb1
  go_wp2_with fail
  refine (HP2.out _).mono ?_
  rintro e w2 ⟨rfl, hb2⟩
  have p0 := cell_below p0 hb2
  have p1 := cell_below p1 hb2
  have p2 := cell_below p2 hb2
  have p3 := cell_below p3 hb2
  have hzr := block_lt r0
  have s0 := (Below.frozen hb2 (p := ⟨w.heap.size + 1, 0, none⟩) hzr).trans s0
  have r0 := cell_below r0 hb2
  have s1 := (Below.frozen hb2 (p := ⟨w.heap.size + 1, 1, none⟩) hzr).trans s1
  have r1 := cell_below r1 hb2
  have s2 := (Below.frozen hb2 (p := ⟨w.heap.size + 1, 2, none⟩) hzr).trans s2
  have r2 := cell_below r2 hb2
  have s3 := (Below.frozen hb2 (p := ⟨w.heap.size + 1, 3, none⟩) hzr).trans s3
  have r3 := cell_below r3 hb2
  have s4 := (Below.frozen hb2 (p := ⟨w.heap.size + 1, 4, none⟩) hzr).trans s4
  have r4 := cell_below r4 hb2
  have s5 := (Below.frozen hb2 (p := ⟨w.heap.size + 1, 5, none⟩) hzr).trans s5
  have r5 := cell_below r5 hb2
  have s6 := (Below.frozen hb2 (p := ⟨w.heap.size + 1, 6, none⟩) hzr).trans s6
  have r6 := cell_below r6 hb2
  have s7 := (Below.frozen hb2 (p := ⟨w.heap.size + 1, 7, none⟩) hzr).trans s7
  have r7 := cell_below r7 hb2
  have hb := below_onN hb hb2 hb.size
  clear hzr
  clear hb2
  go_wp2_with fail
  refine (withinN1_any 0 100000 lead _ _ (by simp [go_sem])).mono ?_
  rintro e w3 ⟨rfl, hb3⟩
  rw [H2.out]
  have hb3 := box_below hb3
  have p0 := cell_below p0 hb3
  have p1 := cell_below p1 hb3
  have p2 := cell_below p2 hb3
  have p3 := cell_below p3 hb3
  have hzr := block_lt r0
  have s0 := (Below.frozen hb3 (p := ⟨w.heap.size + 1, 0, none⟩) hzr).trans s0
  have r0 := cell_below r0 hb3
  have s1 := (Below.frozen hb3 (p := ⟨w.heap.size + 1, 1, none⟩) hzr).trans s1
  have r1 := cell_below r1 hb3
  have s2 := (Below.frozen hb3 (p := ⟨w.heap.size + 1, 2, none⟩) hzr).trans s2
  have r2 := cell_below r2 hb3
  have s3 := (Below.frozen hb3 (p := ⟨w.heap.size + 1, 3, none⟩) hzr).trans s3
  have r3 := cell_below r3 hb3
  have s4 := (Below.frozen hb3 (p := ⟨w.heap.size + 1, 4, none⟩) hzr).trans s4
  have r4 := cell_below r4 hb3
  have s5 := (Below.frozen hb3 (p := ⟨w.heap.size + 1, 5, none⟩) hzr).trans s5
  have r5 := cell_below r5 hb3
  have s6 := (Below.frozen hb3 (p := ⟨w.heap.size + 1, 6, none⟩) hzr).trans s6
  have r6 := cell_below r6 hb3
  have s7 := (Below.frozen hb3 (p := ⟨w.heap.size + 1, 7, none⟩) hzr).trans s7
  have r7 := cell_below r7 hb3
  have hb := below_onN hb hb3 hb.size
  clear hzr
  clear hb3
  go_wp2_with fail
  obtain ⟨wz, hwz, x0, x1, x2, x3, x4, x5, x6, x7, hbz⟩ := set8 _ (w.heap.size + 1) (.int .i64 0) (.int .i64 0) (.int .i64 0) (.int .i64 0) (.int .i64 0) (.int .i64 0) (.bool false) (.bool false) (eight (isSome_of r0) (isSome_of r1) (isSome_of r2) (isSome_of r3) (isSome_of r4) (isSome_of r5) (isSome_of r6) (isSome_of r7))
  have hb := hbz w.heap.size w (Nat.le_succ _) hb
  clear hbz r0 s0 r1 s1 r2 s2 r3 s3 r4 s4 r5 s5 r6 s6 r7 s7
  rw [hwz]
  clear hwz
  refine bodyPost_ret (v := .tuple #[.agg #[.int .i64 0, .int .i64 0, .int .i64 0, .int .i64 0, .int .i64 0, .int .i64 0, .bool false, .bool false], .bool false, .int .i64 2]) (by simp [results, Try.results37, go_sem, x0, x1, x2, x3, x4, x5, x6, x7]) rfl ?_
  exact ⟨by rw [HV.out], hb⟩

set_option maxRecDepth 100000 in
set_option maxHeartbeats 2000000 in
theorem dueJob_d (n r c cr z0 z1 z2 z3 side : Int) (a : Option Addr) (l : List (Int × Int)) (cap : Nat) (least lead : Int) (w : World) (hP : PairsS w a l) (hle : I64 least) (hld : I64 lead) (h0 : btw n 1 1000000000 = true) (h1 : placeB r c cr = true) (h2 : btw lead 0 100000 = true) (h3 : dqO z0 z1 z2 z3 side l least = false) :
    Calls Try.prog 37 #[.int .i64 n, .int .i64 r, .int .i64 c, .int .i64 cr, .agg #[.int .i64 z0, .int .i64 z1, .int .i64 z2, .int .i64 z3], .int .i64 side, .slice a l.length cap, .int .i64 least, .int .i64 lead] w fun e w' => e = .returned (djV n r c cr z0 z1 z2 z3 side l least lead) ∧ Below w.heap.size w w' := by
  have HV : Hid (djV n r c cr z0 z1 z2 z3 side l least lead = .tuple #[.agg #[.int .i64 0, .int .i64 0, .int .i64 0, .int .i64 0, .int .i64 0, .int .i64 0, .bool false, .bool false], .bool false, .int .i64 (dueE z0 z1 z2 z3 side l least)]) := Lib.hid (by unfold djV; simp [h0, h1, h2, h3])
  have H0 := Lib.hid h0
  have H2 := Lib.hid h2
  have HP2 := Lib.hid (fun W => placeValid_v r c cr h1 W)
  have HD := Lib.hid (fun W (hW : Below w.heap.size w W) => due_any z0 z1 z2 z3 side least a l cap W (hP.below hW) hle)
  clear h0 h1 h2
  obtain ⟨wB, hwB⟩ : ∃ wB, ((w.alloc (.cells #[.int .i64 z0, .int .i64 z1, .int .i64 z2, .int .i64 z3] 62)).alloc (.cells #[.int .i64 0, .int .i64 0, .int .i64 0, .int .i64 0, .int .i64 0, .int .i64 0, .bool false, .bool false] 53)) = wB := ⟨_, rfl⟩
  have hb : Below w.heap.size w wB := by rw [← hwB]; exact ((Below.refl _ _).alloc (Nat.le_refl _) _).alloc (by simp) _
  have p0 : wB.cell? ⟨w.heap.size, 0, none⟩ = some (.int .i64 z0) := by rw [← hwB]; simp [go_sem]
  have p1 : wB.cell? ⟨w.heap.size, 1, none⟩ = some (.int .i64 z1) := by rw [← hwB]; simp [go_sem]
  have p2 : wB.cell? ⟨w.heap.size, 2, none⟩ = some (.int .i64 z2) := by rw [← hwB]; simp [go_sem]
  have p3 : wB.cell? ⟨w.heap.size, 3, none⟩ = some (.int .i64 z3) := by rw [← hwB]; simp [go_sem]
  have r0 : wB.cell? ⟨w.heap.size + 1, 0, none⟩ = some (.int .i64 0) := by rw [← hwB]; simp [go_sem]
  have s0 : wB.frozen? ⟨w.heap.size + 1, 0, none⟩ = false := by rw [← hwB]; simp [go_sem]
  have r1 : wB.cell? ⟨w.heap.size + 1, 1, none⟩ = some (.int .i64 0) := by rw [← hwB]; simp [go_sem]
  have s1 : wB.frozen? ⟨w.heap.size + 1, 1, none⟩ = false := by rw [← hwB]; simp [go_sem]
  have r2 : wB.cell? ⟨w.heap.size + 1, 2, none⟩ = some (.int .i64 0) := by rw [← hwB]; simp [go_sem]
  have s2 : wB.frozen? ⟨w.heap.size + 1, 2, none⟩ = false := by rw [← hwB]; simp [go_sem]
  have r3 : wB.cell? ⟨w.heap.size + 1, 3, none⟩ = some (.int .i64 0) := by rw [← hwB]; simp [go_sem]
  have s3 : wB.frozen? ⟨w.heap.size + 1, 3, none⟩ = false := by rw [← hwB]; simp [go_sem]
  have r4 : wB.cell? ⟨w.heap.size + 1, 4, none⟩ = some (.int .i64 0) := by rw [← hwB]; simp [go_sem]
  have s4 : wB.frozen? ⟨w.heap.size + 1, 4, none⟩ = false := by rw [← hwB]; simp [go_sem]
  have r5 : wB.cell? ⟨w.heap.size + 1, 5, none⟩ = some (.int .i64 0) := by rw [← hwB]; simp [go_sem]
  have s5 : wB.frozen? ⟨w.heap.size + 1, 5, none⟩ = false := by rw [← hwB]; simp [go_sem]
  have r6 : wB.cell? ⟨w.heap.size + 1, 6, none⟩ = some (.bool false) := by rw [← hwB]; simp [go_sem]
  have s6 : wB.frozen? ⟨w.heap.size + 1, 6, none⟩ = false := by rw [← hwB]; simp [go_sem]
  have r7 : wB.cell? ⟨w.heap.size + 1, 7, none⟩ = some (.bool false) := by rw [← hwB]; simp [go_sem]
  have s7 : wB.frozen? ⟨w.heap.size + 1, 7, none⟩ = false := by rw [← hwB]; simp [go_sem]

  clear hP hle hld
  go_enter Try.func37, Try.ntmps37
  go_wp2_with fail
  refine (withinN1_any 1 1000000000 n _ _ (by simp [go_sem])).mono ?_
  rintro e w1 ⟨rfl, hb1⟩
  rw [H0.out]
  have hb1 := box_below hb1
  have p0 := cell_below p0 hb1
  have p1 := cell_below p1 hb1
  have p2 := cell_below p2 hb1
  have p3 := cell_below p3 hb1
  have hzr := block_lt r0
  have s0 := (Below.frozen hb1 (p := ⟨w.heap.size + 1, 0, none⟩) hzr).trans s0
  have r0 := cell_below r0 hb1
  have s1 := (Below.frozen hb1 (p := ⟨w.heap.size + 1, 1, none⟩) hzr).trans s1
  have r1 := cell_below r1 hb1
  have s2 := (Below.frozen hb1 (p := ⟨w.heap.size + 1, 2, none⟩) hzr).trans s2
  have r2 := cell_below r2 hb1
  have s3 := (Below.frozen hb1 (p := ⟨w.heap.size + 1, 3, none⟩) hzr).trans s3
  have r3 := cell_below r3 hb1
  have s4 := (Below.frozen hb1 (p := ⟨w.heap.size + 1, 4, none⟩) hzr).trans s4
  have r4 := cell_below r4 hb1
  have s5 := (Below.frozen hb1 (p := ⟨w.heap.size + 1, 5, none⟩) hzr).trans s5
  have r5 := cell_below r5 hb1
  have s6 := (Below.frozen hb1 (p := ⟨w.heap.size + 1, 6, none⟩) hzr).trans s6
  have r6 := cell_below r6 hb1
  have s7 := (Below.frozen hb1 (p := ⟨w.heap.size + 1, 7, none⟩) hzr).trans s7
  have r7 := cell_below r7 hb1
  have hb := below_onN hb hb1 hb.size
  clear hzr
  clear hwB hb1
  go_wp2_with fail
  refine (HP2.out _).mono ?_
  rintro e w2 ⟨rfl, hb2⟩
  have p0 := cell_below p0 hb2
  have p1 := cell_below p1 hb2
  have p2 := cell_below p2 hb2
  have p3 := cell_below p3 hb2
  have hzr := block_lt r0
  have s0 := (Below.frozen hb2 (p := ⟨w.heap.size + 1, 0, none⟩) hzr).trans s0
  have r0 := cell_below r0 hb2
  have s1 := (Below.frozen hb2 (p := ⟨w.heap.size + 1, 1, none⟩) hzr).trans s1
  have r1 := cell_below r1 hb2
  have s2 := (Below.frozen hb2 (p := ⟨w.heap.size + 1, 2, none⟩) hzr).trans s2
  have r2 := cell_below r2 hb2
  have s3 := (Below.frozen hb2 (p := ⟨w.heap.size + 1, 3, none⟩) hzr).trans s3
  have r3 := cell_below r3 hb2
  have s4 := (Below.frozen hb2 (p := ⟨w.heap.size + 1, 4, none⟩) hzr).trans s4
  have r4 := cell_below r4 hb2
  have s5 := (Below.frozen hb2 (p := ⟨w.heap.size + 1, 5, none⟩) hzr).trans s5
  have r5 := cell_below r5 hb2
  have s6 := (Below.frozen hb2 (p := ⟨w.heap.size + 1, 6, none⟩) hzr).trans s6
  have r6 := cell_below r6 hb2
  have s7 := (Below.frozen hb2 (p := ⟨w.heap.size + 1, 7, none⟩) hzr).trans s7
  have r7 := cell_below r7 hb2
  have hb := below_onN hb hb2 hb.size
  clear hzr
  clear hb2
  go_wp2_with fail
  refine (withinN1_any 0 100000 lead _ _ (by simp [go_sem])).mono ?_
  rintro e w3 ⟨rfl, hb3⟩
  rw [H2.out]
  have hb3 := box_below hb3
  have p0 := cell_below p0 hb3
  have p1 := cell_below p1 hb3
  have p2 := cell_below p2 hb3
  have p3 := cell_below p3 hb3
  have hzr := block_lt r0
  have s0 := (Below.frozen hb3 (p := ⟨w.heap.size + 1, 0, none⟩) hzr).trans s0
  have r0 := cell_below r0 hb3
  have s1 := (Below.frozen hb3 (p := ⟨w.heap.size + 1, 1, none⟩) hzr).trans s1
  have r1 := cell_below r1 hb3
  have s2 := (Below.frozen hb3 (p := ⟨w.heap.size + 1, 2, none⟩) hzr).trans s2
  have r2 := cell_below r2 hb3
  have s3 := (Below.frozen hb3 (p := ⟨w.heap.size + 1, 3, none⟩) hzr).trans s3
  have r3 := cell_below r3 hb3
  have s4 := (Below.frozen hb3 (p := ⟨w.heap.size + 1, 4, none⟩) hzr).trans s4
  have r4 := cell_below r4 hb3
  have s5 := (Below.frozen hb3 (p := ⟨w.heap.size + 1, 5, none⟩) hzr).trans s5
  have r5 := cell_below r5 hb3
  have s6 := (Below.frozen hb3 (p := ⟨w.heap.size + 1, 6, none⟩) hzr).trans s6
  have r6 := cell_below r6 hb3
  have s7 := (Below.frozen hb3 (p := ⟨w.heap.size + 1, 7, none⟩) hzr).trans s7
  have r7 := cell_below r7 hb3
  have hb := below_onN hb hb3 hb.size
  clear hzr
  clear hb3
  go_wp2_with fail
  refine (HD.out _ hb).mono ?_
  rintro e w4 ⟨hde, hb4⟩
  have hde : e = .returned (.tuple #[.int .i64 (dqD z0 z1 z2 z3 side l least), .bool (dqO z0 z1 z2 z3 side l least), .int .i64 (dueE z0 z1 z2 z3 side l least)]) := hde
  rw [h3] at hde
  clear h3
  generalize dueE z0 z1 z2 z3 side l least = E at *
  generalize dqD z0 z1 z2 z3 side l least = D at *
  subst hde
  have p0 := cell_below p0 hb4
  have p1 := cell_below p1 hb4
  have p2 := cell_below p2 hb4
  have p3 := cell_below p3 hb4
  have hzr := block_lt r0
  have s0 := (Below.frozen hb4 (p := ⟨w.heap.size + 1, 0, none⟩) hzr).trans s0
  have r0 := cell_below r0 hb4
  have s1 := (Below.frozen hb4 (p := ⟨w.heap.size + 1, 1, none⟩) hzr).trans s1
  have r1 := cell_below r1 hb4
  have s2 := (Below.frozen hb4 (p := ⟨w.heap.size + 1, 2, none⟩) hzr).trans s2
  have r2 := cell_below r2 hb4
  have s3 := (Below.frozen hb4 (p := ⟨w.heap.size + 1, 3, none⟩) hzr).trans s3
  have r3 := cell_below r3 hb4
  have s4 := (Below.frozen hb4 (p := ⟨w.heap.size + 1, 4, none⟩) hzr).trans s4
  have r4 := cell_below r4 hb4
  have s5 := (Below.frozen hb4 (p := ⟨w.heap.size + 1, 5, none⟩) hzr).trans s5
  have r5 := cell_below r5 hb4
  have s6 := (Below.frozen hb4 (p := ⟨w.heap.size + 1, 6, none⟩) hzr).trans s6
  have r6 := cell_below r6 hb4
  have s7 := (Below.frozen hb4 (p := ⟨w.heap.size + 1, 7, none⟩) hzr).trans s7
  have r7 := cell_below r7 hb4
  have hb := below_onN hb hb4 hb.size
  clear hzr
  clear hb4
  by_cases hE : E = 0
  · subst hE
    go_wp2_with fail
    obtain ⟨wz, hwz, x0, x1, x2, x3, x4, x5, x6, x7, hbz⟩ := set8 _ (w.heap.size + 1) (.int .i64 0) (.int .i64 0) (.int .i64 0) (.int .i64 0) (.int .i64 0) (.int .i64 0) (.bool false) (.bool false) (eight (isSome_of r0) (isSome_of r1) (isSome_of r2) (isSome_of r3) (isSome_of r4) (isSome_of r5) (isSome_of r6) (isSome_of r7))
    have hb := hbz w.heap.size w (Nat.le_succ _) hb
    clear hbz r0 s0 r1 s1 r2 s2 r3 s3 r4 s4 r5 s5 r6 s6 r7 s7
    rw [hwz]
    clear hwz
    refine bodyPost_ret (v := .tuple #[.agg #[.int .i64 0, .int .i64 0, .int .i64 0, .int .i64 0, .int .i64 0, .int .i64 0, .bool false, .bool false], .bool false, .int .i64 0]) (by simp [results, Try.results37, go_sem, x0, x1, x2, x3, x4, x5, x6, x7]) rfl ?_
    exact ⟨by rw [HV.out], hb⟩

  · have hE2 : (E == 0) = false := beq_false_of_ne hE
    go_wp2_with fail
    obtain ⟨wz, hwz, x0, x1, x2, x3, x4, x5, x6, x7, hbz⟩ := set8 _ (w.heap.size + 1) (.int .i64 0) (.int .i64 0) (.int .i64 0) (.int .i64 0) (.int .i64 0) (.int .i64 0) (.bool false) (.bool false) (eight (isSome_of r0) (isSome_of r1) (isSome_of r2) (isSome_of r3) (isSome_of r4) (isSome_of r5) (isSome_of r6) (isSome_of r7))
    have hb := hbz w.heap.size w (Nat.le_succ _) hb
    clear hbz r0 s0 r1 s1 r2 s2 r3 s3 r4 s4 r5 s5 r6 s6 r7 s7
    rw [hwz]
    clear hwz
    refine bodyPost_ret (v := .tuple #[.agg #[.int .i64 0, .int .i64 0, .int .i64 0, .int .i64 0, .int .i64 0, .int .i64 0, .bool false, .bool false], .bool false, .int .i64 E]) (by simp [results, Try.results37, go_sem, x0, x1, x2, x3, x4, x5, x6, x7]) rfl ?_
    exact ⟨by rw [HV.out], hb⟩

set_option maxRecDepth 100000 in
set_option maxHeartbeats 2000000 in
theorem dueJob_e (n r c cr z0 z1 z2 z3 side : Int) (a : Option Addr) (l : List (Int × Int)) (cap : Nat) (least lead : Int) (w : World) (hP : PairsS w a l) (hle : I64 least) (hld : I64 lead) (h0 : btw n 1 1000000000 = true) (h1 : placeB r c cr = true) (h2 : btw lead 0 100000 = true) (h3 : dqO z0 z1 z2 z3 side l least = true) :
    Calls Try.prog 37 #[.int .i64 n, .int .i64 r, .int .i64 c, .int .i64 cr, .agg #[.int .i64 z0, .int .i64 z1, .int .i64 z2, .int .i64 z3], .int .i64 side, .slice a l.length cap, .int .i64 least, .int .i64 lead] w fun e w' => e = .returned (djV n r c cr z0 z1 z2 z3 side l least lead) ∧ Below w.heap.size w w' := by
  have H0 := Lib.hid h0
  have H2 := Lib.hid h2
  have HP2 := Lib.hid (fun W => placeValid_v r c cr h1 W)
  have HD := Lib.hid (fun W (hW : Below w.heap.size w W) => due_any z0 z1 z2 z3 side least a l cap W (hP.below hW) hle)
  obtain ⟨e0, hl0, ⟨q0, q1⟩, q2, q3⟩ := dq_good h3
  obtain ⟨m, hm⟩ : ∃ m, l.length - 1 = m := ⟨_, rfl⟩
  have hV : djV n r c cr z0 z1 z2 z3 side l least lead = .tuple #[.agg #[.int .i64 n, .int .i64 r, .int .i64 c, .int .i64 (max (max (dqD z0 z1 z2 z3 side l least - 1) (gp l m).1 - lead) 0), .int .i64 (max (dqD z0 z1 z2 z3 side l least - 1) (gp l m).1), .int .i64 cr, .bool true, .bool false], .bool true, .int .i64 0] := by unfold djV; simp [h0, h1, h2, h3, hm]
  rw [hm] at q0 q1
  obtain ⟨hlen, hb64, blk, off, hadr, hc⟩ := hP
  obtain rfl := hadr (pos_ne (n := 0) hl0)
  have cD := (hc m (by omega)).1
  have hmw : IntKind.i64.wrap ((l.length : Int) - 1) = m := by rw [show (l.length : Int) - 1 = m by omega]; exact IntWalk.i64_in _ (by omega)
  have hm1 : (0 : Int) ≤ m := by omega
  have hm2 : (m : Int) < l.length := by omega
  obtain ⟨hd0, hd1⟩ := (btw_iff _ _ _).1 h2
  generalize (gp l m).1 = Dl at *
  generalize hdq : dqD z0 z1 z2 z3 side l least = dd at *
  have hw1 : IntKind.i64.wrap (dd - 1) = dd - 1 := IntWalk.i64_in _ (by omega)
  obtain ⟨M, hM⟩ : ∃ M, max (dd - 1) Dl = M := ⟨_, rfl⟩
  have hMb : 0 ≤ M ∧ M ≤ 1000000 := by omega
  obtain ⟨hM0, hM1⟩ := hMb
  rw [hM] at hV
  obtain ⟨F, hF⟩ : ∃ F, max (M - lead) 0 = F := ⟨_, rfl⟩
  rw [hF] at hV
  have hw2 : IntKind.i64.wrap (M - lead) = M - lead := IntWalk.i64_in _ (by omega)
  have HV := Lib.hid hV
  clear hc hb64 hadr hV hm h0 h1 h2

  obtain ⟨wB, hwB⟩ : ∃ wB, ((w.alloc (.cells #[.int .i64 z0, .int .i64 z1, .int .i64 z2, .int .i64 z3] 62)).alloc (.cells #[.int .i64 0, .int .i64 0, .int .i64 0, .int .i64 0, .int .i64 0, .int .i64 0, .bool false, .bool false] 53)) = wB := ⟨_, rfl⟩
  have hb : Below w.heap.size w wB := by rw [← hwB]; exact ((Below.refl _ _).alloc (Nat.le_refl _) _).alloc (by simp) _
  have p0 : wB.cell? ⟨w.heap.size, 0, none⟩ = some (.int .i64 z0) := by rw [← hwB]; simp [go_sem]
  have p1 : wB.cell? ⟨w.heap.size, 1, none⟩ = some (.int .i64 z1) := by rw [← hwB]; simp [go_sem]
  have p2 : wB.cell? ⟨w.heap.size, 2, none⟩ = some (.int .i64 z2) := by rw [← hwB]; simp [go_sem]
  have p3 : wB.cell? ⟨w.heap.size, 3, none⟩ = some (.int .i64 z3) := by rw [← hwB]; simp [go_sem]
  have r0 : wB.cell? ⟨w.heap.size + 1, 0, none⟩ = some (.int .i64 0) := by rw [← hwB]; simp [go_sem]
  have s0 : wB.frozen? ⟨w.heap.size + 1, 0, none⟩ = false := by rw [← hwB]; simp [go_sem]
  have r1 : wB.cell? ⟨w.heap.size + 1, 1, none⟩ = some (.int .i64 0) := by rw [← hwB]; simp [go_sem]
  have s1 : wB.frozen? ⟨w.heap.size + 1, 1, none⟩ = false := by rw [← hwB]; simp [go_sem]
  have r2 : wB.cell? ⟨w.heap.size + 1, 2, none⟩ = some (.int .i64 0) := by rw [← hwB]; simp [go_sem]
  have s2 : wB.frozen? ⟨w.heap.size + 1, 2, none⟩ = false := by rw [← hwB]; simp [go_sem]
  have r3 : wB.cell? ⟨w.heap.size + 1, 3, none⟩ = some (.int .i64 0) := by rw [← hwB]; simp [go_sem]
  have s3 : wB.frozen? ⟨w.heap.size + 1, 3, none⟩ = false := by rw [← hwB]; simp [go_sem]
  have r4 : wB.cell? ⟨w.heap.size + 1, 4, none⟩ = some (.int .i64 0) := by rw [← hwB]; simp [go_sem]
  have s4 : wB.frozen? ⟨w.heap.size + 1, 4, none⟩ = false := by rw [← hwB]; simp [go_sem]
  have r5 : wB.cell? ⟨w.heap.size + 1, 5, none⟩ = some (.int .i64 0) := by rw [← hwB]; simp [go_sem]
  have s5 : wB.frozen? ⟨w.heap.size + 1, 5, none⟩ = false := by rw [← hwB]; simp [go_sem]
  have r6 : wB.cell? ⟨w.heap.size + 1, 6, none⟩ = some (.bool false) := by rw [← hwB]; simp [go_sem]
  have s6 : wB.frozen? ⟨w.heap.size + 1, 6, none⟩ = false := by rw [← hwB]; simp [go_sem]
  have r7 : wB.cell? ⟨w.heap.size + 1, 7, none⟩ = some (.bool false) := by rw [← hwB]; simp [go_sem]
  have s7 : wB.frozen? ⟨w.heap.size + 1, 7, none⟩ = false := by rw [← hwB]; simp [go_sem]

  clear hle hld
  go_enter Try.func37, Try.ntmps37
  go_wp2_with fail
  refine (withinN1_any 1 1000000000 n _ _ (by simp [go_sem])).mono ?_
  rintro e w1 ⟨rfl, hb1⟩
  rw [H0.out]
  have hb1 := box_below hb1
  have p0 := cell_below p0 hb1
  have p1 := cell_below p1 hb1
  have p2 := cell_below p2 hb1
  have p3 := cell_below p3 hb1
  have hzr := block_lt r0
  have s0 := (Below.frozen hb1 (p := ⟨w.heap.size + 1, 0, none⟩) hzr).trans s0
  have r0 := cell_below r0 hb1
  have s1 := (Below.frozen hb1 (p := ⟨w.heap.size + 1, 1, none⟩) hzr).trans s1
  have r1 := cell_below r1 hb1
  have s2 := (Below.frozen hb1 (p := ⟨w.heap.size + 1, 2, none⟩) hzr).trans s2
  have r2 := cell_below r2 hb1
  have s3 := (Below.frozen hb1 (p := ⟨w.heap.size + 1, 3, none⟩) hzr).trans s3
  have r3 := cell_below r3 hb1
  have s4 := (Below.frozen hb1 (p := ⟨w.heap.size + 1, 4, none⟩) hzr).trans s4
  have r4 := cell_below r4 hb1
  have s5 := (Below.frozen hb1 (p := ⟨w.heap.size + 1, 5, none⟩) hzr).trans s5
  have r5 := cell_below r5 hb1
  have s6 := (Below.frozen hb1 (p := ⟨w.heap.size + 1, 6, none⟩) hzr).trans s6
  have r6 := cell_below r6 hb1
  have s7 := (Below.frozen hb1 (p := ⟨w.heap.size + 1, 7, none⟩) hzr).trans s7
  have r7 := cell_below r7 hb1
  have hb := below_onN hb hb1 hb.size
  clear hzr
  clear hwB hb1
  go_wp2_with fail
  refine (HP2.out _).mono ?_
  rintro e w2 ⟨rfl, hb2⟩
  have p0 := cell_below p0 hb2
  have p1 := cell_below p1 hb2
  have p2 := cell_below p2 hb2
  have p3 := cell_below p3 hb2
  have hzr := block_lt r0
  have s0 := (Below.frozen hb2 (p := ⟨w.heap.size + 1, 0, none⟩) hzr).trans s0
  have r0 := cell_below r0 hb2
  have s1 := (Below.frozen hb2 (p := ⟨w.heap.size + 1, 1, none⟩) hzr).trans s1
  have r1 := cell_below r1 hb2
  have s2 := (Below.frozen hb2 (p := ⟨w.heap.size + 1, 2, none⟩) hzr).trans s2
  have r2 := cell_below r2 hb2
  have s3 := (Below.frozen hb2 (p := ⟨w.heap.size + 1, 3, none⟩) hzr).trans s3
  have r3 := cell_below r3 hb2
  have s4 := (Below.frozen hb2 (p := ⟨w.heap.size + 1, 4, none⟩) hzr).trans s4
  have r4 := cell_below r4 hb2
  have s5 := (Below.frozen hb2 (p := ⟨w.heap.size + 1, 5, none⟩) hzr).trans s5
  have r5 := cell_below r5 hb2
  have s6 := (Below.frozen hb2 (p := ⟨w.heap.size + 1, 6, none⟩) hzr).trans s6
  have r6 := cell_below r6 hb2
  have s7 := (Below.frozen hb2 (p := ⟨w.heap.size + 1, 7, none⟩) hzr).trans s7
  have r7 := cell_below r7 hb2
  have hb := below_onN hb hb2 hb.size
  clear hzr
  clear hb2
  go_wp2_with fail
  refine (withinN1_any 0 100000 lead _ _ (by simp [go_sem])).mono ?_
  rintro e w3 ⟨rfl, hb3⟩
  rw [H2.out]
  have hb3 := box_below hb3
  have p0 := cell_below p0 hb3
  have p1 := cell_below p1 hb3
  have p2 := cell_below p2 hb3
  have p3 := cell_below p3 hb3
  have hzr := block_lt r0
  have s0 := (Below.frozen hb3 (p := ⟨w.heap.size + 1, 0, none⟩) hzr).trans s0
  have r0 := cell_below r0 hb3
  have s1 := (Below.frozen hb3 (p := ⟨w.heap.size + 1, 1, none⟩) hzr).trans s1
  have r1 := cell_below r1 hb3
  have s2 := (Below.frozen hb3 (p := ⟨w.heap.size + 1, 2, none⟩) hzr).trans s2
  have r2 := cell_below r2 hb3
  have s3 := (Below.frozen hb3 (p := ⟨w.heap.size + 1, 3, none⟩) hzr).trans s3
  have r3 := cell_below r3 hb3
  have s4 := (Below.frozen hb3 (p := ⟨w.heap.size + 1, 4, none⟩) hzr).trans s4
  have r4 := cell_below r4 hb3
  have s5 := (Below.frozen hb3 (p := ⟨w.heap.size + 1, 5, none⟩) hzr).trans s5
  have r5 := cell_below r5 hb3
  have s6 := (Below.frozen hb3 (p := ⟨w.heap.size + 1, 6, none⟩) hzr).trans s6
  have r6 := cell_below r6 hb3
  have s7 := (Below.frozen hb3 (p := ⟨w.heap.size + 1, 7, none⟩) hzr).trans s7
  have r7 := cell_below r7 hb3
  have hb := below_onN hb hb3 hb.size
  clear hzr
  clear hb3
  go_wp2_with fail
  refine (HD.out _ hb).mono ?_
  rintro e w4 ⟨hde, hb4⟩
  have hde : e = .returned (.tuple #[.int .i64 (dd), .bool (dqO z0 z1 z2 z3 side l least), .int .i64 (dueE z0 z1 z2 z3 side l least)]) := by rw [← hdq]; exact hde
  rw [h3, e0] at hde
  clear h3 e0
  clear hdq
  subst hde
  have cD := cell_below cD (below_onN hb hb4 hb.size)
  have p0 := cell_below p0 hb4
  have p1 := cell_below p1 hb4
  have p2 := cell_below p2 hb4
  have p3 := cell_below p3 hb4
  have hzr := block_lt r0
  have s0 := (Below.frozen hb4 (p := ⟨w.heap.size + 1, 0, none⟩) hzr).trans s0
  have r0 := cell_below r0 hb4
  have s1 := (Below.frozen hb4 (p := ⟨w.heap.size + 1, 1, none⟩) hzr).trans s1
  have r1 := cell_below r1 hb4
  have s2 := (Below.frozen hb4 (p := ⟨w.heap.size + 1, 2, none⟩) hzr).trans s2
  have r2 := cell_below r2 hb4
  have s3 := (Below.frozen hb4 (p := ⟨w.heap.size + 1, 3, none⟩) hzr).trans s3
  have r3 := cell_below r3 hb4
  have s4 := (Below.frozen hb4 (p := ⟨w.heap.size + 1, 4, none⟩) hzr).trans s4
  have r4 := cell_below r4 hb4
  have s5 := (Below.frozen hb4 (p := ⟨w.heap.size + 1, 5, none⟩) hzr).trans s5
  have r5 := cell_below r5 hb4
  have s6 := (Below.frozen hb4 (p := ⟨w.heap.size + 1, 6, none⟩) hzr).trans s6
  have r6 := cell_below r6 hb4
  have s7 := (Below.frozen hb4 (p := ⟨w.heap.size + 1, 7, none⟩) hzr).trans s7
  have r7 := cell_below r7 hb4
  have hb := below_onN hb hb4 hb.size
  clear hzr
  clear hb4
  obtain ⟨wE, hwE⟩ : ∃ wE, (w4.alloc (.cells #[.int .i64 n, .int .i64 r, .int .i64 c, .int .i64 F, .int .i64 M, .int .i64 cr, .bool true, .bool false] 53)).setCell ⟨w4.heap.size, 7, none⟩ (.bool false) = wE := ⟨_, rfl⟩
  have hb5 : Below w4.heap.size w4 wE := by rw [← hwE]; exact ((Below.refl _ _).alloc (Nat.le_refl _) _).setCell (p := ⟨w4.heap.size, 7, none⟩) (Nat.le_refl _) _
  have y0 : wE.cell? ⟨w4.heap.size, 0, none⟩ = some (.int .i64 n) := by rw [← hwE, World.cell?_setCell_other _ _ _ _ (by simp)]; simp [go_sem]
  have y1 : wE.cell? ⟨w4.heap.size, 1, none⟩ = some (.int .i64 r) := by rw [← hwE, World.cell?_setCell_other _ _ _ _ (by simp)]; simp [go_sem]
  have y2 : wE.cell? ⟨w4.heap.size, 2, none⟩ = some (.int .i64 c) := by rw [← hwE, World.cell?_setCell_other _ _ _ _ (by simp)]; simp [go_sem]
  have y3 : wE.cell? ⟨w4.heap.size, 3, none⟩ = some (.int .i64 F) := by rw [← hwE, World.cell?_setCell_other _ _ _ _ (by simp)]; simp [go_sem]
  have y4 : wE.cell? ⟨w4.heap.size, 4, none⟩ = some (.int .i64 M) := by rw [← hwE, World.cell?_setCell_other _ _ _ _ (by simp)]; simp [go_sem]
  have y5 : wE.cell? ⟨w4.heap.size, 5, none⟩ = some (.int .i64 cr) := by rw [← hwE, World.cell?_setCell_other _ _ _ _ (by simp)]; simp [go_sem]
  have y6 : wE.cell? ⟨w4.heap.size, 6, none⟩ = some (.bool true) := by rw [← hwE, World.cell?_setCell_other _ _ _ _ (by simp)]; simp [go_sem]
  have y7 : wE.cell? ⟨w4.heap.size, 7, none⟩ = some (.bool false) := by rw [← hwE]; exact World.cell?_setCell_same (u := .bool false) _ _ _ (by simp [go_sem])
  have p0 := cell_below p0 hb5
  have p1 := cell_below p1 hb5
  have p2 := cell_below p2 hb5
  have p3 := cell_below p3 hb5
  have hzr := block_lt r0
  have s0 := (Below.frozen hb5 (p := ⟨w.heap.size + 1, 0, none⟩) hzr).trans s0
  have r0 := cell_below r0 hb5
  have s1 := (Below.frozen hb5 (p := ⟨w.heap.size + 1, 1, none⟩) hzr).trans s1
  have r1 := cell_below r1 hb5
  have s2 := (Below.frozen hb5 (p := ⟨w.heap.size + 1, 2, none⟩) hzr).trans s2
  have r2 := cell_below r2 hb5
  have s3 := (Below.frozen hb5 (p := ⟨w.heap.size + 1, 3, none⟩) hzr).trans s3
  have r3 := cell_below r3 hb5
  have s4 := (Below.frozen hb5 (p := ⟨w.heap.size + 1, 4, none⟩) hzr).trans s4
  have r4 := cell_below r4 hb5
  have s5 := (Below.frozen hb5 (p := ⟨w.heap.size + 1, 5, none⟩) hzr).trans s5
  have r5 := cell_below r5 hb5
  have s6 := (Below.frozen hb5 (p := ⟨w.heap.size + 1, 6, none⟩) hzr).trans s6
  have r6 := cell_below r6 hb5
  have s7 := (Below.frozen hb5 (p := ⟨w.heap.size + 1, 7, none⟩) hzr).trans s7
  have r7 := cell_below r7 hb5
  have hb := below_onN hb hb5 hb.size
  clear hzr
  clear hb5
  go_wp2_with fail
  obtain ⟨wz, hwz, x0, x1, x2, x3, x4, x5, x6, x7, hbz⟩ := set8 _ (w.heap.size + 1) (.int .i64 n) (.int .i64 r) (.int .i64 c) (.int .i64 F) (.int .i64 M) (.int .i64 cr) (.bool true) (.bool false) (eight (isSome_of r0) (isSome_of r1) (isSome_of r2) (isSome_of r3) (isSome_of r4) (isSome_of r5) (isSome_of r6) (isSome_of r7))
  have hb := hbz w.heap.size w (Nat.le_succ _) hb
  clear hbz r0 s0 r1 s1 r2 s2 r3 s3 r4 s4 r5 s5 r6 s6 r7 s7
  rw [hwz]
  clear hwz
  refine bodyPost_ret (v := .tuple #[.agg #[.int .i64 n, .int .i64 r, .int .i64 c, .int .i64 F, .int .i64 M, .int .i64 cr, .bool true, .bool false], .bool true, .int .i64 0]) (by simp [results, Try.results37, go_sem, x0, x1, x2, x3, x4, x5, x6, x7]) rfl ?_
  exact ⟨by rw [HV.out], hb⟩


theorem dueJob_r (n r c cr z0 z1 z2 z3 side : Int) (a : Option Addr) (l : List (Int × Int)) (cap : Nat) (least lead : Int) (w : World) (hP : PairsS w a l) (hle : I64 least) (hld : I64 lead) :
    Calls Try.prog 37 #[.int .i64 n, .int .i64 r, .int .i64 c, .int .i64 cr, .agg #[.int .i64 z0, .int .i64 z1, .int .i64 z2, .int .i64 z3], .int .i64 side, .slice a l.length cap, .int .i64 least, .int .i64 lead] w fun e w' => e = .returned (djV n r c cr z0 z1 z2 z3 side l least lead) ∧ Below w.heap.size w w' := by
  cases h0 : btw n 1 1000000000 with
  | false => exact dueJob_a n r c cr z0 z1 z2 z3 side a l cap least lead w hP hle hld h0
  | true =>
    cases h1 : placeB r c cr with
    | false => exact dueJob_b n r c cr z0 z1 z2 z3 side a l cap least lead w hP hle hld h0 h1
    | true =>
      cases h2 : btw lead 0 100000 with
      | false => exact dueJob_c n r c cr z0 z1 z2 z3 side a l cap least lead w hP hle hld h0 h1 h2
      | true =>
        cases h3 : dqO z0 z1 z2 z3 side l least with
        | false => exact dueJob_d n r c cr z0 z1 z2 z3 side a l cap least lead w hP hle hld h0 h1 h2 h3
        | true => exact dueJob_e n r c cr z0 z1 z2 z3 side a l cap least lead w hP hle hld h0 h1 h2 h3
end Go.Proofs.Ytpkafkhdococeaa
