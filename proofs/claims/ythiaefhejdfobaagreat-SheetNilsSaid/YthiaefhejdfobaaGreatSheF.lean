/-
  Balance at the example; Awake of the laws of package sheet. By an AI agent.
-/
import Derived.Test.YthiaefhejdfobaaGreatSheD
import Derived.Test.YthiaefhejdfobaaGreatSheE
import Derived.Maps.RangeWalk
import Derived.Deep.RegionHeld3
import Derived.BigQuiet
import Derived.BigRegion
import Derived.StillTailTactics
import Derived.Deep.DeepCutAuto
namespace Go.Proofs.YthiaefhejdfobaaGreat
set_option linter.unusedVariables false
set_option linter.unusedSimpArgs false
open Go.RowKit

theorem below_cellsS {B C : Nat} {w0 : World} (hC : C ≤ B) : ∀ (vs : List Value) (i : Nat) (w : World), Below C w0 w → Below C w0 (w.setCells B i vs)
  | [], _, w, h => h
  | v :: vs, i, w, h => below_cellsS hC vs (i + 1) _ (h.setCell hC v)
theorem set5 (W : World) (B : Nat) (v0 v1 v2 v3 v4 : Value) (h : ∀ i, i < 5 → (W.cell? ⟨B, i, none⟩).isSome = true) :
    ∃ W', (((((W.setCell ⟨B, 0, none⟩ v0).setCell ⟨B, 1, none⟩ v1).setCell ⟨B, 2, none⟩ v2).setCell ⟨B, 3, none⟩ v3).setCell ⟨B, 4, none⟩ v4) = W' ∧
      W'.cell? ⟨B, 0, none⟩ = some v0 ∧ W'.cell? ⟨B, 1, none⟩ = some v1 ∧ W'.cell? ⟨B, 2, none⟩ = some v2 ∧ W'.cell? ⟨B, 3, none⟩ = some v3 ∧ W'.cell? ⟨B, 4, none⟩ = some v4 ∧
      ∀ (C : Nat) (w : World), C ≤ B → Below C w W → Below C w W' := by
  have e : (((((W.setCell ⟨B, 0, none⟩ v0).setCell ⟨B, 1, none⟩ v1).setCell ⟨B, 2, none⟩ v2).setCell ⟨B, 3, none⟩ v3).setCell ⟨B, 4, none⟩ v4) = W.setCells B 0 [v0, v1, v2, v3, v4] := rfl
  have k : ∀ j (hj : j < 5), (W.setCells B 0 [v0, v1, v2, v3, v4]).cell? ⟨B, 0 + j, none⟩ = some ([v0, v1, v2, v3, v4][j]'hj) := fun j hj => World.cell?_setCells_in B [v0, v1, v2, v3, v4] 0 W (fun i hi => by rw [Nat.zero_add]; exact h i hi) j hj
  exact ⟨_, e, k 0 (by decide), k 1 (by decide), k 2 (by decide), k 3 (by decide), k 4 (by decide), fun C w hC hw => below_cellsS hC _ 0 _ hw⟩
theorem five {P : Nat → Prop} (h0 : P 0) (h1 : P 1) (h2 : P 2) (h3 : P 3) (h4 : P 4) : ∀ i, i < 5 → P i := fun i hi => by
  match i, hi with
  | 0, _ => exact h0
  | 1, _ => exact h1
  | 2, _ => exact h2
  | 3, _ => exact h3
  | 4, _ => exact h4
theorem isSome_of {o : Option Value} {v : Value} (h : o = some v) : o.isSome = true := by rw [h]; rfl
set_option maxRecDepth 100000 in
set_option maxHeartbeats 4000000 in
theorem balS_any (w : World) (s m1 m2 m3 m4 : Nat) (h : StB w s m1 m2 m3 m4 3 10) (h1 : MapIs w m1 #[⟨.int .i64 3, .agg #[.int .i64 3, .int .i64 3, .int .i64 1, .int .i64 1, .int .i64 1, .int .i64 0, .int .i64 2, .int .i64 5, .slice none 0 0], 0⟩] 1) (h2 : MapIs w m2 #[] 0) :
    Calls Tryz.prog 15 #[.pointer (some ⟨s, 0, none⟩)] w fun e w' => e = .returned (.agg #[.int .i64 10, .int .i64 10, .int .i64 0, .int .i64 0, .int .i64 0]) ∧ Below w.heap.size w w' := by
  have HM := Lib.hid (fun W (hW : Below w.heap.size w W) => missS_any W s m1 m2 m3 m4 3 10 (h.below hW))
  have H := Lib.hid h
  have hs := block_lt h.c0
  have l1 := h1.lt
  have l2 := h2.lt
  have k1 := Lib.hid h1
  have k2 := Lib.hid h2
  have c10 := h.c10
  have c5 := h.c5
  have c6 := h.c6
  clear h h1 h2
  go_enter Tryz.func15, Tryz.ntmps15
  go_wp2_with fail
  refine (HM.out _ ((Below.refl _ _).alloc (Nat.le_refl _) _)).mono ?_
  rintro e w0 ⟨rfl, rfl⟩
  clear HM
  go_wp2_with (at_range; refine wpList_range_raw _ rfl _ 33 rfl 3 73 m1 #[⟨.int .i64 3, .agg #[.int .i64 3, .int .i64 3, .int .i64 1, .int .i64 1, .int .i64 1, .int .i64 0, .int .i64 2, .int .i64 5, .slice none 0 0], 0⟩] 1 rfl ((k1.out.alloc _).alloc _) Tryz.underlying33 ?_)
  go_frame
  have e20 : ((w.alloc (.cells #[.int .i64 0, .int .i64 0, .int .i64 0, .int .i64 0, .int .i64 0] 56)).alloc (.cells #[.int .i64 10, .int .i64 0, .int .i64 0, .int .i64 0, .int .i64 0] 56)).heap.size = w.heap.size + 2 := by simp
  obtain ⟨w3, hw3⟩ : ∃ w3, ((w.alloc (.cells #[.int .i64 0, .int .i64 0, .int .i64 0, .int .i64 0, .int .i64 0] 56)).alloc (.cells #[.int .i64 10, .int .i64 0, .int .i64 0, .int .i64 0, .int .i64 0] 56)).alloc (.mapIter (some m1) 1 #[] 1) = w3 := ⟨_, rfl⟩
  have hb3 : Below w.heap.size w w3 := by rw [← hw3]; exact (((Below.refl _ _).alloc (Nat.le_refl _) _).alloc (by simp) _).alloc (by simp <;> omega) _
  have p0 : w3.cell? ⟨w.heap.size + 1, 0, none⟩ = some (.int .i64 10) := by rw [← hw3]; simp [go_sem]
  have p1 : w3.cell? ⟨w.heap.size + 1, 1, none⟩ = some (.int .i64 0) := by rw [← hw3]; simp [go_sem]
  have p2 : w3.cell? ⟨w.heap.size + 1, 2, none⟩ = some (.int .i64 0) := by rw [← hw3]; simp [go_sem]
  have p3 : w3.cell? ⟨w.heap.size + 1, 3, none⟩ = some (.int .i64 0) := by rw [← hw3]; simp [go_sem]
  have p4 : w3.cell? ⟨w.heap.size + 1, 4, none⟩ = some (.int .i64 0) := by rw [← hw3]; simp [go_sem]
  have f1 : w3.frozen? ⟨w.heap.size + 1, 1, none⟩ = false := by rw [← hw3]; simp [go_sem]
  have f4 : w3.frozen? ⟨w.heap.size + 1, 4, none⟩ = false := by rw [← hw3]; simp [go_sem]
  have o0 : w3.cell? ⟨w.heap.size, 0, none⟩ = some (.int .i64 0) := by rw [← hw3]; simp [go_sem]
  have u0 : w3.frozen? ⟨w.heap.size, 0, none⟩ = false := by rw [← hw3]; simp [go_sem]
  have o1 : w3.cell? ⟨w.heap.size, 1, none⟩ = some (.int .i64 0) := by rw [← hw3]; simp [go_sem]
  have u1 : w3.frozen? ⟨w.heap.size, 1, none⟩ = false := by rw [← hw3]; simp [go_sem]
  have o2 : w3.cell? ⟨w.heap.size, 2, none⟩ = some (.int .i64 0) := by rw [← hw3]; simp [go_sem]
  have u2 : w3.frozen? ⟨w.heap.size, 2, none⟩ = false := by rw [← hw3]; simp [go_sem]
  have o3 : w3.cell? ⟨w.heap.size, 3, none⟩ = some (.int .i64 0) := by rw [← hw3]; simp [go_sem]
  have u3 : w3.frozen? ⟨w.heap.size, 3, none⟩ = false := by rw [← hw3]; simp [go_sem]
  have o4 : w3.cell? ⟨w.heap.size, 4, none⟩ = some (.int .i64 0) := by rw [← hw3]; simp [go_sem]
  have u4 : w3.frozen? ⟨w.heap.size, 4, none⟩ = false := by rw [← hw3]; simp [go_sem]
  have hz3 : w3.heap.size = w.heap.size + 3 := by rw [← hw3]; simp
  have hr : w3.heap[w.heap.size + 2]? = some (.mapIter (some m1) 1 #[] 1) := by rw [← hw3, ← e20]; exact (MapKept.heap_alloc _ _).1
  rw [hw3, e20]
  clear hw3 e20
  have k1 := Lib.hid (k1.out.below hb3)
  have k2 := Lib.hid (k2.out.below hb3)
  have c6 := cell_below c6 hb3
  have HZ3 := Lib.hid hz3
  have HR3 := Lib.hid hr
  clear hz3 hr
  have hzz : w.heap.size + 2 < w3.heap.size := by rw [HZ3.out]; omega
  clear c5 c10
  refine wp_loop_rounds 2 ?_
  rw [rounds_succ]
  go_wp2_with (at_next; go_loud (refine wpList_next_one _ rfl _ rfl m1 (w.heap.size + 2) 1 1 #[] #[⟨.int .i64 3, .agg #[.int .i64 3, .int .i64 3, .int .i64 1, .int .i64 1, .int .i64 1, .int .i64 0, .int .i64 2, .int .i64 5, .slice none 0 0], 0⟩] 1 ⟨.int .i64 3, .agg #[.int .i64 3, .int .i64 3, .int .i64 1, .int .i64 1, .int .i64 1, .int .i64 0, .int .i64 2, .int .i64 5, .slice none 0 0], 0⟩ rfl HR3.out k1.out (by simp) (Nat.le_refl _) (left_one _ _) (by simp) ?_; intro w4 hr4 hg4 hen; obtain ⟨hc4, hf4⟩ : (∀ b o, b < w3.heap.size → b ≠ w.heap.size + 2 → w4.cell? ⟨b, o, none⟩ = w3.cell? ⟨b, o, none⟩) ∧ (∀ b o, b < w3.heap.size → b ≠ w.heap.size + 2 → w4.frozen? ⟨b, o, none⟩ = w3.frozen? ⟨b, o, none⟩) := ⟨fun b o h1 h2 => cell_same (hg4.block b h1 (by simpa using h2)), fun b o h1 h2 => frozen_same (hg4.block b h1 (by simpa using h2))⟩; have p0 := (hc4 _ _ (by omega) (by omega)).trans p0; have p1 := (hc4 _ _ (by omega) (by omega)).trans p1; have p2 := (hc4 _ _ (by omega) (by omega)).trans p2; have p3 := (hc4 _ _ (by omega) (by omega)).trans p3; have p4 := (hc4 _ _ (by omega) (by omega)).trans p4; have f1 := (hf4 _ _ (by omega) (by omega)).trans f1; have f4 := (hf4 _ _ (by omega) (by omega)).trans f4; have c6 := (hc4 _ _ (by omega) (by omega)).trans c6; have o0 := (hc4 _ _ (by omega) (by omega)).trans o0; have u0 := (hf4 _ _ (by omega) (by omega)).trans u0; have o1 := (hc4 _ _ (by omega) (by omega)).trans o1; have u1 := (hf4 _ _ (by omega) (by omega)).trans u1; have o2 := (hc4 _ _ (by omega) (by omega)).trans o2; have u2 := (hf4 _ _ (by omega) (by omega)).trans u2; have o3 := (hc4 _ _ (by omega) (by omega)).trans o3; have u3 := (hf4 _ _ (by omega) (by omega)).trans u3; have o4 := (hc4 _ _ (by omega) (by omega)).trans o4; have u4 := (hf4 _ _ (by omega) (by omega)).trans u4; have k1 : Hid (MapIs w4 m1 _ _) := Lib.hid ((hg4.block m1 (by omega) (by simp <;> omega)).trans k1.out); have k2 : Hid (MapIs w4 m2 _ _) := Lib.hid ((hg4.block m2 (by omega) (by simp <;> omega)).trans k2.out); have hb4 : Below w.heap.size w w4 := hb3.grown hg4 hb3.size (fun j hj => (by cases hj <;> omega)); have hzz : w.heap.size + 2 < w4.heap.size := Nat.lt_of_lt_of_le hzz hg4.size; have hzy : w.heap.size + 1 < w4.heap.size := (by omega); have hzx : w.heap.size < w4.heap.size := (by omega); have HR4 := Lib.hid hr4; clear hc4 hf4 hg4 hb3 HZ3 HR3 hr4))
  obtain ⟨w5, hw5⟩ : ∃ w5, (w4.setCell ⟨w.heap.size + 1, 1, none⟩ (.int .i64 10)).alloc (.cells #[.int .i64 3, .int .i64 3, .int .i64 1, .int .i64 1, .int .i64 1, .int .i64 0, .int .i64 2, .int .i64 5, .slice none 0 0] 73) = w5 := ⟨_, rfl⟩
  have hr5 : w5.heap[w.heap.size + 2]? = some (.mapIter (some m1) 1 (#[].push 0) 1) := by rw [← hw5]; exact ((MapKept.heap_alloc _ _).2 _ (by simp <;> omega)).trans ((RowKit.Below.heap_setCell _ _ _ _ (by simp)).trans HR4.out)
  have hk1 : MapIs w5 m1 #[⟨.int .i64 3, .agg #[.int .i64 3, .int .i64 3, .int .i64 1, .int .i64 1, .int .i64 1, .int .i64 0, .int .i64 2, .int .i64 5, .slice none 0 0], 0⟩] 1 := by rw [← hw5]; exact ((MapKept.heap_alloc _ _).2 _ (by simp <;> omega)).trans ((RowKit.Below.heap_setCell _ _ _ _ (by simp <;> omega)).trans k1.out)
  have hk2 : MapIs w5 m2 #[] 0 := by rw [← hw5]; exact ((MapKept.heap_alloc _ _).2 _ (by simp <;> omega)).trans ((RowKit.Below.heap_setCell _ _ _ _ (by simp <;> omega)).trans k2.out)
  have p0 : w5.cell? ⟨w.heap.size + 1, 0, none⟩ = some (.int .i64 10) := by rw [← hw5]; simp [go_sem, p0, p1, p2, p3, p4, f1, f4, hzy]
  have p1 : w5.cell? ⟨w.heap.size + 1, 1, none⟩ = some (.int .i64 10) := by rw [← hw5]; simp [go_sem, p0, p1, p2, p3, p4, f1, f4, hzy]
  have p2 : w5.cell? ⟨w.heap.size + 1, 2, none⟩ = some (.int .i64 0) := by rw [← hw5]; simp [go_sem, p0, p1, p2, p3, p4, f1, f4, hzy]
  have p3 : w5.cell? ⟨w.heap.size + 1, 3, none⟩ = some (.int .i64 0) := by rw [← hw5]; simp [go_sem, p0, p1, p2, p3, p4, f1, f4, hzy]
  have p4 : w5.cell? ⟨w.heap.size + 1, 4, none⟩ = some (.int .i64 0) := by rw [← hw5]; simp [go_sem, p0, p1, p2, p3, p4, f1, f4, hzy]
  have f4 : w5.frozen? ⟨w.heap.size + 1, 4, none⟩ = false := by rw [← hw5]; simp [go_sem, p0, p1, p2, p3, p4, f1, f4, hzy]
  have o0 : w5.cell? ⟨w.heap.size, 0, none⟩ = some (.int .i64 0) := by rw [← hw5]; simp [go_sem, o0, hzx]
  have u0 : w5.frozen? ⟨w.heap.size, 0, none⟩ = false := by rw [← hw5]; simp [go_sem, u0, hzx]
  have o1 : w5.cell? ⟨w.heap.size, 1, none⟩ = some (.int .i64 0) := by rw [← hw5]; simp [go_sem, o1, hzx]
  have u1 : w5.frozen? ⟨w.heap.size, 1, none⟩ = false := by rw [← hw5]; simp [go_sem, u1, hzx]
  have o2 : w5.cell? ⟨w.heap.size, 2, none⟩ = some (.int .i64 0) := by rw [← hw5]; simp [go_sem, o2, hzx]
  have u2 : w5.frozen? ⟨w.heap.size, 2, none⟩ = false := by rw [← hw5]; simp [go_sem, u2, hzx]
  have o3 : w5.cell? ⟨w.heap.size, 3, none⟩ = some (.int .i64 0) := by rw [← hw5]; simp [go_sem, o3, hzx]
  have u3 : w5.frozen? ⟨w.heap.size, 3, none⟩ = false := by rw [← hw5]; simp [go_sem, u3, hzx]
  have o4 : w5.cell? ⟨w.heap.size, 4, none⟩ = some (.int .i64 0) := by rw [← hw5]; simp [go_sem, o4, hzx]
  have u4 : w5.frozen? ⟨w.heap.size, 4, none⟩ = false := by rw [← hw5]; simp [go_sem, u4, hzx]
  have hne : ¬ s = w.heap.size + 1 := by omega
  have hne2 : ¬ w.heap.size + 1 = s := by omega
  have hsl : s < w4.heap.size := by omega
  have c6 : w5.cell? ⟨s, 6, none⟩ = some (.map (some m2)) := by rw [← hw5]; simp [go_sem, c6, hsl, hne, hne2]
  have hb5 : Below w.heap.size w w5 := by rw [← hw5]; exact (hb4.setCell (by simp) _).alloc (by simp <;> omega) _
  have hz5 : w4.heap.size ≤ w5.heap.size := by rw [← hw5]; simp
  rw [hw5]
  clear hw5 hb4 HR4 hen k1 k2
  have HR5 := Lib.hid hr5
  have k1 := Lib.hid hk1
  have k2 := Lib.hid hk2
  clear hr5 hk1 hk2
  have hzz : w.heap.size + 2 < w5.heap.size := by omega
  have hzy : w.heap.size + 1 < w5.heap.size := by omega
  have hzx : w.heap.size < w5.heap.size := by omega
  have hzs : s < w5.heap.size := by omega
  clear hz5 hsl
  rw [rounds_succ]
  go_wp2_with (first | (at_next; refine wpList_next_over _ rfl _ rfl m1 (w.heap.size + 2) 1 1 (#[].push 0) #[⟨.int .i64 3, .agg #[.int .i64 3, .int .i64 3, .int .i64 1, .int .i64 1, .int .i64 1, .int .i64 0, .int .i64 2, .int .i64 5, .slice none 0 0], 0⟩] 1 rfl HR5.out k1.out (by simp) (Nat.le_refl _) (left_done _ _) ?_) | (at_range; go_loud (refine wpList_range_raw _ rfl _ 34 rfl 3 80 m2 #[] 0 rfl k2.out Tryz.underlying34 ?_)))
  go_frame
  refine wp_loop_rounds 1 ?_
  rw [rounds_succ]
  have HR6 := Lib.hid (MapKept.heap_alloc w5 (.mapIter (some m2) 0 #[] 0)).1
  go_upto_region 14 with (at_next; refine wpList_next_over _ rfl _ rfl m2 w5.heap.size 0 0 #[] #[] 0 rfl HR6.out (k2.out.alloc _) (by simp) (Nat.le_refl _) (left_nil _) ?_)
  obtain ⟨w6, hw6⟩ : ∃ w6, w5.alloc (.mapIter (some m2) 0 #[] 0) = w6 := ⟨_, rfl⟩
  have hb6 : Below w5.heap.size w5 w6 := by rw [← hw6]; exact (Below.refl _ _).alloc (Nat.le_refl _) _
  rw [hw6]
  clear hw6 HR6
  have p0 := cell_below p0 hb6
  have p1 := cell_below p1 hb6
  have p2 := cell_below p2 hb6
  have p3 := cell_below p3 hb6
  have p4 := cell_below p4 hb6
  have o0 := cell_below o0 hb6
  have u0 := (hb6.frozen (p := ⟨w.heap.size, 0, none⟩) hzx).trans u0
  have o1 := cell_below o1 hb6
  have u1 := (hb6.frozen (p := ⟨w.heap.size, 1, none⟩) hzx).trans u1
  have o2 := cell_below o2 hb6
  have u2 := (hb6.frozen (p := ⟨w.heap.size, 2, none⟩) hzx).trans u2
  have o3 := cell_below o3 hb6
  have u3 := (hb6.frozen (p := ⟨w.heap.size, 3, none⟩) hzx).trans u3
  have o4 := cell_below o4 hb6
  have u4 := (hb6.frozen (p := ⟨w.heap.size, 4, none⟩) hzx).trans u4
  have f4 := (hb6.frozen (p := ⟨w.heap.size + 1, 4, none⟩) hzy).trans f4
  have hb := hb5.trans (hb6.mono hb5.size)
  have hzx := Nat.lt_of_lt_of_le hzx hb6.size
  have hzy := Nat.lt_of_lt_of_le hzy hb6.size
  clear hb6 hb5 HR5 k1 k2 c6 hzz hzs
  go_upto_region 15 with (fail)
  obtain ⟨w7, hw7⟩ : ∃ w7, w6.setCell ⟨w.heap.size + 1, 4, none⟩ (.int .i64 0) = w7 := ⟨_, rfl⟩
  have p0 : w7.cell? ⟨w.heap.size + 1, 0, none⟩ = some (.int .i64 10) := by rw [← hw7]; simp [go_sem, p0]
  have p1 : w7.cell? ⟨w.heap.size + 1, 1, none⟩ = some (.int .i64 10) := by rw [← hw7]; simp [go_sem, p1]
  have p2 : w7.cell? ⟨w.heap.size + 1, 2, none⟩ = some (.int .i64 0) := by rw [← hw7]; simp [go_sem, p2]
  have p3 : w7.cell? ⟨w.heap.size + 1, 3, none⟩ = some (.int .i64 0) := by rw [← hw7]; simp [go_sem, p3]
  have p4 : w7.cell? ⟨w.heap.size + 1, 4, none⟩ = some (.int .i64 0) := by rw [← hw7]; simp [go_sem, p4]
  have o0 : w7.cell? ⟨w.heap.size, 0, none⟩ = some (.int .i64 0) := by rw [← hw7]; simp [go_sem, o0]
  have u0 : w7.frozen? ⟨w.heap.size, 0, none⟩ = false := by rw [← hw7]; simp [go_sem, u0]
  have o1 : w7.cell? ⟨w.heap.size, 1, none⟩ = some (.int .i64 0) := by rw [← hw7]; simp [go_sem, o1]
  have u1 : w7.frozen? ⟨w.heap.size, 1, none⟩ = false := by rw [← hw7]; simp [go_sem, u1]
  have o2 : w7.cell? ⟨w.heap.size, 2, none⟩ = some (.int .i64 0) := by rw [← hw7]; simp [go_sem, o2]
  have u2 : w7.frozen? ⟨w.heap.size, 2, none⟩ = false := by rw [← hw7]; simp [go_sem, u2]
  have o3 : w7.cell? ⟨w.heap.size, 3, none⟩ = some (.int .i64 0) := by rw [← hw7]; simp [go_sem, o3]
  have u3 : w7.frozen? ⟨w.heap.size, 3, none⟩ = false := by rw [← hw7]; simp [go_sem, u3]
  have o4 : w7.cell? ⟨w.heap.size, 4, none⟩ = some (.int .i64 0) := by rw [← hw7]; simp [go_sem, o4]
  have u4 : w7.frozen? ⟨w.heap.size, 4, none⟩ = false := by rw [← hw7]; simp [go_sem, u4]
  have hb : Below w.heap.size w w7 := by rw [← hw7]; exact hb.setCell (by simp) _
  rw [hw7]
  clear hw7
  go_wp2_with fail
  obtain ⟨wz, hwz, x0, x1, x2, x3, x4, hbz⟩ := set5 _ w.heap.size (.int .i64 10) (.int .i64 10) (.int .i64 0) (.int .i64 0) (.int .i64 0) (five (isSome_of o0) (isSome_of o1) (isSome_of o2) (isSome_of o3) (isSome_of o4))
  have hb := hbz w.heap.size w (Nat.le_refl _) hb
  rw [hwz]
  clear hwz
  refine bodyPost_ret (v := .agg #[.int .i64 10, .int .i64 10, .int .i64 0, .int .i64 0, .int .i64 0]) (by simp [results, Tryz.results15, go_sem, x0, x1, x2, x3, x4]) rfl ⟨rfl, hb⟩
set_option maxRecDepth 100000 in
set_option maxHeartbeats 1000000 in
theorem awakeS_any (w : World) : Calls Tryz.prog 17 #[] w fun e w' => e = .returned (.bool true) ∧ Below w.heap.size w w' := by
  obtain ⟨wB, hwB⟩ : ∃ wB, w.alloc (.cells #[.int .i64 30, .int .i64 32] 86) = wB := ⟨_, rfl⟩
  have hbB : Below w.heap.size w wB := by rw [← hwB]; exact (Below.refl _ _).alloc (Nat.le_refl _) _
  have hP : PairsS wB (some ⟨w.heap.size, 0, none⟩) [(30, 32)] := ⟨by decide, fun i hi => by
    have hi : i < 1 := hi
    match i, hi with
    | 0, _ => unfold I64 gp; simp, w.heap.size, 0, fun _ => rfl, fun i hi => by
    have hi : i < 1 := hi
    match i, hi with
    | 0, _ => rw [← hwB]; simp [go_sem, gp]⟩
  have H1 := Lib.hid (clearS_any 100 50 (some ⟨w.heap.size, 0, none⟩) [(30, 32)] 1 wB hP (by decide) (by unfold I64; omega) (by unfold I64; omega))
  have e : clearV 100 50 [(30, 32)] = (32, true) := by decide
  rw [e] at H1
  clear e hP
  go_enter Tryz.func17, Tryz.ntmps17
  go_wp2_with fail
  clear hwB
  refine H1.out.mono ?_
  rintro e w1 ⟨rfl, hb1⟩
  clear H1
  have hb := hbB.trans (hb1.mono hbB.size)
  have hz1 := hb.size
  clear hb1 hbB
  go_wp2_with fail
  refine (newS_any w1).mono ?_
  rintro e w2 ⟨s, m1, m2, m3, m4, rfl, hS, k1, k2, k3, k4, n1, n2, n3, n4, n5, n6, n7, n8, n9, n10, b1, b2, b3, b4, hb2⟩
  have H2 := Lib.hid (recvS_any w2 w1.heap.size s m1 m2 m3 m4 hS k1 k2 k3 k4 n1 n2 n3 n4 n5 n6 n7 n8 n9 n10 b1 b2 b3 b4)
  have hb := hb.trans (hb2.mono hb.size)
  have hz := Lib.hid (hb2.size)
  clear hS k1 k2 k3 k4 n1 n2 n3 n4 n5 n6 n7 n8 n9 n10 b1 b2 b3 b4 hb2
  go_wp2_with fail
  refine H2.out.mono ?_
  rintro e w3 ⟨rfl, hS, k1, k2, hb3⟩
  have H3 := Lib.hid (balS_any w3 s m1 m2 m3 m4 hS k1 k2)
  have hb := hb.trans (hb3.mono hz1)
  clear hS k1 k2 hb3 H2
  go_wp2_with fail
  refine H3.out.mono ?_
  rintro e w4 ⟨rfl, hb4⟩
  have hb := hb.trans (hb4.mono hb.size)
  clear hb4 H3
  go_wp2_with fail
  go_ret
  exact ⟨rfl, hb⟩
end Go.Proofs.YthiaefhejdfobaaGreat
