/-
  The walks of At at the chapter's first example. By an AI agent.
-/
import Derived.Test.YtbogmdelceikgaaGreatDoorFaceG
import Derived.Handy
namespace Go.Proofs.YtbogmdelceikgaaGreatDoor
open Go.RowKit

/-- The items of the example: 'field white; rim red 8'. -/
def exIts : List It := [⟨1, 1, 0, 0, 0, 0, ByteArray.empty⟩, ⟨2, 4, 0, 0, 8, 0, ByteArray.empty⟩]
/-- The example's canvas. -/
abbrev exCanvas (blk off cap : Nat) : Value := .agg #[.iface 90 (.agg #[.int .i64 60]), .int .i64 60, .int .i64 60, .slice (some ⟨blk, off, none⟩) 2 cap]

theorem below_box {w w' : World} (o : Obj) (h : Below (w.heap.size + 1) (w.alloc o) w') : Below w.heap.size w w' :=
  ((Below.refl _ _).alloc (Nat.le_refl _) _).trans (h.mono (by omega))

set_option maxRecDepth 100000 in
set_option maxHeartbeats 1000000 in
theorem centre_any (f v : Value) (a b i j : Int) (w : World) (a0 : 0 ≤ a) (a1 : a ≤ 200) (b0 : 0 ≤ b) (b1 : b ≤ 200) (i0 : 0 ≤ i) (i1 : i ≤ 200) (j0 : 0 ≤ j) (j1 : j ≤ 200) :
    Calls Tryz.prog 43 #[.agg #[f, .int .i64 a, .int .i64 b, v], .int .i64 i, .int .i64 j] w fun e w' => e = .returned (.tuple #[.int .i64 (2 * i + 1 - a), .int .i64 (2 * j + 1 - b)]) ∧ Below w.heap.size w w' := by
  have e1 : IntKind.i64.wrap (2 * i) = 2 * i := IntWalk.i64_in _ (by omega)
  have e2 : IntKind.i64.wrap (2 * i + 1) = 2 * i + 1 := IntWalk.i64_in _ (by omega)
  have e3 : IntKind.i64.wrap (2 * i + 1 - a) = 2 * i + 1 - a := IntWalk.i64_in _ (by omega)
  have e4 : IntKind.i64.wrap (2 * j) = 2 * j := IntWalk.i64_in _ (by omega)
  have e5 : IntKind.i64.wrap (2 * j + 1) = 2 * j + 1 := IntWalk.i64_in _ (by omega)
  have e6 : IntKind.i64.wrap (2 * j + 1 - b) = 2 * j + 1 - b := IntWalk.i64_in _ (by omega)
  go_enter Tryz.func43, Tryz.ntmps43
  go_wp2
  go_quiet (fail)
  go_wp2
  go_ret2
  exact ⟨rfl, below_drewN ((Below.refl _ _).alloc (Nat.le_refl _) _) _⟩

set_option maxRecDepth 100000 in
set_option maxHeartbeats 1000000 in
theorem round_extent (s : Int) (w : World) :
    Calls Tryz.prog 106 #[.agg #[.int .i64 s]] w fun e w' => e = .returned (.tuple #[.int .i64 s, .int .i64 s]) ∧ Below w.heap.size w w' := by
  go_enter Tryz.func106, Tryz.ntmps106
  go_wp2
  go_quiet (fail)
  go_wp2
  go_ret2
  exact ⟨rfl, below_drewN ((Below.refl _ _).alloc (Nat.le_refl _) _) _⟩

/-- The dots of a round shape that a rim leaves free. -/
def rndB (s x y r : Int) : Bool := decide (0 < s - 2 * r) && decide (x * x + y * y ≤ (s - 2 * r) * (s - 2 * r))
theorem sq_bd (x m : Int) (h0 : -m ≤ x) (h1 : x ≤ m) : 0 ≤ x * x ∧ x * x ≤ m * m := by
  constructor
  · by_cases h : 0 ≤ x
    · exact Int.mul_nonneg h h
    · have := Int.mul_nonneg (show 0 ≤ -x by omega) (show 0 ≤ -x by omega)
      rwa [Int.neg_mul_neg] at this
  · by_cases h : 0 ≤ x
    · exact Int.mul_le_mul h1 h1 h (by omega)
    · have := Int.mul_le_mul (show -x ≤ m by omega) (show -x ≤ m by omega) (by omega) (by omega)
      rwa [Int.neg_mul_neg] at this

set_option maxRecDepth 100000 in
set_option maxHeartbeats 1000000 in
theorem round_within (s x y r : Int) (w : World) (s0 : 0 ≤ s) (s1 : s ≤ 200) (r0 : 0 ≤ r) (r1 : r ≤ 200) (x0 : -200 ≤ x) (x1 : x ≤ 200) (y0 : -200 ≤ y) (y1 : y ≤ 200) :
    Calls Tryz.prog 107 #[.agg #[.int .i64 s], .int .i64 x, .int .i64 y, .int .i64 r] w fun e w' => e = .returned (.bool (rndB s x y r)) ∧ Below w.heap.size w w' := by
  have hx := sq_bd x 200 x0 x1
  have hy := sq_bd y 200 y0 y1
  have hi := sq_bd (s - 2 * r) 400 (by omega) (by omega)
  obtain ⟨hx0, hx1⟩ := hx
  obtain ⟨hy0, hy1⟩ := hy
  obtain ⟨hi0, hi1⟩ := hi
  by_cases h : 0 < s - 2 * r
  · have e : rndB s x y r = decide (x * x + y * y ≤ (s - 2 * r) * (s - 2 * r)) := by unfold rndB; rw [decide_eq_true h]; rfl
    rw [e]
    clear e
    go_enter Tryz.func107, Tryz.ntmps107
    go_wp2
    go_ret
    exact ⟨rfl, by go_grown⟩
  · have e : rndB s x y r = false := by unfold rndB; rw [decide_eq_false h]; rfl
    rw [e]
    clear e
    go_enter Tryz.func107, Tryz.ntmps107
    go_wp2
    go_ret
    exact ⟨rfl, by go_grown⟩

set_option maxRecDepth 100000 in
set_option maxHeartbeats 1000000 in
theorem paints_field (f v : Value) (a b i j c : Int) (t : ByteArray) (w : World) :
    Calls Tryz.prog 44 #[.agg #[f, .int .i64 a, .int .i64 b, v], .agg #[.int .i64 1, .int .i64 c, .int .i64 0, .int .i64 0, .int .i64 0, .int .i64 0, .string t], .int .i64 i, .int .i64 j] w fun e w' => e = .returned (.bool true) ∧ Below w.heap.size w w' := by
  go_enter Tryz.func44, Tryz.ntmps44
  go_wp2
  go_ret
  exact ⟨rfl, by go_grown⟩

set_option maxRecDepth 100000 in
set_option maxHeartbeats 1000000 in
theorem paints_rim (v : Value) (s i j c r : Int) (t : ByteArray) (w : World) (s0 : 0 ≤ s) (s1 : s ≤ 200) (r0 : 0 ≤ r) (r1 : r ≤ 200) (i0 : 0 ≤ i) (i1 : i < s) (j0 : 0 ≤ j) (j1 : j < s) :
    Calls Tryz.prog 44 #[.agg #[.iface 90 (.agg #[.int .i64 s]), .int .i64 s, .int .i64 s, v], .agg #[.int .i64 2, .int .i64 c, .int .i64 0, .int .i64 0, .int .i64 r, .int .i64 0, .string t], .int .i64 i, .int .i64 j] w fun e w' => e = .returned (.bool (!rndB s (2 * i + 1 - s) (2 * j + 1 - s) r)) ∧ Below w.heap.size w w' := by
  go_enter Tryz.func44, Tryz.ntmps44
  go_wp2_with fail
  refine (centre_any _ _ _ _ _ _ _ s0 s1 s0 s1 i0 (by omega) j0 (by omega)).mono ?_
  rintro e w1 ⟨rfl, hb1⟩
  have hbs := hb1.size
  have c0 := hb1.cell (p := ⟨w.heap.size, 0, none⟩) (by simp <;> omega)
  have c1 := hb1.cell (p := ⟨w.heap.size + 1, 4, none⟩) (by simp <;> omega)
  simp [go_sem] at c0 c1 hbs
  go_wp2_with fail
  refine (round_within _ _ _ _ _ s0 s1 r0 r1 (by omega) (by omega) (by omega) (by omega)).mono ?_
  rintro e w2 ⟨rfl, hb2⟩
  go_wp2_with fail
  go_ret
  exact ⟨rfl, (((Below.refl _ _).alloc (Nat.le_refl _) _).alloc (by simp) _).trans ((hb1.mono (by simp <;> omega)).trans (hb2.mono (by omega)))⟩

set_option maxRecDepth 100000 in
set_option maxHeartbeats 4000000 in
theorem top_ex (blk off cap : Nat) (i : Int) (w : World) (i0 : 0 ≤ i) (i1 : i < 60) (b : Bool) (hw : rndB 60 (2 * i + 1 - 60) 1 0 = true) (hr : rndB 60 (2 * i + 1 - 60) 1 8 = b)
    (h0 : ItemAt w blk off ⟨1, 1, 0, 0, 0, 0, ByteArray.empty⟩) (h1 : ItemAt w blk (off + 7) ⟨2, 4, 0, 0, 8, 0, ByteArray.empty⟩) :
    Calls Tryz.prog 36 #[exCanvas blk off cap, .int .i64 i, .int .i64 30] w fun e w' => e = .returned (.int .i64 (if b then 0 else 1)) ∧ Below w.heap.size w w' := by
  have HW := Lib.hid hw
  have HR := Lib.hid hr
  have H0 := Lib.hid h0
  have H1 := Lib.hid h1
  clear hw hr h0 h1
  go_enter Tryz.func36, Tryz.ntmps36
  go_wp2_with fail
  refine (centre_any _ _ _ _ _ _ _ (by omega) (by omega) (by omega) (by omega) i0 (by omega) (by omega) (by omega)).mono ?_
  rintro e w1 ⟨rfl, hb1⟩
  rw [show ((2 : Int) * 30 + 1 - 60) = 1 from rfl]
  have hbs := hb1.size
  have c0 := hb1.cell (p := ⟨w.heap.size, 0, none⟩) (by simp <;> omega)
  simp [go_sem] at c0 hbs
  go_wp2_with fail
  refine (round_within _ _ _ _ _ (by omega) (by omega) (by omega) (by omega) (by omega) (by omega) (by omega) (by omega)).mono ?_
  rintro e w2 ⟨rfl, hb2⟩
  rw [HW.out]
  have hB2 : Below w.heap.size w w2 := ((Below.refl _ _).alloc (Nat.le_refl _) _).trans ((hb1.mono (by simp <;> omega)).trans (hb2.mono (by omega)))
  have hS2 : w.heap.size + 1 ≤ w2.heap.size := Nat.le_trans hbs hb2.size
  have hC2 : Hid (∀ o, w2.cell? ⟨w.heap.size, o, none⟩ = (w.alloc (.cells #[.iface 90 (.agg #[.int .i64 60]), .int .i64 60, .int .i64 60, .slice (some ⟨blk, off, none⟩) 2 cap] 54)).cell? ⟨w.heap.size, o, none⟩) := Lib.hid fun o => by
    rw [hb2.cell (p := ⟨w.heap.size, o, none⟩) (by show w.heap.size < w1.heap.size; omega), hb1.cell (p := ⟨w.heap.size, o, none⟩) (by simp <;> omega)]
  have k3 := hC2.out 3
  simp [go_sem] at k3
  go_wp2_with fail
  refine wp_loop_rounds 3 ?_
  rw [rounds_succ]
  go_wp2_with fail
  refine region_tail 8 (by kernel_rfl) (by kernel_rfl) ?_
  intro W3 HW3
  have hW3 : Below w.heap.size w W3 := by rw [← HW3.out]; exact Below.drew hB2
  have hs3 : w.heap.size + 1 ≤ W3.heap.size := by rw [← HW3.out]; exact hS2
  have hc3 : Hid (∀ o, W3.cell? ⟨w.heap.size, o, none⟩ = (w.alloc (.cells #[.iface 90 (.agg #[.int .i64 60]), .int .i64 60, .int .i64 60, .slice (some ⟨blk, off, none⟩) 2 cap] 54)).cell? ⟨w.heap.size, o, none⟩) := Lib.hid fun o => by rw [← HW3.out]; exact hC2.out o
  have d0 := hc3.out 0
  have d1 := hc3.out 1
  have d2 := hc3.out 2
  have d3 := hc3.out 3
  simp [go_sem] at d0 d1 d2 d3
  obtain ⟨i0', i1', i2', i3', i4', i5', i6'⟩ := H1.out.below hW3
  simp only [List.take_succ_cons, List.take_zero, List.drop_succ_cons, List.drop_zero]
  repeat still_step
  refine wpStill_nil ?_
  go_wp2_with fail
  refine (paints_rim _ _ _ _ _ _ _ _ (by omega) (by omega) (by omega) (by omega) i0 (by omega) (by omega) (by omega)).mono ?_
  rintro e w3' ⟨rfl, hp3⟩
  rw [show ((2 : Int) * 30 + 1 - 60) = 1 from rfl, HR.out]
  clear d0 d1 d2 d3 i0' i1' i2' i3' i4' i5' i6'
  have hB4 : Below w.heap.size w w3' := hW3.trans (hp3.mono (by omega))
  have hS4 : w.heap.size + 1 ≤ w3'.heap.size := Nat.le_trans hs3 hp3.size
  have hC4 : Hid (∀ o, w3'.cell? ⟨w.heap.size, o, none⟩ = (w.alloc (.cells #[.iface 90 (.agg #[.int .i64 60]), .int .i64 60, .int .i64 60, .slice (some ⟨blk, off, none⟩) 2 cap] 54)).cell? ⟨w.heap.size, o, none⟩) := Lib.hid fun o => by
    rw [hp3.cell (p := ⟨w.heap.size, o, none⟩) (by show w.heap.size < W3.heap.size; omega)]; exact hc3.out o
  cases b
  · go_wp2_with fail
    go_ret
    exact ⟨rfl, hB4⟩
  · go_wp2_with fail
    rw [rounds_succ]
    go_wp2_with fail
    refine region_tail 8 (by kernel_rfl) (by kernel_rfl) ?_
    intro W5 HW5
    have hW5 : Below w.heap.size w W5 := by rw [← HW5.out]; exact Below.drew hB4
    have hs5 : w.heap.size + 1 ≤ W5.heap.size := by rw [← HW5.out]; exact hS4
    have hc5 : Hid (∀ o, W5.cell? ⟨w.heap.size, o, none⟩ = (w.alloc (.cells #[.iface 90 (.agg #[.int .i64 60]), .int .i64 60, .int .i64 60, .slice (some ⟨blk, off, none⟩) 2 cap] 54)).cell? ⟨w.heap.size, o, none⟩) := Lib.hid fun o => by rw [← HW5.out]; exact hC4.out o
    have d0 := hc5.out 0
    have d1 := hc5.out 1
    have d2 := hc5.out 2
    have d3 := hc5.out 3
    simp [go_sem] at d0 d1 d2 d3
    obtain ⟨i0', i1', i2', i3', i4', i5', i6'⟩ := H0.out.below hW5
    simp only [List.take_succ_cons, List.take_zero, List.drop_succ_cons, List.drop_zero]
    repeat still_step
    refine wpStill_nil ?_
    go_wp2_with fail
    refine (paints_field _ _ _ _ _ _ _ _ _).mono ?_
    rintro e w5' ⟨rfl, hp5⟩
    skip
    clear d0 d1 d2 d3 i0' i1' i2' i3' i4' i5' i6'
    go_wp2_with fail
    go_ret
    exact ⟨rfl, hW5.trans (hp5.mono (by omega))⟩
end Go.Proofs.YtbogmdelceikgaaGreatDoor
