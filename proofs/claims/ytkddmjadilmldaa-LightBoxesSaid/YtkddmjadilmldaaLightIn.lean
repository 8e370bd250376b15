/-
  The walks of turn and of colourValid, and of their references. By an AI agent.
-/
import Derived.Test.YtkddmjadilmldaaLightG
namespace Go.Proofs.Ytkddmjadilmldaa
set_option linter.unusedVariables false
set_option linter.unusedSimpArgs false
open Go.RowKit

def colB (x y : Int) : Bool := btw x 0 10000 && btw y 0 10000
theorem colB_iff (x y : Int) : colB x y = true ↔ (0 ≤ x ∧ x ≤ 10000) ∧ 0 ≤ y ∧ y ≤ 10000 := by unfold colB; rw [Bool.and_eq_true, btw_iff, btw_iff]

set_option maxRecDepth 100000 in
theorem colourValid_any (x y : Int) (w : World) : Calls Try.prog 49 #[.agg #[.int .i64 x, .int .i64 y]] w fun e w' => e = .returned (.bool (colB x y)) ∧ Below w.heap.size w w' := by
  unfold colB
  by_cases h : btw x 0 10000 = true
  · rw [h]
    have H := Lib.hid h
    clear h
    go_enter Try.func49, Try.ntmps49
    go_wp2_with (go_at_call 33; refine (between_any _ _ _ _).mono ?_; rintro e w' ⟨rfl, rfl⟩; first | rw [H.out] | skip)
    go_ret
    refine ⟨rfl, ?_⟩
    go_grown
  · have h : btw x 0 10000 = false := by simpa using h
    rw [h]
    have H := Lib.hid h
    clear h
    go_enter Try.func49, Try.ntmps49
    go_wp2_with (go_at_call 33; refine (between_any _ _ _ _).mono ?_; rintro e w' ⟨rfl, rfl⟩; first | rw [H.out] | skip)
    go_ret
    refine ⟨rfl, ?_⟩
    go_grown

set_option maxRecDepth 100000 in
theorem place_any (x y : Int) (w : World) : Calls Try.prog 51 #[.agg #[.int .i64 x, .int .i64 y]] w fun e w' => e = .returned (.bool (colB x y)) ∧ Below w.heap.size w w' := by
  unfold colB
  by_cases h : btw x 0 10000 = true
  · rw [h]
    have H := Lib.hid h
    clear h
    go_enter Try.func51, Try.ntmps51
    go_wp2_with (go_at_call 35; refine (within_any _ _ _ _).mono ?_; rintro e w' ⟨rfl, rfl⟩; first | rw [H.out] | skip)
    go_ret
    refine ⟨rfl, ?_⟩
    go_grown
  · have h : btw x 0 10000 = false := by simpa using h
    rw [h]
    have H := Lib.hid h
    clear h
    go_enter Try.func51, Try.ntmps51
    go_wp2_with (go_at_call 35; refine (within_any _ _ _ _).mono ?_; rintro e w' ⟨rfl, rfl⟩; first | rw [H.out] | skip)
    go_ret
    refine ⟨rfl, ?_⟩
    go_grown

set_option maxRecDepth 100000 in
set_option maxHeartbeats 1000000 in
theorem turn_any (ax ay bx b_y cx cy : Int) (w : World) (ha : colB ax ay = true) (hb : colB bx b_y = true) (hc : colB cx cy = true) :
    Calls Try.prog 50 #[.agg #[.int .i64 ax, .int .i64 ay], .agg #[.int .i64 bx, .int .i64 b_y], .agg #[.int .i64 cx, .int .i64 cy]] w fun e w' => e = .returned (.int .i64 (turnV ax ay bx b_y cx cy)) ∧ Below w.heap.size w w' := by
  have a := (colB_iff _ _).1 ha
  have b := (colB_iff _ _).1 hb
  have c := (colB_iff _ _).1 hc
  obtain ⟨⟨p0, p1⟩, p2, p3⟩ := turn_bd a.1 a.2 b.1 b.2 c.1 c.2
  obtain ⟨⟨a0, a1⟩, a2, a3⟩ := a
  obtain ⟨⟨b0, b1⟩, b2, b3⟩ := b
  obtain ⟨⟨c0, c1⟩, c2, c3⟩ := c
  unfold turnV
  obtain ⟨d1, hd1⟩ : ∃ x, bx - ax = x := ⟨_, rfl⟩
  obtain ⟨d2, hd2⟩ : ∃ x, cy - b_y = x := ⟨_, rfl⟩
  obtain ⟨d3, hd3⟩ : ∃ x, b_y - ay = x := ⟨_, rfl⟩
  obtain ⟨d4, hd4⟩ : ∃ x, cx - bx = x := ⟨_, rfl⟩
  rw [hd1, hd2] at p0 p1
  rw [hd3, hd4] at p2 p3
  rw [hd1, hd2, hd3, hd4]
  have u1 : -10000 ≤ d1 := by omega
  have u2 : d1 ≤ 10000 := by omega
  have u3 : -10000 ≤ d2 := by omega
  have u4 : d2 ≤ 10000 := by omega
  have u5 : -10000 ≤ d3 := by omega
  have u6 : d3 ≤ 10000 := by omega
  have u7 : -10000 ≤ d4 := by omega
  have u8 : d4 ≤ 10000 := by omega
  obtain ⟨q1, hq1⟩ : ∃ x, d1 * d2 = x := ⟨_, rfl⟩
  obtain ⟨q2, hq2⟩ : ∃ x, d3 * d4 = x := ⟨_, rfl⟩
  rw [hq1] at p0 p1 ⊢
  rw [hq2] at p2 p3 ⊢
  clear ha hb hc
  go_enter Try.func50, Try.ntmps50
  go_wp2_with fail
  go_ret
  refine ⟨rfl, ?_⟩
  go_grown

set_option maxRecDepth 100000 in
set_option maxHeartbeats 1000000 in
theorem refTurn_any (ax ay bx b_y cx cy : Int) (w : World) (ha : colB ax ay = true) (hb : colB bx b_y = true) (hc : colB cx cy = true) :
    Calls Try.prog 52 #[.agg #[.int .i64 ax, .int .i64 ay], .agg #[.int .i64 bx, .int .i64 b_y], .agg #[.int .i64 cx, .int .i64 cy]] w fun e w' => e = .returned (.int .i64 (turnV ax ay bx b_y cx cy)) ∧ Below w.heap.size w w' := by
  have a := (colB_iff _ _).1 ha
  have b := (colB_iff _ _).1 hb
  have c := (colB_iff _ _).1 hc
  obtain ⟨⟨p0, p1⟩, p2, p3⟩ := turn_bd a.1 a.2 b.1 b.2 c.1 c.2
  obtain ⟨⟨a0, a1⟩, a2, a3⟩ := a
  obtain ⟨⟨b0, b1⟩, b2, b3⟩ := b
  obtain ⟨⟨c0, c1⟩, c2, c3⟩ := c
  unfold turnV
  obtain ⟨d1, hd1⟩ : ∃ x, bx - ax = x := ⟨_, rfl⟩
  obtain ⟨d2, hd2⟩ : ∃ x, cy - b_y = x := ⟨_, rfl⟩
  obtain ⟨d3, hd3⟩ : ∃ x, b_y - ay = x := ⟨_, rfl⟩
  obtain ⟨d4, hd4⟩ : ∃ x, cx - bx = x := ⟨_, rfl⟩
  rw [hd1, hd2] at p0 p1
  rw [hd3, hd4] at p2 p3
  rw [hd1, hd2, hd3, hd4]
  have u1 : -10000 ≤ d1 := by omega
  have u2 : d1 ≤ 10000 := by omega
  have u3 : -10000 ≤ d2 := by omega
  have u4 : d2 ≤ 10000 := by omega
  have u5 : -10000 ≤ d3 := by omega
  have u6 : d3 ≤ 10000 := by omega
  have u7 : -10000 ≤ d4 := by omega
  have u8 : d4 ≤ 10000 := by omega
  obtain ⟨q1, hq1⟩ : ∃ x, d1 * d2 = x := ⟨_, rfl⟩
  obtain ⟨q2, hq2⟩ : ∃ x, d3 * d4 = x := ⟨_, rfl⟩
  rw [hq1] at p0 p1 ⊢
  rw [hq2] at p2 p3 ⊢
  clear ha hb hc
  go_enter Try.func52, Try.ntmps52
  go_wp2_with fail
  go_ret
  refine ⟨rfl, ?_⟩
  go_grown
end Go.Proofs.Ytkddmjadilmldaa
