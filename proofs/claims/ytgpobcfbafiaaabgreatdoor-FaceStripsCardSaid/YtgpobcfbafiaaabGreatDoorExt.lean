/-
  The walks of the extents of a box: package face's Extent, and the reference's. By an AI agent.
-/
import Derived.Test.YtgpobcfbafiaaabGreatDoorFaceJ
namespace Go.Proofs.YtgpobcfbafiaaabGreatDoor
open Go.RowKit

/-- The height of a box, of which the width is Size. -/
def extH (sh sz h : Int) : Int := if sh = 2 then h else if sh = 5 ∨ sh = 6 then (13 * sz + 14) / 15 else sz

set_option maxRecDepth 100000 in
set_option maxHeartbeats 4000000 in
theorem figureOf_panel (s h : Int) (v : Value) (w : World) :
    Calls Tryz.prog 31 #[.agg #[.int .i64 2, .int .i64 s, .int .i64 h, v]] w fun e w' => e = .returned (.iface 94 (.agg #[.int .i64 s, .int .i64 h])) ∧ Below w.heap.size w w' := by
  go_enter Tryz.func31, Tryz.ntmps31
  go_wp2
  go_ret
  exact ⟨rfl, by go_grown⟩

set_option maxRecDepth 100000 in
set_option maxHeartbeats 4000000 in
theorem figureOf_diamond (s h : Int) (v : Value) (w : World) :
    Calls Tryz.prog 31 #[.agg #[.int .i64 3, .int .i64 s, .int .i64 h, v]] w fun e w' => e = .returned (.iface 95 (.agg #[.int .i64 s])) ∧ Below w.heap.size w w' := by
  go_enter Tryz.func31, Tryz.ntmps31
  go_wp2
  go_ret
  exact ⟨rfl, by go_grown⟩

set_option maxRecDepth 100000 in
set_option maxHeartbeats 4000000 in
theorem figureOf_octagon (s h : Int) (v : Value) (w : World) :
    Calls Tryz.prog 31 #[.agg #[.int .i64 4, .int .i64 s, .int .i64 h, v]] w fun e w' => e = .returned (.iface 96 (.agg #[.int .i64 s])) ∧ Below w.heap.size w w' := by
  go_enter Tryz.func31, Tryz.ntmps31
  go_wp2
  go_ret
  exact ⟨rfl, by go_grown⟩

set_option maxRecDepth 100000 in
set_option maxHeartbeats 4000000 in
theorem figureOf_up (s h : Int) (v : Value) (w : World) :
    Calls Tryz.prog 31 #[.agg #[.int .i64 5, .int .i64 s, .int .i64 h, v]] w fun e w' => e = .returned (.iface 97 (.agg #[.int .i64 s])) ∧ Below w.heap.size w w' := by
  go_enter Tryz.func31, Tryz.ntmps31
  go_wp2
  go_ret
  exact ⟨rfl, by go_grown⟩

set_option maxRecDepth 100000 in
set_option maxHeartbeats 4000000 in
theorem figureOf_down (s h : Int) (v : Value) (w : World) :
    Calls Tryz.prog 31 #[.agg #[.int .i64 6, .int .i64 s, .int .i64 h, v]] w fun e w' => e = .returned (.iface 98 (.agg #[.int .i64 s])) ∧ Below w.heap.size w w' := by
  go_enter Tryz.func31, Tryz.ntmps31
  go_wp2
  go_ret
  exact ⟨rfl, by go_grown⟩

set_option maxRecDepth 100000 in
set_option maxHeartbeats 1000000 in
theorem panel_extent (s h : Int) (w : World) :
    Calls Tryz.prog 131 #[.agg #[.int .i64 s, .int .i64 h]] w fun e w' => e = .returned (.tuple #[.int .i64 s, .int .i64 h]) ∧ Below w.heap.size w w' := by
  go_enter Tryz.func131, Tryz.ntmps131
  go_wp2
  go_quiet (fail)
  go_wp2
  go_ret2
  exact ⟨rfl, below_drewN ((Below.refl _ _).alloc (Nat.le_refl _) _) _⟩

set_option maxRecDepth 100000 in
set_option maxHeartbeats 1000000 in
theorem diamond_extent (s : Int) (w : World) :
    Calls Tryz.prog 133 #[.agg #[.int .i64 s]] w fun e w' => e = .returned (.tuple #[.int .i64 s, .int .i64 s]) ∧ Below w.heap.size w w' := by
  go_enter Tryz.func133, Tryz.ntmps133
  go_wp2
  go_quiet (fail)
  go_wp2
  go_ret2
  exact ⟨rfl, below_drewN ((Below.refl _ _).alloc (Nat.le_refl _) _) _⟩

set_option maxRecDepth 100000 in
set_option maxHeartbeats 1000000 in
theorem octagon_extent (s : Int) (w : World) :
    Calls Tryz.prog 135 #[.agg #[.int .i64 s]] w fun e w' => e = .returned (.tuple #[.int .i64 s, .int .i64 s]) ∧ Below w.heap.size w w' := by
  go_enter Tryz.func135, Tryz.ntmps135
  go_wp2
  go_quiet (fail)
  go_wp2
  go_ret2
  exact ⟨rfl, below_drewN ((Below.refl _ _).alloc (Nat.le_refl _) _) _⟩

set_option maxRecDepth 100000 in
set_option maxHeartbeats 1000000 in
theorem roundUp_any (n m : Int) (w : World) (n0 : 0 ≤ n) (n1 : n ≤ 1000000) (m0 : 1 ≤ m) (m1 : m ≤ 1000) :
    Calls Tryz.prog 39 #[.int .i64 n, .int .i64 m] w fun e w' => e = .returned (.int .i64 ((n + m - 1) / m * m)) ∧ w = w' := by
  have h0 : (m == 0) = false := by simp; omega
  have q0 : 0 ≤ (n + m - 1) / m := Int.ediv_nonneg (by omega) (by omega)
  have q1 : (n + m - 1) / m * m ≤ n + m - 1 := Int.ediv_mul_le _ (by omega)
  have q2 : 0 ≤ (n + m - 1) / m * m := Int.mul_nonneg q0 (by omega)
  go_enter Tryz.func39, Tryz.ntmps39
  go_wp2
  go_ret
  exact ⟨rfl, rfl⟩

set_option maxRecDepth 100000 in
set_option maxHeartbeats 1000000 in
theorem up_extent (s : Int) (w : World) (s0 : 0 ≤ s) (s1 : s ≤ 200) :
    Calls Tryz.prog 137 #[.agg #[.int .i64 s]] w fun e w' => e = .returned (.tuple #[.int .i64 s, .int .i64 ((13 * s + 14) / 15)]) ∧ Below w.heap.size w w' := by
  have e1 : IntKind.i64.wrap (13 * s) = 13 * s := IntWalk.i64_in _ (by omega)
  rw [show 13 * s + 14 = 13 * s + 15 - 1 from by omega]
  go_enter Tryz.func137, Tryz.ntmps137
  go_wp2
  go_quiet ((go_at_call 39; exact Calls.quiet_of_same ((roundUp_any _ _ _ (by omega) (by omega) (by omega) (by omega)).mono fun e w' h => ⟨h.1, h.2.symm⟩)))
  go_wp2
  go_ret2
  exact ⟨rfl, below_drewN ((Below.refl _ _).alloc (Nat.le_refl _) _) _⟩

set_option maxRecDepth 100000 in
set_option maxHeartbeats 1000000 in
theorem down_extent (s : Int) (w : World) (s0 : 0 ≤ s) (s1 : s ≤ 200) :
    Calls Tryz.prog 139 #[.agg #[.int .i64 s]] w fun e w' => e = .returned (.tuple #[.int .i64 s, .int .i64 ((13 * s + 14) / 15)]) ∧ Below w.heap.size w w' := by
  go_enter Tryz.func139, Tryz.ntmps139
  go_wp2_with fail
  refine (up_extent _ _ s0 s1).mono ?_
  rintro e w1 ⟨rfl, hb1⟩
  go_wp2_with fail
  go_ret2
  exact ⟨rfl, ((Below.refl _ _).alloc (Nat.le_refl _) _).trans (hb1.mono (by simp))⟩

set_option maxRecDepth 100000 in
set_option maxHeartbeats 1000000 in
theorem refExtent_1 (s h : Int) (v : Value) (w : World) :
    Calls Tryz.prog 25 #[.agg #[.int .i64 1, .int .i64 s, .int .i64 h, v]] w fun e w' => e = .returned (.tuple #[.int .i64 s, .int .i64 (s)]) ∧ Below w.heap.size w w' := by
  go_enter Tryz.func25, Tryz.ntmps25
  go_wp2
  go_quiet (fail)
  go_wp2
  go_ret2
  exact ⟨rfl, below_drewN ((Below.refl _ _).alloc (Nat.le_refl _) _) _⟩

set_option maxRecDepth 100000 in
set_option maxHeartbeats 1000000 in
theorem refExtent_2 (s h : Int) (v : Value) (w : World) :
    Calls Tryz.prog 25 #[.agg #[.int .i64 2, .int .i64 s, .int .i64 h, v]] w fun e w' => e = .returned (.tuple #[.int .i64 s, .int .i64 (h)]) ∧ Below w.heap.size w w' := by
  go_enter Tryz.func25, Tryz.ntmps25
  go_wp2
  go_quiet (fail)
  go_wp2
  go_ret2
  exact ⟨rfl, below_drewN ((Below.refl _ _).alloc (Nat.le_refl _) _) _⟩

set_option maxRecDepth 100000 in
set_option maxHeartbeats 1000000 in
theorem refExtent_3 (s h : Int) (v : Value) (w : World) :
    Calls Tryz.prog 25 #[.agg #[.int .i64 3, .int .i64 s, .int .i64 h, v]] w fun e w' => e = .returned (.tuple #[.int .i64 s, .int .i64 (s)]) ∧ Below w.heap.size w w' := by
  go_enter Tryz.func25, Tryz.ntmps25
  go_wp2
  go_quiet (fail)
  go_wp2
  go_ret2
  exact ⟨rfl, below_drewN ((Below.refl _ _).alloc (Nat.le_refl _) _) _⟩

set_option maxRecDepth 100000 in
set_option maxHeartbeats 1000000 in
theorem refExtent_4 (s h : Int) (v : Value) (w : World) :
    Calls Tryz.prog 25 #[.agg #[.int .i64 4, .int .i64 s, .int .i64 h, v]] w fun e w' => e = .returned (.tuple #[.int .i64 s, .int .i64 (s)]) ∧ Below w.heap.size w w' := by
  go_enter Tryz.func25, Tryz.ntmps25
  go_wp2
  go_quiet (fail)
  go_wp2
  go_ret2
  exact ⟨rfl, below_drewN ((Below.refl _ _).alloc (Nat.le_refl _) _) _⟩

set_option maxRecDepth 100000 in
set_option maxHeartbeats 1000000 in
theorem refExtent_5 (s h : Int) (v : Value) (w : World) (s0 : 0 ≤ s) (s1 : s ≤ 200) :
    Calls Tryz.prog 25 #[.agg #[.int .i64 5, .int .i64 s, .int .i64 h, v]] w fun e w' => e = .returned (.tuple #[.int .i64 s, .int .i64 ((13 * s + 14) / 15)]) ∧ Below w.heap.size w w' := by
  have e1 : IntKind.i64.wrap (13 * s) = 13 * s := IntWalk.i64_in _ (by omega)
  have e2 : IntKind.i64.wrap (13 * s + 14) = 13 * s + 14 := IntWalk.i64_in _ (by omega)
  have e3 : IntKind.i64.wrap ((13 * s + 14).tdiv 15) = (13 * s + 14) / 15 := by
    rw [Int.tdiv_eq_ediv_of_nonneg (by omega)]
    exact IntWalk.i64_in _ (by omega)
  go_enter Tryz.func25, Tryz.ntmps25
  go_wp2
  go_quiet (fail)
  go_wp2
  go_ret2
  exact ⟨rfl, below_drewN ((Below.refl _ _).alloc (Nat.le_refl _) _) _⟩

set_option maxRecDepth 100000 in
set_option maxHeartbeats 1000000 in
theorem refExtent_6 (s h : Int) (v : Value) (w : World) (s0 : 0 ≤ s) (s1 : s ≤ 200) :
    Calls Tryz.prog 25 #[.agg #[.int .i64 6, .int .i64 s, .int .i64 h, v]] w fun e w' => e = .returned (.tuple #[.int .i64 s, .int .i64 ((13 * s + 14) / 15)]) ∧ Below w.heap.size w w' := by
  have e1 : IntKind.i64.wrap (13 * s) = 13 * s := IntWalk.i64_in _ (by omega)
  have e2 : IntKind.i64.wrap (13 * s + 14) = 13 * s + 14 := IntWalk.i64_in _ (by omega)
  have e3 : IntKind.i64.wrap ((13 * s + 14).tdiv 15) = (13 * s + 14) / 15 := by
    rw [Int.tdiv_eq_ediv_of_nonneg (by omega)]
    exact IntWalk.i64_in _ (by omega)
  go_enter Tryz.func25, Tryz.ntmps25
  go_wp2
  go_quiet (fail)
  go_wp2
  go_ret2
  exact ⟨rfl, below_drewN ((Below.refl _ _).alloc (Nat.le_refl _) _) _⟩

theorem refExtent_any (sh s h : Int) (v : Value) (w : World) (h0 : 1 ≤ sh) (h1 : sh ≤ 6) (s0 : 0 ≤ s) (s1 : s ≤ 200) :
    Calls Tryz.prog 25 #[.agg #[.int .i64 sh, .int .i64 s, .int .i64 h, v]] w fun e w' => e = .returned (.tuple #[.int .i64 s, .int .i64 (extH sh s h)]) ∧ Below w.heap.size w w' := by
  have hk : sh = 1 ∨ sh = 2 ∨ sh = 3 ∨ sh = 4 ∨ sh = 5 ∨ sh = 6 := by omega
  rcases hk with rfl | rfl | rfl | rfl | rfl | rfl
  · exact refExtent_1 s h v w
  · exact refExtent_2 s h v w
  · exact refExtent_3 s h v w
  · exact refExtent_4 s h v w
  · exact refExtent_5 s h v w s0 s1
  · exact refExtent_6 s h v w s0 s1

set_option maxRecDepth 100000 in
set_option maxHeartbeats 1000000 in
theorem extent_1 (s h : Int) (v : Value) (w : World) (hV : Hid (∀ W, Below w.heap.size w W → Calls Tryz.prog 30 #[.agg #[.int .i64 1, .int .i64 s, .int .i64 h, v]] W fun e w' => e = .returned (.bool true) ∧ Below W.heap.size W w')) :
    Calls Tryz.prog 11 #[.agg #[.int .i64 1, .int .i64 s, .int .i64 h, v]] w fun e w' => e = .returned (.tuple #[.int .i64 s, .int .i64 (s), .int .i64 0]) ∧ Below w.heap.size w w' := by
  go_enter Tryz.func11, Tryz.ntmps11
  go_wp2_with fail
  refine (hV.out _ ((Below.refl _ _).alloc (Nat.le_refl _) _)).mono ?_
  rintro e w1 ⟨rfl, hb1⟩
  have hs1 := hb1.size
  have p0 := hb1.cell (p := ⟨w.heap.size, 0, none⟩) (by simp)
  have p1 := hb1.cell (p := ⟨w.heap.size, 1, none⟩) (by simp)
  have p2 := hb1.cell (p := ⟨w.heap.size, 2, none⟩) (by simp)
  have p3 := hb1.cell (p := ⟨w.heap.size, 3, none⟩) (by simp)
  simp [go_sem] at p0 p1 p2 p3 hs1
  go_wp2_with fail
  refine (figureOf_round _ _ _ _).mono ?_
  rintro e w2 ⟨rfl, hb2⟩
  go_wp2_with fail
  refine (round_extent _ _).mono ?_
  rintro e w3 ⟨rfl, hb3⟩
  have hB : Below w.heap.size w w3 := ((Below.refl _ _).alloc (Nat.le_refl _) _).trans ((hb1.mono (by simp)).trans ((hb2.mono (by omega)).trans (hb3.mono (by have := hb2.size; omega))))
  go_wp2_with fail
  go_ret3
  exact ⟨rfl, hB⟩

set_option maxRecDepth 100000 in
set_option maxHeartbeats 1000000 in
theorem extent_2 (s h : Int) (v : Value) (w : World) (hV : Hid (∀ W, Below w.heap.size w W → Calls Tryz.prog 30 #[.agg #[.int .i64 2, .int .i64 s, .int .i64 h, v]] W fun e w' => e = .returned (.bool true) ∧ Below W.heap.size W w')) :
    Calls Tryz.prog 11 #[.agg #[.int .i64 2, .int .i64 s, .int .i64 h, v]] w fun e w' => e = .returned (.tuple #[.int .i64 s, .int .i64 (h), .int .i64 0]) ∧ Below w.heap.size w w' := by
  go_enter Tryz.func11, Tryz.ntmps11
  go_wp2_with fail
  refine (hV.out _ ((Below.refl _ _).alloc (Nat.le_refl _) _)).mono ?_
  rintro e w1 ⟨rfl, hb1⟩
  have hs1 := hb1.size
  have p0 := hb1.cell (p := ⟨w.heap.size, 0, none⟩) (by simp)
  have p1 := hb1.cell (p := ⟨w.heap.size, 1, none⟩) (by simp)
  have p2 := hb1.cell (p := ⟨w.heap.size, 2, none⟩) (by simp)
  have p3 := hb1.cell (p := ⟨w.heap.size, 3, none⟩) (by simp)
  simp [go_sem] at p0 p1 p2 p3 hs1
  go_wp2_with fail
  refine (figureOf_panel _ _ _ _).mono ?_
  rintro e w2 ⟨rfl, hb2⟩
  go_wp2_with fail
  refine (panel_extent _ _ _).mono ?_
  rintro e w3 ⟨rfl, hb3⟩
  have hB : Below w.heap.size w w3 := ((Below.refl _ _).alloc (Nat.le_refl _) _).trans ((hb1.mono (by simp)).trans ((hb2.mono (by omega)).trans (hb3.mono (by have := hb2.size; omega))))
  go_wp2_with fail
  go_ret3
  exact ⟨rfl, hB⟩

set_option maxRecDepth 100000 in
set_option maxHeartbeats 1000000 in
theorem extent_3 (s h : Int) (v : Value) (w : World) (hV : Hid (∀ W, Below w.heap.size w W → Calls Tryz.prog 30 #[.agg #[.int .i64 3, .int .i64 s, .int .i64 h, v]] W fun e w' => e = .returned (.bool true) ∧ Below W.heap.size W w')) :
    Calls Tryz.prog 11 #[.agg #[.int .i64 3, .int .i64 s, .int .i64 h, v]] w fun e w' => e = .returned (.tuple #[.int .i64 s, .int .i64 (s), .int .i64 0]) ∧ Below w.heap.size w w' := by
  go_enter Tryz.func11, Tryz.ntmps11
  go_wp2_with fail
  refine (hV.out _ ((Below.refl _ _).alloc (Nat.le_refl _) _)).mono ?_
  rintro e w1 ⟨rfl, hb1⟩
  have hs1 := hb1.size
  have p0 := hb1.cell (p := ⟨w.heap.size, 0, none⟩) (by simp)
  have p1 := hb1.cell (p := ⟨w.heap.size, 1, none⟩) (by simp)
  have p2 := hb1.cell (p := ⟨w.heap.size, 2, none⟩) (by simp)
  have p3 := hb1.cell (p := ⟨w.heap.size, 3, none⟩) (by simp)
  simp [go_sem] at p0 p1 p2 p3 hs1
  go_wp2_with fail
  refine (figureOf_diamond _ _ _ _).mono ?_
  rintro e w2 ⟨rfl, hb2⟩
  go_wp2_with fail
  refine (diamond_extent _ _).mono ?_
  rintro e w3 ⟨rfl, hb3⟩
  have hB : Below w.heap.size w w3 := ((Below.refl _ _).alloc (Nat.le_refl _) _).trans ((hb1.mono (by simp)).trans ((hb2.mono (by omega)).trans (hb3.mono (by have := hb2.size; omega))))
  go_wp2_with fail
  go_ret3
  exact ⟨rfl, hB⟩

set_option maxRecDepth 100000 in
set_option maxHeartbeats 1000000 in
theorem extent_4 (s h : Int) (v : Value) (w : World) (hV : Hid (∀ W, Below w.heap.size w W → Calls Tryz.prog 30 #[.agg #[.int .i64 4, .int .i64 s, .int .i64 h, v]] W fun e w' => e = .returned (.bool true) ∧ Below W.heap.size W w')) :
    Calls Tryz.prog 11 #[.agg #[.int .i64 4, .int .i64 s, .int .i64 h, v]] w fun e w' => e = .returned (.tuple #[.int .i64 s, .int .i64 (s), .int .i64 0]) ∧ Below w.heap.size w w' := by
  go_enter Tryz.func11, Tryz.ntmps11
  go_wp2_with fail
  refine (hV.out _ ((Below.refl _ _).alloc (Nat.le_refl _) _)).mono ?_
  rintro e w1 ⟨rfl, hb1⟩
  have hs1 := hb1.size
  have p0 := hb1.cell (p := ⟨w.heap.size, 0, none⟩) (by simp)
  have p1 := hb1.cell (p := ⟨w.heap.size, 1, none⟩) (by simp)
  have p2 := hb1.cell (p := ⟨w.heap.size, 2, none⟩) (by simp)
  have p3 := hb1.cell (p := ⟨w.heap.size, 3, none⟩) (by simp)
  simp [go_sem] at p0 p1 p2 p3 hs1
  go_wp2_with fail
  refine (figureOf_octagon _ _ _ _).mono ?_
  rintro e w2 ⟨rfl, hb2⟩
  go_wp2_with fail
  refine (octagon_extent _ _).mono ?_
  rintro e w3 ⟨rfl, hb3⟩
  have hB : Below w.heap.size w w3 := ((Below.refl _ _).alloc (Nat.le_refl _) _).trans ((hb1.mono (by simp)).trans ((hb2.mono (by omega)).trans (hb3.mono (by have := hb2.size; omega))))
  go_wp2_with fail
  go_ret3
  exact ⟨rfl, hB⟩

set_option maxRecDepth 100000 in
set_option maxHeartbeats 1000000 in
theorem extent_5 (s h : Int) (v : Value) (w : World) (s0 : 0 ≤ s) (s1 : s ≤ 200) (hV : Hid (∀ W, Below w.heap.size w W → Calls Tryz.prog 30 #[.agg #[.int .i64 5, .int .i64 s, .int .i64 h, v]] W fun e w' => e = .returned (.bool true) ∧ Below W.heap.size W w')) :
    Calls Tryz.prog 11 #[.agg #[.int .i64 5, .int .i64 s, .int .i64 h, v]] w fun e w' => e = .returned (.tuple #[.int .i64 s, .int .i64 ((13 * s + 14) / 15), .int .i64 0]) ∧ Below w.heap.size w w' := by
  go_enter Tryz.func11, Tryz.ntmps11
  go_wp2_with fail
  refine (hV.out _ ((Below.refl _ _).alloc (Nat.le_refl _) _)).mono ?_
  rintro e w1 ⟨rfl, hb1⟩
  have hs1 := hb1.size
  have p0 := hb1.cell (p := ⟨w.heap.size, 0, none⟩) (by simp)
  have p1 := hb1.cell (p := ⟨w.heap.size, 1, none⟩) (by simp)
  have p2 := hb1.cell (p := ⟨w.heap.size, 2, none⟩) (by simp)
  have p3 := hb1.cell (p := ⟨w.heap.size, 3, none⟩) (by simp)
  simp [go_sem] at p0 p1 p2 p3 hs1
  go_wp2_with fail
  refine (figureOf_up _ _ _ _).mono ?_
  rintro e w2 ⟨rfl, hb2⟩
  go_wp2_with fail
  refine (up_extent _ _ s0 s1).mono ?_
  rintro e w3 ⟨rfl, hb3⟩
  have hB : Below w.heap.size w w3 := ((Below.refl _ _).alloc (Nat.le_refl _) _).trans ((hb1.mono (by simp)).trans ((hb2.mono (by omega)).trans (hb3.mono (by have := hb2.size; omega))))
  go_wp2_with fail
  go_ret3
  exact ⟨rfl, hB⟩

set_option maxRecDepth 100000 in
set_option maxHeartbeats 1000000 in
theorem extent_6 (s h : Int) (v : Value) (w : World) (s0 : 0 ≤ s) (s1 : s ≤ 200) (hV : Hid (∀ W, Below w.heap.size w W → Calls Tryz.prog 30 #[.agg #[.int .i64 6, .int .i64 s, .int .i64 h, v]] W fun e w' => e = .returned (.bool true) ∧ Below W.heap.size W w')) :
    Calls Tryz.prog 11 #[.agg #[.int .i64 6, .int .i64 s, .int .i64 h, v]] w fun e w' => e = .returned (.tuple #[.int .i64 s, .int .i64 ((13 * s + 14) / 15), .int .i64 0]) ∧ Below w.heap.size w w' := by
  go_enter Tryz.func11, Tryz.ntmps11
  go_wp2_with fail
  refine (hV.out _ ((Below.refl _ _).alloc (Nat.le_refl _) _)).mono ?_
  rintro e w1 ⟨rfl, hb1⟩
  have hs1 := hb1.size
  have p0 := hb1.cell (p := ⟨w.heap.size, 0, none⟩) (by simp)
  have p1 := hb1.cell (p := ⟨w.heap.size, 1, none⟩) (by simp)
  have p2 := hb1.cell (p := ⟨w.heap.size, 2, none⟩) (by simp)
  have p3 := hb1.cell (p := ⟨w.heap.size, 3, none⟩) (by simp)
  simp [go_sem] at p0 p1 p2 p3 hs1
  go_wp2_with fail
  refine (figureOf_down _ _ _ _).mono ?_
  rintro e w2 ⟨rfl, hb2⟩
  go_wp2_with fail
  refine (down_extent _ _ s0 s1).mono ?_
  rintro e w3 ⟨rfl, hb3⟩
  have hB : Below w.heap.size w w3 := ((Below.refl _ _).alloc (Nat.le_refl _) _).trans ((hb1.mono (by simp)).trans ((hb2.mono (by omega)).trans (hb3.mono (by have := hb2.size; omega))))
  go_wp2_with fail
  go_ret3
  exact ⟨rfl, hB⟩

set_option maxRecDepth 100000 in
set_option maxHeartbeats 1000000 in
theorem extent_bad (sh s h : Int) (v : Value) (w : World) (hV : Hid (∀ W, Below w.heap.size w W → Calls Tryz.prog 30 #[.agg #[.int .i64 sh, .int .i64 s, .int .i64 h, v]] W fun e w' => e = .returned (.bool false) ∧ Below W.heap.size W w')) :
    Calls Tryz.prog 11 #[.agg #[.int .i64 sh, .int .i64 s, .int .i64 h, v]] w fun e w' => e = .returned (.tuple #[.int .i64 0, .int .i64 0, .int .i64 10]) ∧ Below w.heap.size w w' := by
  go_enter Tryz.func11, Tryz.ntmps11
  go_wp2_with fail
  refine (hV.out _ ((Below.refl _ _).alloc (Nat.le_refl _) _)).mono ?_
  rintro e w1 ⟨rfl, hb1⟩
  go_wp2_with fail
  go_ret3
  exact ⟨rfl, ((Below.refl _ _).alloc (Nat.le_refl _) _).trans (hb1.mono (by simp))⟩

/-- Extent of a face that lies in memory. -/
def extR (sh sz h : Int) (its : List It) : List Int := if faceB sh sz h its then [sz, extH sh sz h, 0] else [0, 0, 10]
theorem faceB_bd {sh sz h : Int} {its : List It} (hf : faceB sh sz h its = true) : 1 ≤ sh ∧ sh ≤ 6 ∧ 4 ≤ sz ∧ sz ≤ 200 ∧ (sh = 2 → 4 ≤ h ∧ h ≤ 200) := by
  unfold faceB at hf
  simp only [Bool.and_eq_true, btw_iff] at hf
  obtain ⟨⟨a, b⟩, ⟨c, d⟩, e, _⟩ := hf
  refine ⟨a, b, c, d, ?_⟩
  rintro rfl
  exact (btw_iff _ _ _).1 e
theorem extent_any (sh sz h : Int) (a : Option Addr) (cap : Nat) (its : List It) (w : World) (hT : Tabs w) (hI : ItemsAt w a its) :
    Calls Tryz.prog 11 #[.agg #[.int .i64 sh, .int .i64 sz, .int .i64 h, .slice a its.length cap]] w fun e w' =>
      e = .returned (if faceB sh sz h its then .tuple #[.int .i64 sz, .int .i64 (extH sh sz h), .int .i64 0] else .tuple #[.int .i64 0, .int .i64 0, .int .i64 10]) ∧ Below w.heap.size w w' := by
  have hV : ∀ W, Below w.heap.size w W → Calls Tryz.prog 30 #[.agg #[.int .i64 sh, .int .i64 sz, .int .i64 h, .slice a its.length cap]] W fun e w' => e = .returned (.bool (faceB sh sz h its)) ∧ Below W.heap.size W w' := fun W hb =>
    valid_any sh sz h a cap its W (hT.below hb).letters (hT.below hb).kinds (hI.below hb)
  by_cases hf : faceB sh sz h its = true
  · rw [hf] at hV
    rw [if_pos hf]
    obtain ⟨h0, h1, s0, s1, _⟩ := faceB_bd hf
    have hk : sh = 1 ∨ sh = 2 ∨ sh = 3 ∨ sh = 4 ∨ sh = 5 ∨ sh = 6 := by omega
    rcases hk with rfl | rfl | rfl | rfl | rfl | rfl
    · exact extent_1 sz h _ w (Lib.hid hV)
    · exact extent_2 sz h _ w (Lib.hid hV)
    · exact extent_3 sz h _ w (Lib.hid hV)
    · exact extent_4 sz h _ w (Lib.hid hV)
    · exact extent_5 sz h _ w (by omega) (by omega) (Lib.hid hV)
    · exact extent_6 sz h _ w (by omega) (by omega) (Lib.hid hV)
  · rw [show faceB sh sz h its = false from by simpa using hf] at hV
    rw [if_neg hf]
    exact extent_bad sh sz h _ w (Lib.hid hV)
end Go.Proofs.YtgpobcfbafiaaabGreatDoor
