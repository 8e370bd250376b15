/-
  The walks of the extents of a box: package face's Extent, and the reference's. By an AI agent.
-/
import Derived.Test.YtbogmdelceikgaaGreatDoorFaceJ
namespace Go.Proofs.YtbogmdelceikgaaGreatDoor
open Go.RowKit

/-- The height of a box, of which the width is Size. -/
def extH (sh sz h : Int) : Int := if sh = 2 then h else if sh = 5 ∨ sh = 6 then (13 * sz + 14) / 15 else sz

set_option maxRecDepth 100000 in
set_option maxHeartbeats 4000000 in
theorem figureOf_panel (s h : Int) (v : Value) (w : World) :
    Calls Tryz.prog 35 #[.agg #[.int .i64 2, .int .i64 s, .int .i64 h, v]] w fun e w' => e = .returned (.iface 92 (.agg #[.int .i64 s, .int .i64 h])) ∧ Below w.heap.size w w' := by
  go_enter Tryz.func35, Tryz.ntmps35
  go_wp2
  go_ret
  exact ⟨rfl, by go_grown⟩

set_option maxRecDepth 100000 in
set_option maxHeartbeats 4000000 in
theorem figureOf_diamond (s h : Int) (v : Value) (w : World) :
    Calls Tryz.prog 35 #[.agg #[.int .i64 3, .int .i64 s, .int .i64 h, v]] w fun e w' => e = .returned (.iface 93 (.agg #[.int .i64 s])) ∧ Below w.heap.size w w' := by
  go_enter Tryz.func35, Tryz.ntmps35
  go_wp2
  go_ret
  exact ⟨rfl, by go_grown⟩

set_option maxRecDepth 100000 in
set_option maxHeartbeats 4000000 in
theorem figureOf_octagon (s h : Int) (v : Value) (w : World) :
    Calls Tryz.prog 35 #[.agg #[.int .i64 4, .int .i64 s, .int .i64 h, v]] w fun e w' => e = .returned (.iface 94 (.agg #[.int .i64 s])) ∧ Below w.heap.size w w' := by
  go_enter Tryz.func35, Tryz.ntmps35
  go_wp2
  go_ret
  exact ⟨rfl, by go_grown⟩

set_option maxRecDepth 100000 in
set_option maxHeartbeats 4000000 in
theorem figureOf_up (s h : Int) (v : Value) (w : World) :
    Calls Tryz.prog 35 #[.agg #[.int .i64 5, .int .i64 s, .int .i64 h, v]] w fun e w' => e = .returned (.iface 95 (.agg #[.int .i64 s])) ∧ Below w.heap.size w w' := by
  go_enter Tryz.func35, Tryz.ntmps35
  go_wp2
  go_ret
  exact ⟨rfl, by go_grown⟩

set_option maxRecDepth 100000 in
set_option maxHeartbeats 4000000 in
theorem figureOf_down (s h : Int) (v : Value) (w : World) :
    Calls Tryz.prog 35 #[.agg #[.int .i64 6, .int .i64 s, .int .i64 h, v]] w fun e w' => e = .returned (.iface 96 (.agg #[.int .i64 s])) ∧ Below w.heap.size w w' := by
  go_enter Tryz.func35, Tryz.ntmps35
  go_wp2
  go_ret
  exact ⟨rfl, by go_grown⟩

set_option maxRecDepth 100000 in
set_option maxHeartbeats 1000000 in
theorem panel_extent (s h : Int) (w : World) :
    Calls Tryz.prog 108 #[.agg #[.int .i64 s, .int .i64 h]] w fun e w' => e = .returned (.tuple #[.int .i64 s, .int .i64 h]) ∧ Below w.heap.size w w' := by
  go_enter Tryz.func108, Tryz.ntmps108
  go_wp2
  go_quiet (fail)
  go_wp2
  go_ret2
  exact ⟨rfl, below_drewN ((Below.refl _ _).alloc (Nat.le_refl _) _) _⟩

set_option maxRecDepth 100000 in
set_option maxHeartbeats 1000000 in
theorem diamond_extent (s : Int) (w : World) :
    Calls Tryz.prog 110 #[.agg #[.int .i64 s]] w fun e w' => e = .returned (.tuple #[.int .i64 s, .int .i64 s]) ∧ Below w.heap.size w w' := by
  go_enter Tryz.func110, Tryz.ntmps110
  go_wp2
  go_quiet (fail)
  go_wp2
  go_ret2
  exact ⟨rfl, below_drewN ((Below.refl _ _).alloc (Nat.le_refl _) _) _⟩

set_option maxRecDepth 100000 in
set_option maxHeartbeats 1000000 in
theorem octagon_extent (s : Int) (w : World) :
    Calls Tryz.prog 112 #[.agg #[.int .i64 s]] w fun e w' => e = .returned (.tuple #[.int .i64 s, .int .i64 s]) ∧ Below w.heap.size w w' := by
  go_enter Tryz.func112, Tryz.ntmps112
  go_wp2
  go_quiet (fail)
  go_wp2
  go_ret2
  exact ⟨rfl, below_drewN ((Below.refl _ _).alloc (Nat.le_refl _) _) _⟩

set_option maxRecDepth 100000 in
set_option maxHeartbeats 1000000 in
theorem roundUp_any (n m : Int) (w : World) (n0 : 0 ≤ n) (n1 : n ≤ 1000000) (m0 : 1 ≤ m) (m1 : m ≤ 1000) :
    Calls Tryz.prog 12 #[.int .i64 n, .int .i64 m] w fun e w' => e = .returned (.int .i64 ((n + m - 1) / m * m)) ∧ w = w' := by
  have h0 : (m == 0) = false := by simp; omega
  have q0 : 0 ≤ (n + m - 1) / m := Int.ediv_nonneg (by omega) (by omega)
  have q1 : (n + m - 1) / m * m ≤ n + m - 1 := Int.ediv_mul_le _ (by omega)
  have q2 : 0 ≤ (n + m - 1) / m * m := Int.mul_nonneg q0 (by omega)
  go_enter Tryz.func12, Tryz.ntmps12
  go_wp2
  go_ret
  exact ⟨rfl, rfl⟩

set_option maxRecDepth 100000 in
set_option maxHeartbeats 1000000 in
theorem up_extent (s : Int) (w : World) (s0 : 0 ≤ s) (s1 : s ≤ 200) :
    Calls Tryz.prog 114 #[.agg #[.int .i64 s]] w fun e w' => e = .returned (.tuple #[.int .i64 s, .int .i64 ((13 * s + 14) / 15)]) ∧ Below w.heap.size w w' := by
  have e1 : IntKind.i64.wrap (13 * s) = 13 * s := IntWalk.i64_in _ (by omega)
  rw [show 13 * s + 14 = 13 * s + 15 - 1 from by omega]
  go_enter Tryz.func114, Tryz.ntmps114
  go_wp2
  go_quiet ((go_at_call 12; exact Calls.quiet_of_same ((roundUp_any _ _ _ (by omega) (by omega) (by omega) (by omega)).mono fun e w' h => ⟨h.1, h.2.symm⟩)))
  go_wp2
  go_ret2
  exact ⟨rfl, below_drewN ((Below.refl _ _).alloc (Nat.le_refl _) _) _⟩

set_option maxRecDepth 100000 in
set_option maxHeartbeats 1000000 in
theorem down_extent (s : Int) (w : World) (s0 : 0 ≤ s) (s1 : s ≤ 200) :
    Calls Tryz.prog 116 #[.agg #[.int .i64 s]] w fun e w' => e = .returned (.tuple #[.int .i64 s, .int .i64 ((13 * s + 14) / 15)]) ∧ Below w.heap.size w w' := by
  go_enter Tryz.func116, Tryz.ntmps116
  go_wp2_with fail
  refine (up_extent _ _ s0 s1).mono ?_
  rintro e w1 ⟨rfl, hb1⟩
  go_wp2_with fail
  go_ret2
  exact ⟨rfl, ((Below.refl _ _).alloc (Nat.le_refl _) _).trans (hb1.mono (by simp))⟩

/-- Extent of a face that lies in memory. -/
def extR (sh sz h : Int) (its : List It) : List Int := if faceB sh sz h its then [sz, extH sh sz h, 0] else [0, 0, 10]
theorem faceB_bd {sh sz h : Int} {its : List It} (hf : faceB sh sz h its = true) : 1 ≤ sh ∧ sh ≤ 6 ∧ 4 ≤ sz ∧ sz ≤ 200 ∧ (sh = 2 → 4 ≤ h ∧ h ≤ 200) := by
  unfold faceB at hf
  simp only [Bool.and_eq_true, btw_iff] at hf
  obtain ⟨⟨a, b⟩, ⟨c, d⟩, e, _⟩ := hf
  refine ⟨a, b, c, d, ?_⟩
  rintro rfl
  exact (btw_iff _ _ _).1 e
end Go.Proofs.YtbogmdelceikgaaGreatDoor
