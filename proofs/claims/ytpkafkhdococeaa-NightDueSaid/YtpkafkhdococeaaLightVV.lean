/-
  The walks of Value. By an AI agent.
-/
import Derived.Test.YtpkafkhdococeaaLightVM
namespace Go.Proofs.Ytpkafkhdococeaa
set_option linter.unusedVariables false
set_option linter.unusedSimpArgs false
open Go.RowKit

/-- The part that remains, of a side. -/
def keepOf (z0 z1 z2 z3 side : Int) : Int := if side = 0 then z0 else if side = 1 then z1 else if side = 2 then z2 else z3
theorem hisB_iff {z0 z1 z2 z3 side : Int} {l : List (Int × Int)} : hisB z0 z1 z2 z3 side l = true ↔ (0 ≤ z0 ∧ z0 ≤ 1000) ∧ (0 ≤ z1 ∧ z1 ≤ 1000) ∧ (0 ≤ z2 ∧ z2 ≤ 1000) ∧ (0 ≤ z3 ∧ z3 ≤ 1000) ∧ (0 ≤ side ∧ side ≤ 3) ∧ MesOk l := by
  unfold hisB; simp only [Bool.and_eq_true, btw_iff, mesB_iff]
theorem keep_bd {z0 z1 z2 z3 side : Int} {l : List (Int × Int)} (h : hisB z0 z1 z2 z3 side l = true) : 0 ≤ keepOf z0 z1 z2 z3 side ∧ keepOf z0 z1 z2 z3 side ≤ 1000 := by
  have := hisB_iff.1 h
  unfold keepOf; split
  · omega
  · split
    · omega
    · split <;> omega
theorem keep_cell {z0 z1 z2 z3 : Int} {s : Nat} (hs : s ≤ 3) (w : World) (T : TypeId) : (w.alloc (.cells #[.int .i64 z0, .int .i64 z1, .int .i64 z2, .int .i64 z3] T)).cell? ⟨w.heap.size, s, none⟩ = some (.int .i64 (keepOf z0 z1 z2 z3 s)) := by
  match s, hs with
  | 0, _ => simp [go_sem, keepOf]
  | 1, _ => simp [go_sem, keepOf]
  | 2, _ => simp [go_sem, keepOf]
  | 3, _ => simp [go_sem, keepOf]
noncomputable def valB (z0 z1 z2 z3 side : Int) (l : List (Int × Int)) (day : Int) : Bool := hisB z0 z1 z2 z3 side l && btw day (gp l 0).1 100000
noncomputable def valV (z0 z1 z2 z3 side : Int) (l : List (Int × Int)) (day : Int) : Int := if valB z0 z1 z2 z3 side l day then agV (gp l (lastIx l day l.length)).2 (keepOf z0 z1 z2 z3 side) ((day - (gp l (lastIx l day l.length)).1) / 365).toNat else 0
noncomputable def valE (z0 z1 z2 z3 side : Int) (l : List (Int × Int)) (day : Int) : Int := if valB z0 z1 z2 z3 side l day then 0 else 2
theorem lastIx_bd {l : List (Int × Int)} (h : MesOk l) {day : Int} {k : Nat} (hk : k ≤ l.length) : lastIx l day k < l.length := by
  cases k with
  | zero => have := h.1; simp [lastIx]; omega
  | succ k => have := lastIx_lt l day k; omega
theorem mes_day {l : List (Int × Int)} (h : MesOk l) {k : Nat} (hk : k < l.length) : 0 ≤ (gp l k).1 ∧ (gp l k).1 ≤ 100000 ∧ 0 ≤ (gp l k).2 ∧ (gp l k).2 ≤ 100000 := by
  have h1 := h.2.2 k hk
  have h2 := (me_bd k (fun j hj => h.2.2 j (by omega))).1
  unfold mOk at h1; omega

/-- The box of the last measure. -/
def LastS (w wr : World) (B s : Nat) (kp d r : Int) : Prop := Below w.heap.size w wr ∧ w.heap.size < B ∧ B < wr.heap.size ∧ wr.cell? ⟨w.heap.size, s, none⟩ = some (.int .i64 kp) ∧ wr.cell? ⟨B, 0, none⟩ = some (.int .i64 d) ∧ wr.cell? ⟨B, 1, none⟩ = some (.int .i64 r) ∧ wr.frozen? ⟨B, 0, none⟩ = false ∧ wr.frozen? ⟨B, 1, none⟩ = false

theorem LastS.alloc {w wr : World} {B s : Nat} {kp d r : Int} (h : LastS w wr B s kp d r) (o : Obj) : LastS w (wr.alloc o) B s kp d r := by
  obtain ⟨h1, h2, h3, h4, h5, h6, h7, h8⟩ := h
  have hb : Below wr.heap.size wr (wr.alloc o) := (Below.refl _ _).alloc (Nat.le_refl _) _
  refine ⟨h1.alloc h1.size _, h2, by simp; omega, ?_, ?_, ?_, ?_, ?_⟩
  · rw [hb.cell (p := ⟨w.heap.size, s, none⟩) (by show w.heap.size < wr.heap.size; omega)]; exact h4
  · rw [hb.cell (p := ⟨B, 0, none⟩) h3]; exact h5
  · rw [hb.cell (p := ⟨B, 1, none⟩) h3]; exact h6
  · rw [hb.frozen (p := ⟨B, 0, none⟩) h3]; exact h7
  · rw [hb.frozen (p := ⟨B, 1, none⟩) h3]; exact h8
theorem LastS.store {w wr : World} {B s : Nat} {kp d r : Int} (h : LastS w wr B s kp d r) (x y : Int) : LastS w ((wr.setCell ⟨B, 0, none⟩ (.int .i64 x)).setCell ⟨B, 1, none⟩ (.int .i64 y)) B s kp x y := by
  obtain ⟨h1, h2, h3, h4, h5, h6, h7, h8⟩ := h
  have hne : w.heap.size ≠ B := by omega
  have hne2 : B ≠ w.heap.size := by omega
  refine ⟨(h1.setCell (by show w.heap.size ≤ B; omega) _).setCell (by show w.heap.size ≤ B; omega) _, h2, by simpa using h3, ?_, ?_, ?_, ?_, ?_⟩
  · simp [go_sem, hne, hne2, h4]
  · simp [go_sem, h5]
  · simp [go_sem, h6]
  · simp [go_sem, h7]
  · simp [go_sem, h8]

end Go.Proofs.Ytpkafkhdococeaa
