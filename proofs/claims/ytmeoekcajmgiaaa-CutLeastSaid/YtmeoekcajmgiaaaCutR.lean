/-
  A row of ints that a call owns. By an AI agent.
-/
import Derived.Test.YtmeoekcajmgiaaaCutB
namespace Go.Proofs.Ytmeoekcajmgiaaa
set_option linter.unusedVariables false
set_option linter.unusedSimpArgs false
open Go.RowKit

theorem owns_below {w w' : World} {base : Nat} {e : TypeId} {size : Nat} {v : Value} {n : Nat} {xs : List Value} (h : w.ownsRow base e size v n xs) (hb : Below w.heap.size w w') : w'.ownsRow base e size v n xs := by
  refine ⟨h.1, ?_⟩
  rcases h.2 with h2 | ⟨g, cap, cur, h1, h2, h3, h4⟩
  · exact .inl h2
  · have hg : g < w.heap.size := by
      apply Nat.lt_of_not_le
      intro hle
      rw [Array.getElem?_eq_none hle] at h3
      cases h3
    exact .inr ⟨g, cap, cur, h1, h2, by rw [hb.block g hg]; exact h3, h4⟩
/-- A row of n ints that the call owns. -/
def IRow (w0 : Nat) (w : World) (g n : Nat) (f : Nat → Int) : Prop := w.ownsRow w0 3 1 (.slice (some ⟨g, 0, none⟩) n n) n ((List.range n).map fun j => .int .i64 (f j))
theorem IRow.cell {w0 : Nat} {w : World} {g n : Nat} {f : Nat → Int} (h : IRow w0 w g n f) {j : Nat} (hj : j < n) : w.cell? ⟨g, j, none⟩ = some (.int .i64 (f j)) := by
  rw [World.ownsRow.cellAt h j (by omega)]; simp [hj]
theorem IRow.frozen {w0 : Nat} {w : World} {g n : Nat} {f : Nat → Int} (h : IRow w0 w g n f) (j : Nat) : w.frozen? ⟨g, j, none⟩ = false := World.ownsRow.frozenAt h j
theorem IRow.congr {w0 : Nat} {w : World} {g n : Nat} {f f' : Nat → Int} (h : IRow w0 w g n f) (he : ∀ j, j < n → f j = f' j) : IRow w0 w g n f' := by
  unfold IRow at *
  rwa [show ((List.range n).map fun j => Value.int .i64 (f' j)) = ((List.range n).map fun j => Value.int .i64 (f j)) from List.map_congr_left fun j hj => by rw [he j (List.mem_range.1 hj)]]
def upd (f : Nat → Int) (c : Nat) (v : Int) : Nat → Int := fun i => if i = c then v else f i
theorem upd_same (f : Nat → Int) (c : Nat) (v : Int) : upd f c v c = v := by unfold upd; rw [if_pos rfl]
theorem upd_other (f : Nat → Int) (c : Nat) (v : Int) (i : Nat) (h : i ≠ c) : upd f c v i = f i := by unfold upd; rw [if_neg h]
theorem IRow.store {w0 : Nat} {w : World} {g n : Nat} {f : Nat → Int} (h : IRow w0 w g n f) (j : Nat) (v : Int) : IRow w0 (w.setCell ⟨g, j, none⟩ (.int .i64 v)) g n (upd f j v) := by
  have := (World.ownsRow.stored h j (.int .i64 v)).1
  unfold IRow
  rwa [show ((List.range n).map fun i => Value.int .i64 (upd f j v i)) = ((List.range n).map fun i => Value.int .i64 (f i)).set j (.int .i64 v) from ?_]
  apply List.ext_getElem
  · simp
  · intro i h1 h2
    rw [List.getElem_set]
    simp only [List.getElem_map, List.getElem_range]
    by_cases hij : j = i
    · subst hij; rw [if_pos rfl, upd_same]
    · rw [if_neg hij, upd_other _ _ _ _ (fun e => hij e.symm)]
theorem IRow.below {w0 : Nat} {w w' : World} {g n : Nat} {f : Nat → Int} (h : IRow w0 w g n f) (hb : Below w.heap.size w w') : IRow w0 w' g n f := owns_below h hb
theorem IRow.made {w0 : Nat} {w : World} {g n : Nat} (h : w.ownsRow w0 3 1 (.slice (some ⟨g, 0, none⟩) n n) n (madeCells #[Value.int .i64 0] n).toList) : IRow w0 w g n (fun _ => 0) := by
  unfold IRow
  rw [toList_madeCells_one] at h
  rwa [show ((List.range n).map fun _ => Value.int .i64 0) = List.replicate n (.int .i64 0) from by simp [List.map_const']]

end Go.Proofs.Ytmeoekcajmgiaaa
