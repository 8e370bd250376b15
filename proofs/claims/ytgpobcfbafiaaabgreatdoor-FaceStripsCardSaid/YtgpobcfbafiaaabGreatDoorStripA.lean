/-
  A row of ints that the call owns, and the steps of the table of FaceStrips. By an AI agent.
-/
import Derived.Test.YtgpobcfbafiaaabGreatDoorStripM
import Derived.Test.YtgpobcfbafiaaabGreatDoorSeamsC
namespace Go.Proofs.YtgpobcfbafiaaabGreatDoor
open Go.RowKit

/-- A row of n ints that the call owns. -/
def IRow (w0 : Nat) (w : World) (g n : Nat) (f : Nat → Int) : Prop := w.ownsRow w0 3 1 (.slice (some ⟨g, 0, none⟩) n n) n ((List.range n).map fun j => .int .i64 (f j))
theorem IRow.cell {w0 : Nat} {w : World} {g n : Nat} {f : Nat → Int} (h : IRow w0 w g n f) {j : Nat} (hj : j < n) : w.cell? ⟨g, j, none⟩ = some (.int .i64 (f j)) := by
  rw [World.ownsRow.cellAt h j (by omega)]; simp [hj]
theorem IRow.frozen {w0 : Nat} {w : World} {g n : Nat} {f : Nat → Int} (h : IRow w0 w g n f) (j : Nat) : w.frozen? ⟨g, j, none⟩ = false := World.ownsRow.frozenAt h j
theorem IRow.congr {w0 : Nat} {w : World} {g n : Nat} {f f' : Nat → Int} (h : IRow w0 w g n f) (he : ∀ j, j < n → f j = f' j) : IRow w0 w g n f' := by
  unfold IRow at *
  rwa [show ((List.range n).map fun j => Value.int .i64 (f' j)) = ((List.range n).map fun j => Value.int .i64 (f j)) from List.map_congr_left fun j hj => by rw [he j (List.mem_range.1 hj)]]
def upd (f : Nat → Int) (c : Nat) (v : Int) : Nat → Int := fun i => if i = c then v else f i
theorem upd_same (f : Nat → Int) (c : Nat) (v : Int) : upd f c v c = v := by unfold upd; rw [if_pos rfl]
theorem upd_other (f : Nat → Int) (c : Nat) (v : Int) (i : Nat) (h : i ≠ c) : upd f c v i = f i := by unfold upd; rw [if_neg h]
theorem IRow.store {w0 : Nat} {w : World} {g n : Nat} {f : Nat → Int} (h : IRow w0 w g n f) (j : Nat) (v : Int) : IRow w0 (w.setCell ⟨g, j, none⟩ (.int .i64 v)) g n (upd f j v) := by
  have := (World.ownsRow.stored h j (.int .i64 v)).1
  unfold IRow
  rwa [show ((List.range n).map fun i => Value.int .i64 (upd f j v i)) = ((List.range n).map fun i => Value.int .i64 (f i)).set j (.int .i64 v) from ?_]
  apply List.ext_getElem
  · simp
  · intro i h1 h2
    rw [List.getElem_set]
    simp only [List.getElem_map, List.getElem_range]
    by_cases hij : j = i
    · subst hij; rw [if_pos rfl, upd_same]
    · rw [if_neg hij, upd_other _ _ _ _ (fun e => hij e.symm)]
theorem IRow.below {w0 : Nat} {w w' : World} {g n : Nat} {f : Nat → Int} (h : IRow w0 w g n f) (hb : Below w.heap.size w w') : IRow w0 w' g n f := owns_below h hb
theorem IRow.made {w0 : Nat} {w : World} {g n : Nat} (h : w.ownsRow w0 3 1 (.slice (some ⟨g, 0, none⟩) n n) n (madeCells #[Value.int .i64 0] n).toList) : IRow w0 w g n (fun _ => 0) := by
  unfold IRow
  rw [toList_madeCells_one] at h
  rwa [show ((List.range n).map fun _ => Value.int .i64 0) = List.replicate n (.int .i64 0) from by simp [List.map_const']]

theorem mf_congr {B B' : Nat → Int} (lo : Nat) : ∀ k, (∀ j, j < k → B (lo + j) = B' (lo + j)) → mf B lo k = mf B' lo k
  | 0, _ => rfl
  | k + 1, h => by
    rw [mf, mf, mf_congr lo k (fun j hj => h j (by omega)), h k (by omega)]
theorem mf_hit {B : Nat → Int} {lo b : Nat} (hb : lo ≤ b) (h : 0 ≤ B b ∧ (mf B lo (b - lo) < 0 ∨ B b + 1 < mf B lo (b - lo))) : mf B lo (b + 1 - lo) = B b + 1 := by
  rw [show b + 1 - lo = (b - lo) + 1 from by omega, mf, show lo + (b - lo) = b from by omega, if_pos h]
theorem mf_miss {B : Nat → Int} {lo b : Nat} (hb : lo ≤ b) (h : ¬ (0 ≤ B b ∧ (mf B lo (b - lo) < 0 ∨ B b + 1 < mf B lo (b - lo)))) : mf B lo (b + 1 - lo) = mf B lo (b - lo) := by
  rw [show b + 1 - lo = (b - lo) + 1 from by omega, mf, show lo + (b - lo) = b from by omega, if_neg h]
theorem good_step {fb : Int → Bool} {w wd : Int} {B : Nat → Int} {c : Nat} (hc : 1 ≤ c) (hwd : 1 ≤ wd) (h : GoodTo fb w wd B (c - 1)) {v : Int} (hv : v = if (c : Int) < w ∧ fb c = true then -1 else mf B (lowc wd c) (c - lowc wd c)) : GoodTo fb w wd (upd B c v) c := by
  refine ⟨by rw [upd_other _ _ _ _ (by omega)]; exact h.1, fun c' h1 h2 => ?_⟩
  by_cases e : c' = c
  · subst e
    rw [upd_same, hv]
    split
    · rfl
    · exact mf_congr _ _ fun j hj => by rw [upd_other _ _ _ _ (by unfold lowc at hj ⊢; omega)]
  · rw [upd_other _ _ _ _ e, h.2 c' h1 (by omega)]
    split
    · rfl
    · exact mf_congr _ _ fun j hj => by rw [upd_other _ _ _ _ (by unfold lowc at hj ⊢; omega)]
theorem good_bd {fb : Int → Bool} {w wd : Int} {B : Nat → Int} {n : Nat} (hwd : 1 ≤ wd) (h : GoodTo fb w wd B n) : ∀ m c : Nat, c ≤ m → c ≤ n → -1 ≤ B c ∧ B c ≤ c := by
  intro m
  induction m with
  | zero => intro c h1 h2; obtain rfl : c = 0 := by omega
            rw [h.1]; omega
  | succ m ih =>
    intro c h1 h2
    by_cases h0 : 0 ≤ B c
    · by_cases hc : c = 0
      · subst hc; rw [h.1]; omega
      · obtain ⟨_, _, b, g3, _, g5, g6⟩ := good_pred hwd h (by omega) h2 h0
        have := ih b (by omega) (by omega)
        omega
    · have := good_neg h h2 (by omega)
      omega
theorem mf_bd {B : Nat → Int} {lo : Nat} {M : Int} (hM : 0 ≤ M) (h : ∀ j, B j ≤ M ∨ True) : ∀ k, (∀ j, j < k → B (lo + j) ≤ M) → -1 ≤ mf B lo k ∧ mf B lo k ≤ M + 1
  | 0, _ => by rw [mf]; omega
  | k + 1, hk => by
    have ih := mf_bd hM h k (fun j hj => hk j (by omega))
    have := hk k (by omega)
    rw [mf]
    split
    · rename_i hh; omega
    · exact ih
theorem seamOk_cons {fb : Int → Bool} {w wd : Int} {L : Int} {l : List Int} {k : Nat} (hk : k < l.length) (h : SeamOk fb w wd L (l.drop k)) : L < l[k] ∧ l[k] < w ∧ l[k] - L ≤ wd ∧ fb l[k] = false ∧ SeamOk fb w wd l[k] (l.drop (k + 1)) := by
  rw [List.drop_eq_getElem_cons hk] at h
  exact h
theorem seamOk_end {fb : Int → Bool} {w wd : Int} {L : Int} {l : List Int} (h : SeamOk fb w wd L (l.drop l.length)) : w - L ≤ wd := by
  rw [List.drop_length] at h
  exact h
end Go.Proofs.YtgpobcfbafiaaabGreatDoor
