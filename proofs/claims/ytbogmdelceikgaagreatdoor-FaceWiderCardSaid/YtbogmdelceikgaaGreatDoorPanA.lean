/-
  Lists of lines in memory; what a panel is. By an AI agent.
-/
import Derived.Test.YtbogmdelceikgaaGreatDoorFaceF
import Derived.Handy
namespace Go.Proofs.YtbogmdelceikgaaGreatDoor
open Go.RowKit

/-- A slice of strings: its address, its strings. -/
def LinesAt (w : World) (a : Option Addr) (ls : List ByteArray) : Prop :=
  ls.length ≤ 9223372036854775807 ∧ (∀ s ∈ ls, s.size ≤ maxLen) ∧ ∃ blk off, (ls ≠ [] → a = some ⟨blk, off, none⟩) ∧ ∀ i (h : i < ls.length), w.cell? ⟨blk, off + i, none⟩ = some (.string ls[i])
theorem LinesAt.below {w w' : World} {a : Option Addr} {ls : List ByteArray} (h : LinesAt w a ls) (hb : Below w.heap.size w w') : LinesAt w' a ls := by
  obtain ⟨h0, h1, blk, off, h2, h3⟩ := h
  exact ⟨h0, h1, blk, off, h2, fun i hi => (hb.cell (p := ⟨blk, off + i, none⟩) (block_lt (h3 i hi))).trans (h3 i hi)⟩

/-- The greatest Length of a line. -/
def longest (u : Int) (ls : List ByteArray) : Int := ls.foldl (fun m s => max m (lenV s u)) 0
def lineOk (u : Int) (s : ByteArray) : Bool := btw u 1 200 && spB s
theorem longest_snoc (u : Int) (ls : List ByteArray) (k : Nat) (h : k < ls.length) : longest u (ls.take (k + 1)) = max (longest u (ls.take k)) (lenV ls[k] u) := by
  unfold longest
  rw [List.take_succ_eq_append_getElem h, List.foldl_append]; rfl
theorem lenV_bd (s : ByteArray) (u : Int) : 0 ≤ lenV s u ∧ lenV s u ≤ 28600 := by
  unfold lenV
  split
  · rename_i h
    simp only [Bool.and_eq_true] at h
    obtain ⟨h1, h2⟩ := h
    obtain ⟨u0, u1⟩ := (btw_iff _ _ _).1 h1
    obtain ⟨s0, s1⟩ := spB_bd s h2
    have := Int.mul_le_mul (show 6 * (s.size : Int) - 1 ≤ 143 by omega) u1 (by omega) (by omega)
    have := Int.mul_nonneg (show 0 ≤ 6 * (s.size : Int) - 1 by omega) (show 0 ≤ u by omega)
    omega
  · omega
theorem lenE_ok {s : ByteArray} {u : Int} (h : lineOk u s = true) : lenE s u = 0 := by unfold lenE; unfold lineOk at h; rw [h]; rfl
theorem lenE_bad {s : ByteArray} {u : Int} (h : lineOk u s = false) : lenE s u = 2 := by unfold lenE; unfold lineOk at h; rw [h]; rfl
theorem longest_bd (u : Int) (ls : List ByteArray) : ∀ k, 0 ≤ longest u (ls.take k) ∧ longest u (ls.take k) ≤ 28600
  | 0 => by rw [List.take_zero]; show (0 : Int) ≤ 0 ∧ (0 : Int) ≤ 28600; decide
  | k + 1 => by
    have ih := longest_bd u ls k
    by_cases h : k < ls.length
    · rw [longest_snoc u ls k h]
      have := lenV_bd ls[k] u
      omega
    · rw [List.take_of_length_le (by omega)]
      rw [List.take_of_length_le (by omega)] at ih
      exact ih

theorem longest_ge (u : Int) (ls : List ByteArray) (j : Nat) (h : j < ls.length) : lenV ls[j] u ≤ longest u ls := by
  have key : ∀ n, j < n → n ≤ ls.length → lenV ls[j] u ≤ longest u (ls.take n) := by
    intro n
    induction n with
    | zero => intro h; omega
    | succ n ih =>
      intro h1 h2
      rw [longest_snoc u ls n (by omega)]
      by_cases e : j = n
      · subst e; omega
      · have := ih (by omega) (by omega); omega
  have := key ls.length h (Nat.le_refl _)
  rwa [List.take_length] at this
/-- What a panel measures, and its error. -/
def panW (u : Int) (ls : List ByteArray) : Int := (longest u ls + 6 * u + 4) / 5 * 5
def panN (u n : Int) : Int := (11 * n + 2) * u
def panH (u n : Int) : Int := (panN u n + 4) / 5 * 5
def panE (u g k : Int) (ls : List ByteArray) : Int :=
  if !(btw ls.length 1 8) || !(ls.all (lineOk u)) || (!(btw g 1 8) || !(btw k 1 8) || (g == k)) then 2 else if panW u ls > 200 ∨ panH u ls.length > 200 then 11 else 0
def panTop (u n : Int) : Int := panH u n - 3 * u - (panH u n - panN u n) / 2
/-- The item of line i. -/
def lineIt (u k sz top : Int) (i : Nat) (s : ByteArray) : It := ⟨6, k, (sz - lenV s u) / 2, top - 7 * u - 11 * u * i, u, 0, s⟩
def panIts (u g k sz top : Int) (ls : List ByteArray) : List It := ⟨1, g, 0, 0, 0, 0, ByteArray.empty⟩ :: ⟨2, k, 0, 0, u, 0, ByteArray.empty⟩ :: ls.mapIdx (fun i s => lineIt u k sz top i s)
theorem panIts_snoc (u g k sz top : Int) (ls : List ByteArray) (i : Nat) (h : i < ls.length) : panIts u g k sz top (ls.take (i + 1)) = panIts u g k sz top (ls.take i) ++ [lineIt u k sz top i ls[i]] := by
  unfold panIts
  rw [List.take_succ_eq_append_getElem h, List.mapIdx_append]
  simp [Nat.min_eq_left (Nat.le_of_lt h)]
theorem panIts_len (u g k sz top : Int) (ls : List ByteArray) : (panIts u g k sz top ls).length = ls.length + 2 := by simp [panIts]

theorem panIts_str (u g k sz top : Int) (ls : List ByteArray) (h : ∀ s ∈ ls, s.size ≤ maxLen) : ∀ x ∈ panIts u g k sz top ls, x.t.size ≤ maxLen := by
  intro x hx
  unfold panIts at hx
  rcases List.mem_cons.1 hx with rfl | hx
  · exact Nat.zero_le _
  · rcases List.mem_cons.1 hx with rfl | hx
    · exact Nat.zero_le _
    · obtain ⟨i, hi, rfl⟩ := List.mem_mapIdx.1 hx
      exact h _ (List.getElem_mem hi)

/-- What a function that returns a face and an error answers. -/
def FaceEnd (w : World) (sh sz h : Int) (its : List It) (err : Int) (e : Ending) (w' : World) : Prop :=
  Below w.heap.size w w' ∧ ∃ a cap, e = .returned (.tuple #[.agg #[.int .i64 sh, .int .i64 sz, .int .i64 h, .slice a its.length cap], .int .i64 err]) ∧ ItemsAt w' a its
/-- What both Panels answer. -/
def PanelEnd (w : World) (u g k : Int) (ls : List ByteArray) : Ending → World → Prop :=
  if panE u g k ls = 0 then FaceEnd w 2 (panW u ls) (panH u ls.length) (panIts u g k (panW u ls) (panTop u ls.length) ls) 0
  else FaceEnd w 0 0 0 [] (panE u g k ls)

/-- An item's cells. -/
def It.cells (x : It) : List Value := [.int .i64 x.k, .int .i64 x.c, .int .i64 x.l, .int .i64 x.o, .int .i64 x.a, .int .i64 x.b, .string x.t]
theorem flat_len (its : List It) : (its.flatMap It.cells).length = its.length * 7 := by
  induction its with
  | nil => rfl
  | cons x r ih => rw [List.flatMap_cons, List.length_append, ih, List.length_cons]; simp [It.cells]; omega
theorem flat_get (its : List It) (i j : Nat) (h : i < its.length) (hj : j < 7) : (its.flatMap It.cells)[i * 7 + j]? = (its[i].cells)[j]? := by
  induction its generalizing i with
  | nil => exact absurd h (Nat.not_lt_zero _)
  | cons x r ih =>
    rw [List.flatMap_cons]
    cases i with
    | zero =>
      rw [List.getElem?_append_left (by simp [It.cells]; omega)]
      simp
    | succ i =>
      rw [List.getElem?_append_right (by simp [It.cells]; omega)]
      have := ih i (by simpa using h)
      simp only [List.getElem_cons_succ]
      rw [← this]
      congr 1
      simp [It.cells]
      omega
/-- An owned row of items reads as its items. -/
theorem items_of_row {w : World} {base g c : Nat} {t : TypeId} {its : List It} (h : w.ownsRow base t 7 (.slice (some ⟨g, 0, none⟩) its.length c) its.length (its.flatMap It.cells)) (hl : its.length ≤ 9223372036854775807) (ht : ∀ x ∈ its, x.t.size ≤ maxLen) :
    ItemsAt w (some ⟨g, 0, none⟩) its := by
  refine ⟨hl, ht, g, 0, fun _ => rfl, fun i hi => ?_⟩
  have key : ∀ j (hj : j < 7), w.cell? ⟨g, i * 7 + j, none⟩ = (its[i].cells)[j]? := fun j hj => by
    rw [World.ownsRow.cellAt h (i * 7 + j) (by omega)]
    rw [← flat_get its i j hi hj, List.getElem?_eq_getElem (by rw [flat_len]; omega)]
  rw [Nat.zero_add]
  exact ⟨key 0 (by decide), key 1 (by decide), key 2 (by decide), key 3 (by decide), key 4 (by decide), key 5 (by decide), key 6 (by decide)⟩
end Go.Proofs.YtbogmdelceikgaaGreatDoor
