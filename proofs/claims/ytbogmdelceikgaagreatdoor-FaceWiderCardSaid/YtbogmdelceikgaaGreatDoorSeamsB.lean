/-
  The walk of the reference's Seams. By an AI agent.
-/
import Derived.Test.YtbogmdelceikgaaGreatDoorSeamsA
import Derived.Test.YtbogmdelceikgaaGreatDoorExt
import Derived.Laws.OwnMore
import Derived.Laws.AppendOwnNone
namespace Go.Proofs.YtbogmdelceikgaaGreatDoor
open Go.RowKit

/-- From a column `at + k` down to the first that forbids no seam; `at` if there is none. -/
def down (fb : Int → Bool) (a : Int) : Nat → Int
  | 0 => a
  | k + 1 => if fb (a + (k + 1 : Nat)) then down fb a k else a + (k + 1 : Nat)
theorem down_bd (fb : Int → Bool) (a : Int) : ∀ k : Nat, a ≤ down fb a k ∧ down fb a k ≤ a + k
  | 0 => by unfold down; omega
  | k + 1 => by
    unfold down
    have := down_bd fb a k
    split <;> omega
/-- The seams from a column on; none where a letter is too wide. -/
def seamsGo (fb : Int → Bool) (w wd : Int) : Nat → Int → List Int → Option (List Int)
  | 0, _, _ => none
  | f + 1, a, acc => if w - a > wd then (if down fb a wd.toNat = a then none else seamsGo fb w wd f (down fb a wd.toNat) (acc ++ [down fb a wd.toNat])) else some acc
def seamsOf (fb : Int → Bool) (w wd : Int) : Option (List Int) := seamsGo fb w wd (w.toNat + 1) 0 []

theorem down_zero (fb : Int → Bool) (a : Int) : down fb a (a - a).toNat = a := by rw [Int.sub_self]; rfl
theorem down_hit (fb : Int → Bool) (a c : Int) (h : a < c) (hf : fb c = true) : down fb a (c - a).toNat = down fb a (c - 1 - a).toNat := by
  obtain ⟨k, hk⟩ : ∃ k : Nat, (c - a).toNat = k + 1 := ⟨(c - a).toNat - 1, by omega⟩
  have h2 : (c - 1 - a).toNat = k := by omega
  have e : a + ((k + 1 : Nat) : Int) = c := by omega
  rw [hk, h2]
  show (if fb (a + ((k + 1 : Nat) : Int)) then down fb a k else a + ((k + 1 : Nat) : Int)) = _
  rw [e, if_pos hf]
theorem down_free (fb : Int → Bool) (a c : Int) (h : a < c) (hf : fb c = false) : down fb a (c - a).toNat = c := by
  obtain ⟨k, hk⟩ : ∃ k : Nat, (c - a).toNat = k + 1 := ⟨(c - a).toNat - 1, by omega⟩
  have e : a + ((k + 1 : Nat) : Int) = c := by omega
  rw [hk]
  show (if fb (a + ((k + 1 : Nat) : Int)) then down fb a k else a + ((k + 1 : Nat) : Int)) = _
  rw [e, hf]
  rfl
theorem go_end (fb : Int → Bool) (w wd a : Int) (f : Nat) (acc : List Int) (h : ¬ w - a > wd) : seamsGo fb w wd (f + 1) a acc = some acc := by
  unfold seamsGo
  rw [if_neg h]
theorem go_none (fb : Int → Bool) (w wd a : Int) (f : Nat) (acc : List Int) (h : w - a > wd) (hd : down fb a wd.toNat = a) : seamsGo fb w wd (f + 1) a acc = none := by
  unfold seamsGo
  rw [if_pos h, if_pos hd]
theorem go_next (fb : Int → Bool) (w wd a c : Int) (f : Nat) (acc : List Int) (h : w - a > wd) (hd : down fb a wd.toNat = c) (hc : c ≠ a) : seamsGo fb w wd (f + 1) a acc = seamsGo fb w wd f c (acc ++ [c]) := by
  rw [seamsGo, if_pos h, hd, if_neg hc]
theorem owns_below {w w' : World} {base : Nat} {e : TypeId} {size : Nat} {v : Value} {n : Nat} {xs : List Value} (h : w.ownsRow base e size v n xs) (hb : Below w.heap.size w w') : w'.ownsRow base e size v n xs := by
  refine ⟨h.1, ?_⟩
  rcases h.2 with h2 | ⟨g, cap, cur, h1, h2, h3, h4⟩
  · exact .inl h2
  · have hg : g < w.heap.size := by
      apply Nat.lt_of_not_le
      intro hle
      rw [Array.getElem?_eq_none hle] at h3
      cases h3
    exact .inr ⟨g, cap, cur, h1, h2, by rw [hb.block g hg]; exact h3, h4⟩
theorem owns_base {w : World} {base b : Nat} {e : TypeId} {size : Nat} {v : Value} {n : Nat} {xs : List Value} (h : w.ownsRow base e size v n xs) (hb : b ≤ base) : w.ownsRow b e size v n xs := by
  refine ⟨h.1, ?_⟩
  rcases h.2 with h2 | ⟨g, cap, cur, h1, h2, h3, h4⟩
  · exact .inl h2
  · exact .inr ⟨g, cap, cur, h1, Nat.le_trans hb h2, h3, h4⟩
theorem owns_block {w : World} {base : Nat} {e : TypeId} {size : Nat} {v : Value} {n : Nat} {xs : List Value} (h : w.ownsRow base e size v n xs) : ∀ k, v.ownBlock = some k → base ≤ k := by
  intro k hk
  rcases h.2 with ⟨h2, _⟩ | ⟨g, cap, cur, h1, h2, _⟩
  · subst h2; simp [Value.ownBlock] at hk
  · subst h1; simp [Value.ownBlock] at hk; omega
theorem intInfo : (Tryz.prog.info? 3).map (fun i => (i.zero, i.size, i.bytes)) = some (some (.int .i64 0), 1, 8) := by kernel_rfl

/-- What both Seams answer. -/
def SeamsEnd (w : World) (o : Option (List Int)) (e : Ending) (w' : World) : Prop :=
  Below w.heap.size w w' ∧ match o with
    | none => e = .returned (.tuple #[.slice none 0 0, .int .i64 11])
    | some l => ∃ v, e = .returned (.tuple #[v, .int .i64 0]) ∧ w'.ownsRow w.heap.size 3 1 v l.length (l.map (Value.int .i64))

end Go.Proofs.YtbogmdelceikgaaGreatDoor
