/-
  Which columns of a face forbid a seam (forbB); the walk of the reference's Forbidden: it answers forbB. By an AI agent.
-/
import Derived.Test.YtbogmdelceikgaaGreatDoorFaceG
import Derived.Handy
namespace Go.Proofs.YtbogmdelceikgaaGreatDoor
open Go.RowKit

/-- Does the n-th byte of an item's text forbid a seam at c; does the item; does any. -/
def hitB (x : It) (c : Int) (n : Nat) : Bool := if h : n < x.t.size then (x.t[n] != 32) && (decide (x.l + 6 * x.a * n < c) && decide (c < x.l + 6 * x.a * n + 5 * x.a)) else false
def cutB (x : It) (c : Int) : Bool := (List.range x.t.size).any (hitB x c)
def forbB (its : List It) (c : Int) : Bool := its.any fun x => cutB x c
theorem any_range_snoc (p : Nat → Bool) (k : Nat) (h : (List.range k).any p = false) : (List.range (k + 1)).any p = p k := by
  rw [List.range_succ, List.any_append, h]; simp
theorem any_range_take (p : Nat → Bool) (k n : Nat) (hk : k < n) (h : p k = true) : (List.range n).any p = true :=
  List.any_eq_true.2 ⟨k, List.mem_range.2 hk, h⟩
theorem forb_snoc (its : List It) (c : Int) (k : Nat) (h : k < its.length) (ha : forbB (its.take k) c = false) : forbB (its.take (k + 1)) c = cutB its[k] c := by
  unfold forbB at *
  rw [List.take_succ_eq_append_getElem h, List.any_append, ha]; simp
theorem forb_mem (its : List It) (c : Int) (k : Nat) (h : k < its.length) (hc : cutB its[k] c = true) : forbB its c = true :=
  List.any_eq_true.2 ⟨its[k], List.getElem_mem h, hc⟩
theorem cut_empty (x : It) (c : Int) (h : x.t.size = 0) : cutB x c = false := by unfold cutB; rw [h]; rfl
theorem kText (k : Int) (h : btw k 1 6 = true) : kTexts.getD k.toNat false = decide (k = 6) := by
  obtain ⟨h1, h2⟩ := (btw_iff _ _ _).1 h
  have : k = 1 ∨ k = 2 ∨ k = 3 ∨ k = 4 ∨ k = 5 ∨ k = 6 := by omega
  rcases this with rfl | rfl | rfl | rfl | rfl | rfl <;> rfl
theorem ok_other (x : It) (h : x.ok = true) (hk : x.k ≠ 6) : x.t.size = 0 := by
  unfold It.ok itB at h
  simp only [Bool.and_eq_true] at h
  obtain ⟨⟨h1, _⟩, _, _, _, _, h6⟩ := h
  rw [kText _ h1, decide_eq_false hk] at h6
  simp only [Bool.false_eq_true, if_false, List.isEmpty_iff] at h6
  rw [ByteArray.toList_eq] at h6
  have := congrArg List.length h6
  simpa using this
theorem ok_text (x : It) (h : x.ok = true) (hk : x.k = 6) : (0 ≤ x.l ∧ x.l ≤ 200) ∧ (1 ≤ x.a ∧ x.a ≤ 200) ∧ spB x.t = true := by
  unfold It.ok itB at h
  rw [hk] at h
  simp only [Bool.and_eq_true] at h
  obtain ⟨_, h2, _, h4, _, h6⟩ := h
  exact ⟨(btw_iff _ _ _).1 h4, (btw_iff _ _ _).1 h2, h6⟩
theorem sp_size {t : ByteArray} (h : spB t = true) : 1 ≤ t.size ∧ t.size ≤ 24 := by
  unfold spB at h
  rw [Bool.and_eq_true] at h
  have := (btw_iff _ _ _).1 h.2
  omega

end Go.Proofs.YtbogmdelceikgaaGreatDoor
