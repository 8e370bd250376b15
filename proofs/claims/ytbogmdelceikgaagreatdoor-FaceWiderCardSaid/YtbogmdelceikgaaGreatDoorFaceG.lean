/-
  The walks of the reference's Valid (it answers faceB), and of the law's 'long'. By an AI agent.
-/
import Derived.Test.YtbogmdelceikgaaGreatDoorFaceF
namespace Go.Proofs.YtbogmdelceikgaaGreatDoor
open Go.RowKit

/-- Are the lists of a face too long for the statements. -/
def longB (its : List It) : Bool := decide (40 < its.length) || its.any fun x => decide (100 < x.t.size)
theorem any_snoc (its : List It) (k : Nat) (h : k < its.length) (ha : (its.take k).any (fun x => decide (100 < x.t.size)) = false) : (its.take (k + 1)).any (fun x => decide (100 < x.t.size)) = decide (100 < its[k].t.size) := by
  rw [List.take_succ_eq_append_getElem h, List.any_append, ha]; simp
theorem any_take (its : List It) (k : Nat) (h : (its.take k).any (fun x => decide (100 < x.t.size)) = true) : its.any (fun x => decide (100 < x.t.size)) = true := by
  rw [List.any_eq_true] at h ⊢
  obtain ⟨x, hx, hp⟩ := h
  exact ⟨x, List.mem_of_mem_take hx, hp⟩

end Go.Proofs.YtbogmdelceikgaaGreatDoor
