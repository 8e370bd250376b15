/-
  IsShortage of package night and of its reference. By an AI agent.
-/
import Derived.Test.YtghlhjiomebmhaaNiRd
import Derived.Deep.RegionHeld3
import Derived.BigQuiet
import Derived.StillTailTactics
namespace Go.Proofs.Ytghlhjiomebmhaa
set_option linter.unusedVariables false
set_option linter.unusedSimpArgs false
open Go.RowKit

/-- Is a list a shortage? -/
def isB (js : List Jo) (ns : List Ni) (l : List Int) : Bool := indB js.length l && decide (pS js ns l ns.length < l.length)
def isV (js : List Jo) (ns : List Ni) (l : List Int) : Bool := if errL js ns = 0 then isB js ns l else false
theorem indB_nat2 {L : Nat} {l : List Int} (h : indB L l = true) : ∀ k, k < l.length → ∃ m : Nat, gi l k = m ∧ m < L := by
  have hget : ∀ k, k < l.length → prvI l k < gi l k ∧ gi l k < L := fun k hk => by
    have h0 := h
    unfold indB at h0
    rw [Bool.not_eq_true', anyK_iff] at h0
    have h1 := h0 k hk
    unfold badI at h1
    rw [Bool.or_eq_false_iff, decide_eq_false_iff_not, decide_eq_false_iff_not] at h1
    omega
  have hlo : ∀ k, k < l.length → 0 ≤ gi l k := fun k => by
    induction k with
    | zero => intro hk; have := (hget 0 hk).1; simp only [prvI] at this; omega
    | succ k ih => intro hk; have h1 := ih (by omega); have h2 := (hget (k + 1) hk).1; simp only [prvI] at h2; omega
  intro k hk
  have h1 := hlo k hk
  have h2 := (hget k hk).2
  exact ⟨(gi l k).toNat, by omega, by omega⟩
end Go.Proofs.Ytghlhjiomebmhaa
