/-
  Steps of a region that draws its order, one by one: an operation whose guard is false; one that yields its value in every world at hand. By an AI agent.
-/
import Derived.Deep.RegionHeld3
namespace Go.Proofs.YtiagflackfkmnaaGreat
set_option linter.unusedVariables false
set_option linter.unusedSimpArgs false

section
variable {P : Program} {ops : Array Oper} {Q : Exit → Act → World → Prop} {md : Region.Mode} {S : World → Prop}
/-- An operation that is not wanted leaves nothing. -/
theorem skipU {i : Nat} (d : Option Nat) {fuel : Nat} {listed : Array Bool} {a : Act} {w : World} (hs : Region.noSelect ops = true) (hf : Region.free md ops listed i = true) (hr : (Region.ready md ops listed).contains i = true)
    (hd : (ops[i]?).map (·.dst) = some d) (hu : ((ops[i]?).map fun o => Region.wanted o (yielded ops a.tmps)) = some false) (hQ : ∀ c a w, Q (.panic c) (a.put d undef) w → Q (.panic c) a w) (hS : S w)
    (h : wpAnyH P md ops Q S fuel (listed.setIfInBounds i true) (a.put d undef) w) : wpAnyH P md ops Q S (fuel + 1) listed a w := by
  cases ho : ops[i]? with
  | none => rw [ho] at hd; cases hd
  | some o =>
    rw [ho] at hd hu
    simp only [Option.map_some, Option.some.injEq] at hd hu
    subst hd
    exact wpAnyH_take ho hs hf hr hQ (.inr ⟨hu, rfl⟩) hS h
/-- An operation that yields its value in every world. -/
theorem takeU {i : Nat} (d : Option Nat) (v : Value) {fuel : Nat} {listed : Array Bool} {a : Act} {w : World} (hs : Region.noSelect ops = true) (hf : Region.free md ops listed i = true) (hr : (Region.ready md ops listed).contains i = true)
    (hd : (ops[i]?).map (·.dst) = some d) (hu : ((ops[i]?).map fun o => Region.wanted o (yielded ops a.tmps)) = some true) (hv : ∀ w, ((ops[i]?).map fun o => (execOp a.eval o).run P w) = some (.ok (.value v) w)) (hQ : ∀ c a w, Q (.panic c) (a.put d v) w → Q (.panic c) a w) (hS : S w)
    (h : wpAnyH P md ops Q S fuel (listed.setIfInBounds i true) (a.put d v) w) : wpAnyH P md ops Q S (fuel + 1) listed a w := by
  cases ho : ops[i]? with
  | none => rw [ho] at hd; cases hd
  | some o =>
    rw [ho] at hd hu hv
    simp only [Option.map_some, Option.some.injEq] at hd hu hv
    subst hd
    exact wpAnyH_take ho hs hf hr hQ (.inl ⟨hu, fun w _ => hv w⟩) hS h
end
end Go.Proofs.YtiagflackfkmnaaGreat
