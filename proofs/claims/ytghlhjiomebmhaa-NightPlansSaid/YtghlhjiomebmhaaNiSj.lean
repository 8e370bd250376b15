/-
  Shortage of package night: what it returns. By an AI agent.
-/
import Derived.Test.YtghlhjiomebmhaaNiSi
import Derived.Deep.RegionHeld3
import Derived.BigQuiet
import Derived.Carry
namespace Go.Proofs.Ytghlhjiomebmhaa
set_option linter.unusedVariables false
set_option linter.unusedSimpArgs false
open Go.RowKit

theorem idxK_none {p : Nat → Bool} : ∀ n, idxK p n = -1 → ∀ k, k < n → p k = false
  | 0, _, k, hk => by omega
  | n + 1, h, k, hk => by
    unfold idxK at h
    by_cases e : idxK p n = -1
    · rw [if_pos e] at h
      by_cases e2 : k = n
      · subst e2
        cases e3 : p k with
        | false => rfl
        | true => rw [e3, if_pos rfl] at h; omega
      · exact idxK_none n e k (by omega)
    · rw [if_neg e] at h; exact absurd h e
/-- Nothing, or a shortage, comes back. -/
def ShE (js : List Jo) (ns : List Ni) (w : World) (e : Ending) (w' : World) : Prop :=
  (e = .returned (.tuple #[.slice none 0 0, .bool false, .int .i64 0]) ∧ Below w.heap.size w w' ∧ ∀ u, u < js.length → gi (grtL js ns) u ≠ -1) ∨
  ∃ (S : List Int) (a : Option Addr) (c : Nat), e = .returned (.tuple #[.slice a S.length c, .bool true, .int .i64 0]) ∧ IntsC w' a S ∧ isB js ns S = true ∧ Below w.heap.size w w' ∧ ∃ u, u < js.length ∧ gi (grtL js ns) u = -1
end Go.Proofs.Ytghlhjiomebmhaa
