/-
  Indexes and Places of the reference of package night; Wide of the laws. By an AI agent.
-/
import Derived.Test.YtghlhjiomebmhaaNiRc
import Derived.Deep.RegionHeld3
import Derived.BigQuiet
import Derived.StillTailTactics
namespace Go.Proofs.Ytghlhjiomebmhaa
set_option linter.unusedVariables false
set_option linter.unusedSimpArgs false
open Go.RowKit

/-- What stands ahead of place k, or -1. -/
def prvI (l : List Int) : Nat → Int
  | 0 => -1
  | k + 1 => gi l k
/-- Is place k of a list no index above the one ahead of it? -/
def badI (L : Nat) (l : List Int) (k : Nat) : Bool := decide (gi l k ≤ prvI l k) || decide ((L : Int) ≤ gi l k)
/-- Are these indexes in ascending order? -/
def indB (L : Nat) (l : List Int) : Bool := !(anyK (badI L l) l.length)
/-- Does one of the first q jobs of a list fit a night? -/
def oneB (js : List Jo) (l : List Int) (n : Ni) (q : Nat) : Bool := anyK (fun i => fitB (gj js (gi l i).toNat) n) q
/-- The places of those of the first k nights that one of some jobs fits. -/
def pS (js : List Jo) (ns : List Ni) (l : List Int) : Nat → Int
  | 0 => 0
  | k + 1 => if oneB js l (gn ns k) l.length = true then pS js ns l k + (gn ns k).p else pS js ns l k
theorem pS_b (js : List Jo) (ns : List Ni) (l : List Int) (hp : ∀ i, i < ns.length → 0 ≤ (gn ns i).p ∧ (gn ns i).p ≤ 100) : ∀ k, k ≤ ns.length → 0 ≤ pS js ns l k ∧ pS js ns l k ≤ 100 * k
  | 0, _ => by simp [pS]
  | k + 1, hk => by
    have h1 := pS_b js ns l hp k (by omega)
    have h2 := hp k (by omega)
    unfold pS
    split <;> constructor <;> omega
/-- Are there more jobs or nights? -/
def wideB (L N : Nat) (j n : Int) : Bool := decide (j < L) || decide (n < N)
theorem wide_v (ja : Option Addr) (L jc : Nat) (na : Option Addr) (N nc : Nat) (j n : Int) (w : World) {v : Bool} (h : wideB L N j n = v) :
    Calls Try.prog 7 #[.agg #[.slice ja L jc, .slice na N nc], .int .i64 j, .int .i64 n] w fun e w' => e = .returned (.bool v) ∧ Below w.heap.size w w' := by
  subst h
  have hb := (Below.refl w.heap.size w).alloc (Nat.le_refl _) (.cells #[.slice ja L jc, .slice na N nc] 25)
  unfold wideB
  by_cases h1 : j < L
  · rw [decide_eq_true h1]
    have d1 : decide (j < (L : Int)) = true := decide_eq_true h1
    go_enter Try.func7, Try.ntmps7
    go_wp2_with fail
    go_ret
    exact ⟨rfl, hb⟩
  · rw [decide_eq_false h1]
    have d1 : decide (j < (L : Int)) = false := decide_eq_false h1
    by_cases h2 : n < N
    · rw [decide_eq_true h2]
      have d2 : decide (n < (N : Int)) = true := decide_eq_true h2
      go_enter Try.func7, Try.ntmps7
      go_wp2_with fail
      go_ret
      exact ⟨rfl, hb⟩
    · rw [decide_eq_false h2]
      have d2 : decide (n < (N : Int)) = false := decide_eq_false h2
      go_enter Try.func7, Try.ntmps7
      go_wp2_with fail
      go_ret
      exact ⟨rfl, hb⟩
end Go.Proofs.Ytghlhjiomebmhaa
