/-
  The walks of Fits of both, and of Wide at a nil plan. By an AI agent.
-/
import Derived.Test.YtmeoekcajmgiaaaCutB
namespace Go.Proofs.Ytmeoekcajmgiaaa
set_option linter.unusedVariables false
set_option linter.unusedSimpArgs false
open Go.RowKit

/-- What Fits answers, and its error. -/
noncomputable def fitsV (L K : Int) (l : List (Int × Int)) (q : List Int) : Bool := cutB L K l && (decide (q.length = l.length) && fitB L K l q)
noncomputable def fitsE (L K : Int) (l : List (Int × Int)) (q : List Int) : Int := if cutB L K l = true then (if q.length = l.length then 0 else 2) else 40
def SB (e : Ending) : Prop := ∃ b, e = .returned (.bool b)

set_option maxRecDepth 100000 in
theorem wideNil_any (L K : Int) (aa : Option Addr) (l : List (Int × Int)) (ca : Nat) (w : World) (hl : l.length ≤ 9223372036854775807) :
    Calls Try.prog 5 #[.agg #[.int .i64 L, .int .i64 K, .slice aa l.length ca], .slice none 0 0] w fun e w' => SB e ∧ Below w.heap.size w w' := by
  by_cases h : (30 : Int) < l.length
  · go_enter Try.func5, Try.ntmps5
    go_wp2_with fail
    go_ret
    exact ⟨⟨_, rfl⟩, (Below.refl _ _).alloc (Nat.le_refl _) _⟩
  · go_enter Try.func5, Try.ntmps5
    go_wp2_with fail
    refine wp_loop_rounds 1 ?_
    rw [rounds_succ]
    go_wp2_with fail
    go_ret
    exact ⟨⟨_, rfl⟩, (Below.refl _ _).alloc (Nat.le_refl _) _⟩
end Go.Proofs.Ytmeoekcajmgiaaa
