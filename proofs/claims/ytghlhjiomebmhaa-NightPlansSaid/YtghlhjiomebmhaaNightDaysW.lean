/-
  The day of the week of a day: both packages, and the law. By an AI agent.
-/
import Derived.Test.YtghlhjiomebmhaaNiAw
import Derived.Test.YtghlhjiomebmhaaLightO
namespace Go.Proofs.Ytghlhjiomebmhaa
set_option linter.unusedVariables false
set_option linter.unusedSimpArgs false
open Go.RowKit

theorem refFrom_v {a n b : Int} {v : Bool} (h : btw n a b = v) (w : World) :
    Calls Try.prog 41 #[.int .i64 a, .int .i64 n, .int .i64 b] w fun e w' => e = .returned (.bool v) ∧ w' = w := by
  subst h
  by_cases h1 : a ≤ n
  · by_cases h2 : n ≤ b
    · rw [btw_t h1 h2]
      go_enter Try.func41, Try.ntmps41
      go_wp2
      go_ret
      exact ⟨rfl, rfl⟩
    · rw [btw_f (by omega)]
      go_enter Try.func41, Try.ntmps41
      go_wp2
      go_ret
      exact ⟨rfl, rfl⟩
  · rw [btw_f (by omega)]
    go_enter Try.func41, Try.ntmps41
    go_wp2
    go_ret
    exact ⟨rfl, rfl⟩
/-- The day of the week, and the error. -/
def wkV (d : Int) : Int := if btw d 0 100000 = true then d.tmod 7 else 0
def wkE (d : Int) : Int := if btw d 0 100000 = true then 0 else 2
end Go.Proofs.Ytghlhjiomebmhaa
