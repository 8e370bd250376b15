/-
  Ahead and Warn of package road and of the reference. By an AI agent.
-/
import Derived.Test.YtdiabpcpcilclaaRoadC
namespace Go.Proofs.Ytdiabpcpcilclaa
set_option linter.unusedVariables false
set_option linter.unusedSimpArgs false
open Go.RowKit

theorem isDir_1 (w : World) : Calls Try.prog 67 #[.int .i64 1] w fun e w' => e = .returned (.bool true) ∧ w = w' := by
  go_enter Try.func67, Try.ntmps67
  go_wp2
  go_ret
  exact ⟨rfl, rfl⟩
theorem isDir_m (w : World) : Calls Try.prog 67 #[.int .i64 (-1)] w fun e w' => e = .returned (.bool true) ∧ w = w' := by
  go_enter Try.func67, Try.ntmps67
  go_wp2
  go_ret
  exact ⟨rfl, rfl⟩
theorem isDir_no (d : Int) (h1 : d ≠ 1) (h2 : d ≠ -1) (w : World) : Calls Try.prog 67 #[.int .i64 d] w fun e w' => e = .returned (.bool false) ∧ w = w' := by
  have e1 : (d == 1) = false := by simpa using h1
  have e2 : (d == -1) = false := by simpa using h2
  clear h1 h2
  go_enter Try.func67, Try.ntmps67
  go_wp2
  go_ret
  exact ⟨rfl, rfl⟩
theorem dirn_1 (w : World) : Calls Try.prog 72 #[.int .i64 1] w fun e w' => e = .returned (.bool true) ∧ w = w' := by
  go_enter Try.func72, Try.ntmps72
  go_wp2
  go_ret
  exact ⟨rfl, rfl⟩
theorem dirn_m (w : World) : Calls Try.prog 72 #[.int .i64 (-1)] w fun e w' => e = .returned (.bool true) ∧ w = w' := by
  go_enter Try.func72, Try.ntmps72
  go_wp2
  go_ret
  exact ⟨rfl, rfl⟩
theorem dirn_no (d : Int) (h1 : d ≠ 1) (h2 : d ≠ -1) (w : World) : Calls Try.prog 72 #[.int .i64 d] w fun e w' => e = .returned (.bool false) ∧ w = w' := by
  have e1 : (d == 1) = false := by simpa using h1
  have e2 : (d == -1) = false := by simpa using h2
  clear h1 h2
  go_enter Try.func72, Try.ntmps72
  go_wp2
  go_ret
  exact ⟨rfl, rfl⟩
set_option maxHeartbeats 400000 in
theorem from_any (n a b : Int) (w : World) :
    Calls Try.prog 49 #[.int .i64 a, .int .i64 n, .int .i64 b] w fun e w' => e = .returned (.bool (btw n a b)) ∧ w = w' := by
  by_cases h1 : a ≤ n
  · by_cases h2 : n ≤ b
    · rw [btw_t h1 h2]
      go_enter Try.func49, Try.ntmps49
      go_wp2
      go_ret
      exact ⟨rfl, rfl⟩
    · rw [btw_f (fun h => h2 h.2)]
      go_enter Try.func49, Try.ntmps49
      go_wp2
      go_ret
      exact ⟨rfl, rfl⟩
  · rw [btw_f (fun h => h1 h.1)]
    go_enter Try.func49, Try.ntmps49
    go_wp2
    go_ret
    exact ⟨rfl, rfl⟩
theorem from_q {n a b : Int} {v : Bool} (h : btw n a b = v) (w : World) :
    Calls Try.prog 49 #[.int .i64 a, .int .i64 n, .int .i64 b] w fun e w' => e = .returned (.bool v) ∧ w' = w := (from_any n a b w).mono fun e w' g => ⟨by rw [← h]; exact g.1, g.2.symm⟩
def chB (a : Int) : Bool := btw a 0 10000000

/-- The least distance of a warning sign. -/
def lstV (s : Int) : Int := if s ≤ 50 then 50 else if s ≤ 100 then 150 else 250
theorem lstV_c (s : Int) : (s ≤ 50 ∧ lstV s = 50) ∨ (50 < s ∧ s ≤ 100 ∧ lstV s = 150) ∨ (100 < s ∧ lstV s = 250) := by
  unfold lstV
  by_cases h1 : s ≤ 50
  · exact .inl ⟨h1, if_pos h1⟩
  · by_cases h2 : s ≤ 100
    · exact .inr (.inl ⟨by omega, h2, by rw [if_neg h1, if_pos h2]⟩)
    · exact .inr (.inr ⟨by omega, by rw [if_neg h1, if_neg h2]⟩)
/-- Where a warning sign may stand. -/
def wnV (d dir s : Int) : Spn := if dir = -1 then (d + lstV s, d + lstV s + 101) else if d - lstV s < 0 then (0, 0) else (max (d - lstV s - 100) 0, d - lstV s + 1)
end Go.Proofs.Ytdiabpcpcilclaa
