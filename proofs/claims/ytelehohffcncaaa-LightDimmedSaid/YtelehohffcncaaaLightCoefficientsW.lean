/-
  The walks of ValidScene and of its reference; the walk of the law LightCoefficients: it answers true. By an AI agent.
-/
import Derived.Test.YtelehohffcncaaaLightJ
namespace Go.Proofs.Ytelehohffcncaaa
set_option linter.unusedVariables false
set_option linter.unusedSimpArgs false
open Go.RowKit

def sceneB (a b c d : Int) : Bool := btw a 0 5000 && (btw b 0 50000 && (btw c 0 1000000 && btw d 0 100000))
theorem sceneB_iff (a b c d : Int) : sceneB a b c d = true ↔ (0 ≤ a ∧ a ≤ 5000) ∧ (0 ≤ b ∧ b ≤ 50000) ∧ (0 ≤ c ∧ c ≤ 1000000) ∧ 0 ≤ d ∧ d ≤ 100000 := by
  unfold sceneB; simp only [Bool.and_eq_true, btw_iff]

set_option maxRecDepth 100000 in
set_option maxHeartbeats 1000000 in
theorem validScene_any (a b c d : Int) (w : World) : Calls Try.prog 34 #[.agg #[.int .i64 a, .int .i64 b, .int .i64 c, .int .i64 d]] w fun e w' => e = .returned (.bool (sceneB a b c d)) ∧ Below w.heap.size w w' := by
  unfold sceneB
  by_cases h1 : btw a 0 5000 = true
  · rw [h1]
    have H1 := Lib.hid h1
    clear h1
    by_cases h2 : btw b 0 50000 = true
    · rw [h2]
      have H2 := Lib.hid h2
      clear h2
      by_cases h3 : btw c 0 1000000 = true
      · rw [h3]
        have H3 := Lib.hid h3
        clear h3
        go_enter Try.func34, Try.ntmps34
        go_wp2_with (go_at_call 28; refine (between_any _ _ _ _).mono ?_; rintro E w' ⟨rfl, rfl⟩; first | rw [H1.out] | rw [H2.out] | rw [H3.out] | skip)
        go_ret
        refine ⟨rfl, ?_⟩
        go_grown
      · have h3 : btw c 0 1000000 = false := by simpa using h3
        rw [h3]
        have H3 := Lib.hid h3
        clear h3
        go_enter Try.func34, Try.ntmps34
        go_wp2_with (go_at_call 28; refine (between_any _ _ _ _).mono ?_; rintro E w' ⟨rfl, rfl⟩; first | rw [H1.out] | rw [H2.out] | rw [H3.out] | skip)
        go_ret
        refine ⟨rfl, ?_⟩
        go_grown
    · have h2 : btw b 0 50000 = false := by simpa using h2
      rw [h2]
      have H2 := Lib.hid h2
      clear h2
      go_enter Try.func34, Try.ntmps34
      go_wp2_with (go_at_call 28; refine (between_any _ _ _ _).mono ?_; rintro E w' ⟨rfl, rfl⟩; first | rw [H1.out] | rw [H2.out] | skip)
      go_ret
      refine ⟨rfl, ?_⟩
      go_grown
  · have h1 : btw a 0 5000 = false := by simpa using h1
    rw [h1]
    have H1 := Lib.hid h1
    clear h1
    go_enter Try.func34, Try.ntmps34
    go_wp2_with (go_at_call 28; refine (between_any _ _ _ _).mono ?_; rintro E w' ⟨rfl, rfl⟩; first | rw [H1.out] | skip)
    go_ret
    refine ⟨rfl, ?_⟩
    go_grown

set_option maxRecDepth 100000 in
set_option maxHeartbeats 1000000 in
theorem refScene_any (a b c d : Int) (w : World) : Calls Try.prog 11 #[.agg #[.int .i64 a, .int .i64 b, .int .i64 c, .int .i64 d]] w fun e w' => e = .returned (.bool (sceneB a b c d)) ∧ Below w.heap.size w w' := by
  unfold sceneB
  by_cases h1 : btw a 0 5000 = true
  · rw [h1]
    have H1 := Lib.hid h1
    clear h1
    by_cases h2 : btw b 0 50000 = true
    · rw [h2]
      have H2 := Lib.hid h2
      clear h2
      by_cases h3 : btw c 0 1000000 = true
      · rw [h3]
        have H3 := Lib.hid h3
        clear h3
        go_enter Try.func11, Try.ntmps11
        go_wp2_with (go_at_call 25; refine (within_any _ _ _ _).mono ?_; rintro E w' ⟨rfl, rfl⟩; first | rw [H1.out] | rw [H2.out] | rw [H3.out] | skip)
        go_ret
        refine ⟨rfl, ?_⟩
        go_grown
      · have h3 : btw c 0 1000000 = false := by simpa using h3
        rw [h3]
        have H3 := Lib.hid h3
        clear h3
        go_enter Try.func11, Try.ntmps11
        go_wp2_with (go_at_call 25; refine (within_any _ _ _ _).mono ?_; rintro E w' ⟨rfl, rfl⟩; first | rw [H1.out] | rw [H2.out] | rw [H3.out] | skip)
        go_ret
        refine ⟨rfl, ?_⟩
        go_grown
    · have h2 : btw b 0 50000 = false := by simpa using h2
      rw [h2]
      have H2 := Lib.hid h2
      clear h2
      go_enter Try.func11, Try.ntmps11
      go_wp2_with (go_at_call 25; refine (within_any _ _ _ _).mono ?_; rintro E w' ⟨rfl, rfl⟩; first | rw [H1.out] | rw [H2.out] | skip)
      go_ret
      refine ⟨rfl, ?_⟩
      go_grown
  · have h1 : btw a 0 5000 = false := by simpa using h1
    rw [h1]
    have H1 := Lib.hid h1
    clear h1
    go_enter Try.func11, Try.ntmps11
    go_wp2_with (go_at_call 25; refine (within_any _ _ _ _).mono ?_; rintro E w' ⟨rfl, rfl⟩; first | rw [H1.out] | skip)
    go_ret
    refine ⟨rfl, ?_⟩
    go_grown

end Go.Proofs.Ytelehohffcncaaa
