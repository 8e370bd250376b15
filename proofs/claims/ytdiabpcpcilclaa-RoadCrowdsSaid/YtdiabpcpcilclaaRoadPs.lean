/-
  post of the reference. By an AI agent.
-/
import Derived.Test.YtdiabpcpcilclaaRoadSg
import Derived.Deep.RegionHeld3
namespace Go.Proofs.Ytdiabpcpcilclaa
set_option linter.unusedVariables false
set_option linter.unusedSimpArgs false
open Go.RowKit

theorem dirn_any {d : Int} {v : Bool} (h : dirB d = v) (w : World) : Calls Try.prog 72 #[.int .i64 d] w fun e w' => e = .returned (.bool v) ∧ w = w' := by
  subst h
  by_cases h1 : d = 1
  · subst h1; exact dirn_1 w
  · by_cases h2 : d = -1
    · subst h2; exact dirn_m w
    · have e : dirB d = false := by simp [dirB, h1, h2]
      rw [e]; exact dirn_no d h1 h2 w
theorem sd_btw (s : Int) : btw s 0 1 = sdB s := by
  rw [Bool.eq_iff_iff, btw_iff]; simp only [sdB, Bool.or_eq_true, beq_iff_eq]; omega
theorem refPost_a (n c d s : Int) (w : World) (h : btw c 0 10000000 = false) :
    Calls Try.prog 50 #[.agg #[.int .i64 n, .int .i64 c, .int .i64 d, .int .i64 s]] w fun e w' => e = .returned (.bool false) ∧ Below w.heap.size w w' := by
  have H1 := Lib.hid h
  have H3 := H1
  clear h
  have hb := (Below.refl w.heap.size w).alloc (Nat.le_refl _) (.cells #[.int .i64 n, .int .i64 c, .int .i64 d, .int .i64 s] 78)
  go_enter Try.func50, Try.ntmps50
  go_wp2_with ((go_at_call 49; refine (from_any _ _ _ _).mono ?_; rintro e w' ⟨rfl, rfl⟩; first | rw [H1.out] | rw [H3.out]))
  go_ret
  exact ⟨rfl, hb⟩
theorem refPost_b (n c d s : Int) (w : World) (h : btw c 0 10000000 = true) (h2 : dirB d = false) :
    Calls Try.prog 50 #[.agg #[.int .i64 n, .int .i64 c, .int .i64 d, .int .i64 s]] w fun e w' => e = .returned (.bool false) ∧ Below w.heap.size w w' := by
  have H1 := Lib.hid h
  have H3 := H1
  have HD := Lib.hid (fun W => dirn_any h2 W)
  clear h h2
  have hb := (Below.refl w.heap.size w).alloc (Nat.le_refl _) (.cells #[.int .i64 n, .int .i64 c, .int .i64 d, .int .i64 s] 78)
  go_enter Try.func50, Try.ntmps50
  go_wp2_with (first | (go_at_call 49; refine (from_any _ _ _ _).mono ?_; rintro e w' ⟨rfl, rfl⟩; first | rw [H1.out] | rw [H3.out]) | (go_at_call 72; refine (HD.out _).mono ?_; rintro e w' ⟨rfl, rfl⟩))
  go_ret
  exact ⟨rfl, hb⟩
theorem refPost_c (n c d s : Int) (w : World) (h : btw c 0 10000000 = true) (h2 : dirB d = true) :
    Calls Try.prog 50 #[.agg #[.int .i64 n, .int .i64 c, .int .i64 d, .int .i64 s]] w fun e w' => e = .returned (.bool (sdB s)) ∧ Below w.heap.size w w' := by
  have H1 := Lib.hid h
  have H3 := Lib.hid (sd_btw s)
  have HD := Lib.hid (fun W => dirn_any h2 W)
  generalize sdB s = b at *
  clear h h2
  have hb := (Below.refl w.heap.size w).alloc (Nat.le_refl _) (.cells #[.int .i64 n, .int .i64 c, .int .i64 d, .int .i64 s] 78)
  go_enter Try.func50, Try.ntmps50
  go_wp2_with (first | (go_at_call 49; refine (from_any _ _ _ _).mono ?_; rintro e w' ⟨rfl, rfl⟩; first | rw [H1.out] | rw [H3.out]) | (go_at_call 72; refine (HD.out _).mono ?_; rintro e w' ⟨rfl, rfl⟩))
  go_ret
  exact ⟨rfl, hb⟩
theorem refPost_any (n c d s : Int) (w : World) :
    Calls Try.prog 50 #[.agg #[.int .i64 n, .int .i64 c, .int .i64 d, .int .i64 s]] w fun e w' => e = .returned (.bool (postB c d s)) ∧ Below w.heap.size w w' := by
  unfold postB
  cases h : btw c 0 10000000 with
  | false => exact refPost_a n c d s w h
  | true =>
    cases h2 : dirB d with
    | false => exact refPost_b n c d s w h h2
    | true => exact refPost_c n c d s w h h2
end Go.Proofs.Ytdiabpcpcilclaa
