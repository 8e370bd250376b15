/-
  The day of the week of a day: both packages, and the law. By an AI agent.
-/
import Derived.Test.YtpkafkhdococeaaNiAw
import Derived.Test.YtpkafkhdococeaaLightO
namespace Go.Proofs.Ytpkafkhdococeaa
set_option linter.unusedVariables false
set_option linter.unusedSimpArgs false
open Go.RowKit

theorem refFrom_v {a n b : Int} {v : Bool} (h : btw n a b = v) (w : World) :
    Calls Try.prog 57 #[.int .i64 a, .int .i64 n, .int .i64 b] w fun e w' => e = .returned (.bool v) ∧ w' = w := by
  subst h
  by_cases h1 : a ≤ n
  · by_cases h2 : n ≤ b
    · rw [btw_t h1 h2]
      go_enter Try.func57, Try.ntmps57
      go_wp2
      go_ret
      exact ⟨rfl, rfl⟩
    · rw [btw_f (by omega)]
      go_enter Try.func57, Try.ntmps57
      go_wp2
      go_ret
      exact ⟨rfl, rfl⟩
  · rw [btw_f (by omega)]
    go_enter Try.func57, Try.ntmps57
    go_wp2
    go_ret
    exact ⟨rfl, rfl⟩
/-- The day of the week, and the error. -/
def wkV (d : Int) : Int := if btw d 0 100000 = true then d.tmod 7 else 0
def wkE (d : Int) : Int := if btw d 0 100000 = true then 0 else 2
theorem weekday_r (d : Int) (w : World) (hd : I64 d) :
    Calls Try.prog 39 #[.int .i64 d] w fun e w' => e = .returned (.tuple #[.int .i64 (wkV d), .int .i64 (wkE d)]) ∧ Below w.heap.size w w' := by
  unfold wkV wkE
  cases h : btw d 0 100000 with
  | true =>
    have H0 := Lib.hid h
    have hw : IntKind.i64.wrap (d.tmod 7) = d.tmod 7 := by
      have h1 := (btw_iff _ _ _).1 h
      have h2 : d.tmod 7 = d % 7 := Int.tmod_eq_emod_of_nonneg h1.1
      exact IntWalk.i64_in _ (by rw [h2]; omega)
    rw [if_pos rfl, if_pos rfl]
    clear h
    obtain ⟨q, hq⟩ : ∃ q, d.tmod 7 = q := ⟨_, rfl⟩
    rw [hq] at hw ⊢
    go_enter Try.func39, Try.ntmps39
    go_wp2_with fail
    refine (withinN1_any 0 100000 d _ _ (by simp [go_sem])).mono ?_
    rintro e w1 ⟨rfl, hb1⟩
    rw [H0.out]
    go_wp2_with fail
    go_ret2
    exact ⟨rfl, box_below hb1⟩
  | false =>
    have H0 := Lib.hid h
    rw [if_neg (by decide), if_neg (by decide)]
    clear h
    go_enter Try.func39, Try.ntmps39
    go_wp2_with fail
    refine (withinN1_any 0 100000 d _ _ (by simp [go_sem])).mono ?_
    rintro e w1 ⟨rfl, hb1⟩
    rw [H0.out]
    go_wp2_with fail
    go_ret2
    exact ⟨rfl, box_below hb1⟩
theorem refWeekday_r (d : Int) (w : World) (hd : I64 d) :
    Calls Try.prog 40 #[.int .i64 d] w fun e w' => e = .returned (.tuple #[.int .i64 (wkV d), .int .i64 (wkE d)]) ∧ w' = w := by
  unfold wkV wkE
  cases h : btw d 0 100000 with
  | true =>
    have H0 := Lib.hid (fun W => refFrom_v h W)
    have hw : IntKind.i64.wrap (d.tmod 7) = d.tmod 7 := by
      have h1 := (btw_iff _ _ _).1 h
      have h2 : d.tmod 7 = d % 7 := Int.tmod_eq_emod_of_nonneg h1.1
      exact IntWalk.i64_in _ (by rw [h2]; omega)
    rw [if_pos rfl, if_pos rfl]
    clear h
    obtain ⟨q, hq⟩ : ∃ q, d.tmod 7 = q := ⟨_, rfl⟩
    rw [hq] at hw ⊢
    go_enter Try.func40, Try.ntmps40
    go_wp2_with fail
    refine (H0.out _).mono ?_
    rintro e w1 ⟨rfl, rfl⟩
    go_wp2_with fail
    go_ret2
    exact ⟨rfl, rfl⟩
  | false =>
    have H0 := Lib.hid (fun W => refFrom_v h W)
    rw [if_neg (by decide), if_neg (by decide)]
    clear h
    go_enter Try.func40, Try.ntmps40
    go_wp2_with fail
    refine (H0.out _).mono ?_
    rintro e w1 ⟨rfl, rfl⟩
    go_wp2_with fail
    go_ret2
    exact ⟨rfl, rfl⟩
theorem nightDays_any (d : Int) (w : World) (hd : I64 d) :
    Calls Try.prog 11 #[.int .i64 d] w fun e w' => e = .returned (.bool true) ∧ Below w.heap.size w w' := by
  have H1 := Lib.hid (fun W => weekday_r d W hd)
  have H2 := Lib.hid (fun W => refWeekday_r d W hd)
  have H3 := Lib.hid (fun W => awake_any W)
  generalize wkV d = v at *
  generalize wkE d = x at *
  go_enter Try.func11, Try.ntmps11
  go_wp2_with fail
  refine (H1.out _).mono ?_
  rintro e w1 ⟨rfl, hb1⟩
  go_wp2_with fail
  refine (H2.out _).mono ?_
  rintro e w2 ⟨rfl, rfl⟩
  go_wp2_with fail
  refine (H3.out _).mono ?_
  rintro e w3 ⟨rfl, hb3⟩
  go_wp2_with fail
  go_ret
  exact ⟨rfl, below_onN hb1 hb3 hb1.size⟩
end Go.Proofs.Ytpkafkhdococeaa
