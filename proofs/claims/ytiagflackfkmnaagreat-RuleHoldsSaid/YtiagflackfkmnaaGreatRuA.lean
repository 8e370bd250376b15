/-
  Small functions of package rule and of its reference: within, isTime, isDir, isHour, isTopic, valueValid. By an AI agent.
-/
import Derived.Test.YtiagflackfkmnaaGreatLightA
import Derived.Test.YtiagflackfkmnaaGreatAnyK
import Derived.Deep.RegionHeld3
import Derived.BigQuiet
namespace Go.Proofs.YtiagflackfkmnaaGreat
set_option linter.unusedVariables false
set_option linter.unusedSimpArgs false
open Go.RowKit

theorem btw_casesR (n a b : Int) : btw n a b = true ∨ btw n a b = false := by cases btw n a b <;> simp
/-- The ends of a span of hours. -/
def timeB (f t : Int) : Bool := decide (0 ≤ f) && decide (f < t) && decide (t ≤ 10000001)
def dirB (d : Int) : Bool := d == 1 || d == -1
def topB (d : Int) : Bool := d == 1 || d == 2
/-- Are there signs of a kind with a value? -/
def valB (k v : Int) : Bool := if k = 1 ∨ k = 6 then btw v 10 200 else if k = 2 ∨ k = 3 ∨ k = 4 ∨ k = 5 then v == 0 else if k = 7 then btw v 1 100000 else if k = 8 then btw v 0 1000 else false
theorem within_r (a b n : Int) (w : World) : Calls Tryz.prog 79 #[.int .i64 a, .int .i64 b, .int .i64 n] w fun e w' => e = .returned (.bool (btw n a b)) ∧ w = w' := by
  by_cases h1 : a ≤ n
  · by_cases h2 : n ≤ b
    · rw [btw_t h1 h2]
      go_enter Tryz.func79, Tryz.ntmps79
      go_wp2
      go_ret
      exact ⟨rfl, rfl⟩
    · rw [btw_f (by omega)]
      go_enter Tryz.func79, Tryz.ntmps79
      go_wp2
      go_ret
      exact ⟨rfl, rfl⟩
  · rw [btw_f (by omega)]
    go_enter Tryz.func79, Tryz.ntmps79
    go_wp2
    go_ret
    exact ⟨rfl, rfl⟩
theorem refWithin_r (a b n : Int) (w : World) : Calls Tryz.prog 74 #[.int .i64 n, .int .i64 a, .int .i64 b] w fun e w' => e = .returned (.bool (btw n a b)) ∧ w = w' := by
  by_cases h1 : a ≤ n
  · by_cases h2 : n ≤ b
    · rw [btw_t h1 h2]
      go_enter Tryz.func74, Tryz.ntmps74
      go_wp2
      go_ret
      exact ⟨rfl, rfl⟩
    · rw [btw_f (by omega)]
      go_enter Tryz.func74, Tryz.ntmps74
      go_wp2
      go_ret
      exact ⟨rfl, rfl⟩
  · rw [btw_f (by omega)]
    go_enter Tryz.func74, Tryz.ntmps74
    go_wp2
    go_ret
    exact ⟨rfl, rfl⟩
theorem isTime_r (f t : Int) (w : World) : Calls Tryz.prog 140 #[.int .i64 f, .int .i64 t] w fun e w' => e = .returned (.bool (timeB f t)) ∧ w = w' := by
  unfold timeB
  by_cases h1 : 0 ≤ f
  · by_cases h2 : f < t
    · by_cases h3 : t ≤ 10000001
      · rw [decide_eq_true h1, decide_eq_true h2, decide_eq_true h3]
        go_enter Tryz.func140, Tryz.ntmps140
        go_wp2
        go_ret
        exact ⟨rfl, rfl⟩

      · rw [decide_eq_true h1, decide_eq_true h2, decide_eq_false h3]
        go_enter Tryz.func140, Tryz.ntmps140
        go_wp2
        go_ret
        exact ⟨rfl, rfl⟩

    · rw [decide_eq_true h1, decide_eq_false h2, Bool.true_and, Bool.false_and]
      go_enter Tryz.func140, Tryz.ntmps140
      go_wp2
      go_ret
      exact ⟨rfl, rfl⟩

  · rw [decide_eq_false h1, Bool.false_and, Bool.false_and]
    go_enter Tryz.func140, Tryz.ntmps140
    go_wp2
    go_ret
    exact ⟨rfl, rfl⟩

theorem refHours_r (f t : Int) (w : World) : Calls Tryz.prog 90 #[.int .i64 f, .int .i64 t] w fun e w' => e = .returned (.bool (timeB f t)) ∧ w = w' := by
  unfold timeB
  by_cases h1 : 0 ≤ f
  · by_cases h2 : f < t
    · by_cases h3 : t ≤ 10000001
      · rw [decide_eq_true h1, decide_eq_true h2, decide_eq_true h3]
        go_enter Tryz.func90, Tryz.ntmps90
        go_wp2
        go_ret
        exact ⟨rfl, rfl⟩

      · rw [decide_eq_true h1, decide_eq_true h2, decide_eq_false h3]
        go_enter Tryz.func90, Tryz.ntmps90
        go_wp2
        go_ret
        exact ⟨rfl, rfl⟩

    · rw [decide_eq_true h1, decide_eq_false h2, Bool.true_and, Bool.false_and]
      go_enter Tryz.func90, Tryz.ntmps90
      go_wp2
      go_ret
      exact ⟨rfl, rfl⟩

  · rw [decide_eq_false h1, Bool.false_and, Bool.false_and]
    go_enter Tryz.func90, Tryz.ntmps90
    go_wp2
    go_ret
    exact ⟨rfl, rfl⟩

theorem isDir_r (d : Int) (w : World) : Calls Tryz.prog 46 #[.int .i64 d] w fun e w' => e = .returned (.bool (dirB d)) ∧ w = w' := by
  by_cases h1 : d = 1
  · subst h1
    rw [show dirB 1 = true from rfl]
    go_enter Tryz.func46, Tryz.ntmps46
    go_wp2
    go_ret
    exact ⟨rfl, rfl⟩
  · by_cases h2 : d = (-1)
    · subst h2
      rw [show dirB (-1) = true from rfl]
      go_enter Tryz.func46, Tryz.ntmps46
      go_wp2
      go_ret
      exact ⟨rfl, rfl⟩
    · have hv : dirB d = false := by simp [dirB, h1, h2]
      rw [hv]
      have e1 : (d == 1) = false := by simpa using h1
      have e2 : (d == (-1)) = false := by simpa using h2
      clear h1 h2 hv
      go_enter Tryz.func46, Tryz.ntmps46
      go_wp2
      go_ret
      exact ⟨rfl, rfl⟩
theorem refDir_r (d : Int) (w : World) : Calls Tryz.prog 89 #[.int .i64 d] w fun e w' => e = .returned (.bool (dirB d)) ∧ w = w' := by
  by_cases h1 : d = 1
  · subst h1
    rw [show dirB 1 = true from rfl]
    go_enter Tryz.func89, Tryz.ntmps89
    go_wp2
    go_ret
    exact ⟨rfl, rfl⟩
  · by_cases h2 : d = (-1)
    · subst h2
      rw [show dirB (-1) = true from rfl]
      go_enter Tryz.func89, Tryz.ntmps89
      go_wp2
      go_ret
      exact ⟨rfl, rfl⟩
    · have hv : dirB d = false := by simp [dirB, h1, h2]
      rw [hv]
      have e1 : (d == 1) = false := by simpa using h1
      have e2 : (d == (-1)) = false := by simpa using h2
      clear h1 h2 hv
      go_enter Tryz.func89, Tryz.ntmps89
      go_wp2
      go_ret
      exact ⟨rfl, rfl⟩
theorem isTopic_r (d : Int) (w : World) : Calls Tryz.prog 51 #[.int .i64 d] w fun e w' => e = .returned (.bool (topB d)) ∧ w = w' := by
  by_cases h1 : d = 1
  · subst h1
    rw [show topB 1 = true from rfl]
    go_enter Tryz.func51, Tryz.ntmps51
    go_wp2
    go_ret
    exact ⟨rfl, rfl⟩
  · by_cases h2 : d = 2
    · subst h2
      rw [show topB 2 = true from rfl]
      go_enter Tryz.func51, Tryz.ntmps51
      go_wp2
      go_ret
      exact ⟨rfl, rfl⟩
    · have hv : topB d = false := by simp [topB, h1, h2]
      rw [hv]
      have e1 : (d == 1) = false := by simpa using h1
      have e2 : (d == 2) = false := by simpa using h2
      clear h1 h2 hv
      go_enter Tryz.func51, Tryz.ntmps51
      go_wp2
      go_ret
      exact ⟨rfl, rfl⟩
theorem isHour_r (h : Int) (w : World) : Calls Tryz.prog 45 #[.int .i64 h] w fun e w' => e = .returned (.bool (btw h 0 10000000)) ∧ w = w' := by
  have HW := Lib.hid (fun W => within_r 0 10000000 h W)
  generalize btw h 0 10000000 = b at *
  go_enter Tryz.func45, Tryz.ntmps45
  go_wp2_with (go_at_call 79; refine (HW.out _).mono ?_; rintro e w' ⟨rfl, rfl⟩)
  go_ret
  exact ⟨rfl, rfl⟩
theorem valueValid_r (k v : Int) (w : World) : Calls Tryz.prog 139 #[.int .i64 k, .int .i64 v] w fun e w' => e = .returned (.bool (valB k v)) ∧ w = w' := by
  have HW := Lib.hid (fun a b W => within_r a b v W)
  by_cases h1 : k = 1
  · subst h1
    rw [show valB 1 v = btw v 10 200 by simp [valB]]
    go_enter Tryz.func139, Tryz.ntmps139
    go_wp2_with (go_at_call 79; refine (HW.out _ _ _).mono ?_; rintro e w' ⟨rfl, rfl⟩)
    go_ret
    exact ⟨rfl, rfl⟩
  by_cases h2 : k = 2
  · subst h2
    rw [show valB 2 v = (v == 0) by simp [valB]]
    go_enter Tryz.func139, Tryz.ntmps139
    go_wp2_with (go_at_call 79; refine (HW.out _ _ _).mono ?_; rintro e w' ⟨rfl, rfl⟩)
    go_ret
    exact ⟨rfl, rfl⟩
  by_cases h3 : k = 3
  · subst h3
    rw [show valB 3 v = (v == 0) by simp [valB]]
    go_enter Tryz.func139, Tryz.ntmps139
    go_wp2_with (go_at_call 79; refine (HW.out _ _ _).mono ?_; rintro e w' ⟨rfl, rfl⟩)
    go_ret
    exact ⟨rfl, rfl⟩
  by_cases h4 : k = 4
  · subst h4
    rw [show valB 4 v = (v == 0) by simp [valB]]
    go_enter Tryz.func139, Tryz.ntmps139
    go_wp2_with (go_at_call 79; refine (HW.out _ _ _).mono ?_; rintro e w' ⟨rfl, rfl⟩)
    go_ret
    exact ⟨rfl, rfl⟩
  by_cases h5 : k = 5
  · subst h5
    rw [show valB 5 v = (v == 0) by simp [valB]]
    go_enter Tryz.func139, Tryz.ntmps139
    go_wp2_with (go_at_call 79; refine (HW.out _ _ _).mono ?_; rintro e w' ⟨rfl, rfl⟩)
    go_ret
    exact ⟨rfl, rfl⟩
  by_cases h6 : k = 6
  · subst h6
    rw [show valB 6 v = btw v 10 200 by simp [valB]]
    go_enter Tryz.func139, Tryz.ntmps139
    go_wp2_with (go_at_call 79; refine (HW.out _ _ _).mono ?_; rintro e w' ⟨rfl, rfl⟩)
    go_ret
    exact ⟨rfl, rfl⟩
  by_cases h7 : k = 7
  · subst h7
    rw [show valB 7 v = btw v 1 100000 by simp [valB]]
    go_enter Tryz.func139, Tryz.ntmps139
    go_wp2_with (go_at_call 79; refine (HW.out _ _ _).mono ?_; rintro e w' ⟨rfl, rfl⟩)
    go_ret
    exact ⟨rfl, rfl⟩
  by_cases h8 : k = 8
  · subst h8
    rw [show valB 8 v = btw v 0 1000 by simp [valB]]
    go_enter Tryz.func139, Tryz.ntmps139
    go_wp2_with (go_at_call 79; refine (HW.out _ _ _).mono ?_; rintro e w' ⟨rfl, rfl⟩)
    go_ret
    exact ⟨rfl, rfl⟩
  rw [show valB k v = false by simp [valB, h1, h2, h3, h4, h5, h6, h7, h8]]
  have e1 : (k == 1) = false := by simpa using h1
  have e2 : (k == 2) = false := by simpa using h2
  have e3 : (k == 3) = false := by simpa using h3
  have e4 : (k == 4) = false := by simpa using h4
  have e5 : (k == 5) = false := by simpa using h5
  have e6 : (k == 6) = false := by simpa using h6
  have e7 : (k == 7) = false := by simpa using h7
  have e8 : (k == 8) = false := by simpa using h8
  clear HW h1 h2 h3 h4 h5 h6 h7 h8
  go_enter Tryz.func139, Tryz.ntmps139
  go_wp2
  go_ret
  exact ⟨rfl, rfl⟩
theorem refValue_r (k v : Int) (w : World) : Calls Tryz.prog 88 #[.int .i64 k, .int .i64 v] w fun e w' => e = .returned (.bool (valB k v)) ∧ w = w' := by
  have HW := Lib.hid (fun a b W => refWithin_r a b v W)
  by_cases h1 : k = 1
  · subst h1
    rw [show valB 1 v = btw v 10 200 by simp [valB]]
    go_enter Tryz.func88, Tryz.ntmps88
    go_wp2_with (go_at_call 74; refine (HW.out _ _ _).mono ?_; rintro e w' ⟨rfl, rfl⟩)
    go_ret
    exact ⟨rfl, rfl⟩
  by_cases h2 : k = 2
  · subst h2
    rw [show valB 2 v = (v == 0) by simp [valB]]
    go_enter Tryz.func88, Tryz.ntmps88
    go_wp2_with (go_at_call 74; refine (HW.out _ _ _).mono ?_; rintro e w' ⟨rfl, rfl⟩)
    go_ret
    exact ⟨rfl, rfl⟩
  by_cases h3 : k = 3
  · subst h3
    rw [show valB 3 v = (v == 0) by simp [valB]]
    go_enter Tryz.func88, Tryz.ntmps88
    go_wp2_with (go_at_call 74; refine (HW.out _ _ _).mono ?_; rintro e w' ⟨rfl, rfl⟩)
    go_ret
    exact ⟨rfl, rfl⟩
  by_cases h4 : k = 4
  · subst h4
    rw [show valB 4 v = (v == 0) by simp [valB]]
    go_enter Tryz.func88, Tryz.ntmps88
    go_wp2_with (go_at_call 74; refine (HW.out _ _ _).mono ?_; rintro e w' ⟨rfl, rfl⟩)
    go_ret
    exact ⟨rfl, rfl⟩
  by_cases h5 : k = 5
  · subst h5
    rw [show valB 5 v = (v == 0) by simp [valB]]
    go_enter Tryz.func88, Tryz.ntmps88
    go_wp2_with (go_at_call 74; refine (HW.out _ _ _).mono ?_; rintro e w' ⟨rfl, rfl⟩)
    go_ret
    exact ⟨rfl, rfl⟩
  by_cases h6 : k = 6
  · subst h6
    rw [show valB 6 v = btw v 10 200 by simp [valB]]
    go_enter Tryz.func88, Tryz.ntmps88
    go_wp2_with (go_at_call 74; refine (HW.out _ _ _).mono ?_; rintro e w' ⟨rfl, rfl⟩)
    go_ret
    exact ⟨rfl, rfl⟩
  by_cases h7 : k = 7
  · subst h7
    rw [show valB 7 v = btw v 1 100000 by simp [valB]]
    go_enter Tryz.func88, Tryz.ntmps88
    go_wp2_with (go_at_call 74; refine (HW.out _ _ _).mono ?_; rintro e w' ⟨rfl, rfl⟩)
    go_ret
    exact ⟨rfl, rfl⟩
  by_cases h8 : k = 8
  · subst h8
    rw [show valB 8 v = btw v 0 1000 by simp [valB]]
    go_enter Tryz.func88, Tryz.ntmps88
    go_wp2_with (go_at_call 74; refine (HW.out _ _ _).mono ?_; rintro e w' ⟨rfl, rfl⟩)
    go_ret
    exact ⟨rfl, rfl⟩
  rw [show valB k v = false by simp [valB, h1, h2, h3, h4, h5, h6, h7, h8]]
  have e1 : (k == 1) = false := by simpa using h1
  have e2 : (k == 2) = false := by simpa using h2
  have e3 : (k == 3) = false := by simpa using h3
  have e4 : (k == 4) = false := by simpa using h4
  have e5 : (k == 5) = false := by simpa using h5
  have e6 : (k == 6) = false := by simpa using h6
  have e7 : (k == 7) = false := by simpa using h7
  have e8 : (k == 8) = false := by simpa using h8
  clear HW h1 h2 h3 h4 h5 h6 h7 h8
  go_enter Tryz.func88, Tryz.ntmps88
  go_wp2
  go_ret
  exact ⟨rfl, rfl⟩
end Go.Proofs.YtiagflackfkmnaaGreat
