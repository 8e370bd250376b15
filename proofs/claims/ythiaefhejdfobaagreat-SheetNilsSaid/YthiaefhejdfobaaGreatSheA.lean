/-
  between, dayValid, sheetValid of package sheet; from, measures of its reference. By an AI agent.
-/
import Derived.Test.YthiaefhejdfobaaGreatLightA
import Derived.Test.YthiaefhejdfobaaGreatSheM
import Derived.Deep.RegionHeld3
import Derived.BigQuiet
namespace Go.Proofs.YthiaefhejdfobaaGreat
set_option linter.unusedVariables false
set_option linter.unusedSimpArgs false
open Go.RowKit

set_option maxHeartbeats 400000 in
theorem betS_any (n a b : Int) (w : World) :
    Calls Tryz.prog 30 #[.int .i64 n, .int .i64 a, .int .i64 b] w fun e w' => e = .returned (.bool (btw n a b)) ∧ w = w' := by
  by_cases h1 : a ≤ n
  · by_cases h2 : n ≤ b
    · rw [(btw_iff n a b).2 ⟨h1, h2⟩]
      go_enter Tryz.func30, Tryz.ntmps30
      go_wp2
      go_ret
      exact ⟨rfl, rfl⟩
    · rw [(btw_false n a b).2 (fun h => h2 h.2)]
      go_enter Tryz.func30, Tryz.ntmps30
      go_wp2
      go_ret
      exact ⟨rfl, rfl⟩
  · rw [(btw_false n a b).2 (fun h => h1 h.1)]
    go_enter Tryz.func30, Tryz.ntmps30
    go_wp2
    go_ret
    exact ⟨rfl, rfl⟩
theorem betS_v {n a b : Int} {v : Bool} (h : btw n a b = v) (w : World) :
    Calls Tryz.prog 30 #[.int .i64 n, .int .i64 a, .int .i64 b] w fun e w' => e = .returned (.bool v) ∧ w = w' := by
  rw [← h]; exact betS_any n a b w
theorem dayS_any (d : Int) (w : World) : Calls Tryz.prog 20 #[.int .i64 d] w fun e w' => e = .returned (.bool (btw d 0 100000)) ∧ w = w' := by
  have H := Lib.hid (fun W => betS_any d 0 100000 W)
  generalize btw d 0 100000 = v at *
  go_enter Tryz.func20, Tryz.ntmps20
  go_wp2_with fail
  refine (H.out _).mono ?_
  rintro e w1 ⟨rfl, rfl⟩
  go_wp2_with fail
  go_ret
  exact ⟨rfl, rfl⟩
theorem dayS_v {d : Int} {v : Bool} (h : btw d 0 100000 = v) (w : World) : Calls Tryz.prog 20 #[.int .i64 d] w fun e w' => e = .returned (.bool v) ∧ w = w' := by
  rw [← h]; exact dayS_any d w
def shB (g c wd ln : Int) : Bool := btw g 1 3 && (btw c 1 7 && (btw wd 1 150 && btw ln 1 6000))
theorem shB_1 {a b c d : Bool} : (a && (b && (c && d))) = (a && (b && (c && (d && true)))) := by simp
theorem sheetV_0 (g c wd ln : Int) (w : World) (h0 : btw g 1 3 = false) :
    Calls Tryz.prog 47 #[.int .i64 g, .int .i64 c, .int .i64 wd, .int .i64 ln] w fun e w' => e = .returned (.bool false) ∧ w = w' := by
  have H0 := Lib.hid (fun W => betS_v h0 W)
  clear h0
  go_enter Tryz.func47, Tryz.ntmps47
  go_wp2_with fail
  refine (H0.out _).mono ?_
  rintro e w0 ⟨rfl, rfl⟩
  go_wp2_with fail
  go_ret
  exact ⟨rfl, rfl⟩
theorem sheetV_1 (g c wd ln : Int) (w : World) (h0 : btw g 1 3 = true) (h1 : btw c 1 7 = false) :
    Calls Tryz.prog 47 #[.int .i64 g, .int .i64 c, .int .i64 wd, .int .i64 ln] w fun e w' => e = .returned (.bool false) ∧ w = w' := by
  have H0 := Lib.hid (fun W => betS_v h0 W)
  have H1 := Lib.hid (fun W => betS_v h1 W)
  clear h0 h1
  go_enter Tryz.func47, Tryz.ntmps47
  go_wp2_with fail
  refine (H0.out _).mono ?_
  rintro e w0 ⟨rfl, rfl⟩
  go_wp2_with fail
  refine (H1.out _).mono ?_
  rintro e w1 ⟨rfl, rfl⟩
  go_wp2_with fail
  go_ret
  exact ⟨rfl, rfl⟩
theorem sheetV_2 (g c wd ln : Int) (w : World) (h0 : btw g 1 3 = true) (h1 : btw c 1 7 = true) (h2 : btw wd 1 150 = false) :
    Calls Tryz.prog 47 #[.int .i64 g, .int .i64 c, .int .i64 wd, .int .i64 ln] w fun e w' => e = .returned (.bool false) ∧ w = w' := by
  have H0 := Lib.hid (fun W => betS_v h0 W)
  have H1 := Lib.hid (fun W => betS_v h1 W)
  have H2 := Lib.hid (fun W => betS_v h2 W)
  clear h0 h1 h2
  go_enter Tryz.func47, Tryz.ntmps47
  go_wp2_with fail
  refine (H0.out _).mono ?_
  rintro e w0 ⟨rfl, rfl⟩
  go_wp2_with fail
  refine (H1.out _).mono ?_
  rintro e w1 ⟨rfl, rfl⟩
  go_wp2_with fail
  refine (H2.out _).mono ?_
  rintro e w2 ⟨rfl, rfl⟩
  go_wp2_with fail
  go_ret
  exact ⟨rfl, rfl⟩
theorem sheetV_3 (g c wd ln : Int) (w : World) (h0 : btw g 1 3 = true) (h1 : btw c 1 7 = true) (h2 : btw wd 1 150 = true) (h3 : btw ln 1 6000 = false) :
    Calls Tryz.prog 47 #[.int .i64 g, .int .i64 c, .int .i64 wd, .int .i64 ln] w fun e w' => e = .returned (.bool false) ∧ w = w' := by
  have H0 := Lib.hid (fun W => betS_v h0 W)
  have H1 := Lib.hid (fun W => betS_v h1 W)
  have H2 := Lib.hid (fun W => betS_v h2 W)
  have H3 := Lib.hid (fun W => betS_v h3 W)
  clear h0 h1 h2 h3
  go_enter Tryz.func47, Tryz.ntmps47
  go_wp2_with fail
  refine (H0.out _).mono ?_
  rintro e w0 ⟨rfl, rfl⟩
  go_wp2_with fail
  refine (H1.out _).mono ?_
  rintro e w1 ⟨rfl, rfl⟩
  go_wp2_with fail
  refine (H2.out _).mono ?_
  rintro e w2 ⟨rfl, rfl⟩
  go_wp2_with fail
  refine (H3.out _).mono ?_
  rintro e w3 ⟨rfl, rfl⟩
  go_wp2_with fail
  go_ret
  exact ⟨rfl, rfl⟩
theorem sheetV_4 (g c wd ln : Int) (w : World) (h0 : btw g 1 3 = true) (h1 : btw c 1 7 = true) (h2 : btw wd 1 150 = true) (h3 : btw ln 1 6000 = true) :
    Calls Tryz.prog 47 #[.int .i64 g, .int .i64 c, .int .i64 wd, .int .i64 ln] w fun e w' => e = .returned (.bool true) ∧ w = w' := by
  have H0 := Lib.hid (fun W => betS_v h0 W)
  have H1 := Lib.hid (fun W => betS_v h1 W)
  have H2 := Lib.hid (fun W => betS_v h2 W)
  have H3 := Lib.hid (fun W => betS_v h3 W)
  clear h0 h1 h2 h3
  go_enter Tryz.func47, Tryz.ntmps47
  go_wp2_with fail
  refine (H0.out _).mono ?_
  rintro e w0 ⟨rfl, rfl⟩
  go_wp2_with fail
  refine (H1.out _).mono ?_
  rintro e w1 ⟨rfl, rfl⟩
  go_wp2_with fail
  refine (H2.out _).mono ?_
  rintro e w2 ⟨rfl, rfl⟩
  go_wp2_with fail
  refine (H3.out _).mono ?_
  rintro e w3 ⟨rfl, rfl⟩
  go_wp2_with fail
  go_ret
  exact ⟨rfl, rfl⟩
theorem sheetV_any (g c wd ln : Int) (w : World) :
    Calls Tryz.prog 47 #[.int .i64 g, .int .i64 c, .int .i64 wd, .int .i64 ln] w fun e w' => e = .returned (.bool (shB g c wd ln)) ∧ w = w' := by
  unfold shB
  rw [shB_1]
  cases h0 : btw g 1 3 with
  | false => exact sheetV_0 g c wd ln w h0
  | true =>
    cases h1 : btw c 1 7 with
    | false => exact sheetV_1 g c wd ln w h0 h1
    | true =>
      cases h2 : btw wd 1 150 with
      | false => exact sheetV_2 g c wd ln w h0 h1 h2
      | true =>
        cases h3 : btw ln 1 6000 with
        | false => exact sheetV_3 g c wd ln w h0 h1 h2 h3
        | true =>
          exact sheetV_4 g c wd ln w h0 h1 h2 h3
theorem sheetV_v (g c wd ln : Int) {v : Bool} (h : shB g c wd ln = v) (w : World) :
    Calls Tryz.prog 47 #[.int .i64 g, .int .i64 c, .int .i64 wd, .int .i64 ln] w fun e w' => e = .returned (.bool v) ∧ w = w' := by
  rw [← h]; exact sheetV_any g c wd ln w
end Go.Proofs.YthiaefhejdfobaaGreat
