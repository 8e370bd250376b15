/-
  ValidRules of package sheet and of its reference. By an AI agent.
-/
import Derived.Test.YthiaefhejdfobaaGreatSheB
import Derived.Deep.RegionHeld3
import Derived.BigQuiet
namespace Go.Proofs.YthiaefhejdfobaaGreat
set_option linter.unusedVariables false
set_option linter.unusedSimpArgs false
open Go.RowKit

theorem rules_1 {a b c d e : Bool} : (a && (b && (c && (d && e)))) = (a && (b && (c && (d && (e && true))))) := by simp
set_option maxHeartbeats 1000000 in
theorem rulesS_0 (y0 y1 y2 y3 y4 : Int) (w : World) (h0 : btw y2 0 100000 = false) :
    Calls Tryz.prog 69 #[.agg #[.int .i64 y0, .int .i64 y1, .int .i64 y2, .int .i64 y3, .int .i64 y4]] w fun e w' => e = .returned (.bool false) ∧ Below w.heap.size w w' := by
  have H0 := Lib.hid (fun W => dayS_v h0 W)
  clear h0
  have i0 : ∀ w, (Instr.index 30 (.agg #[.int .i64 y2, .int .i64 y3, .int .i64 y4]) (.int .i64 0)).run Tryz.prog w = .ok (.int .i64 y2) w := fun _ => by kernel_rfl
  have i1 : ∀ w, (Instr.index 30 (.agg #[.int .i64 y2, .int .i64 y3, .int .i64 y4]) (.int .i64 1)).run Tryz.prog w = .ok (.int .i64 y3) w := fun _ => by kernel_rfl
  have i2 : ∀ w, (Instr.index 30 (.agg #[.int .i64 y2, .int .i64 y3, .int .i64 y4]) (.int .i64 2)).run Tryz.prog w = .ok (.int .i64 y4) w := fun _ => by kernel_rfl
  go_enter Tryz.func69, Tryz.ntmps69
  go_wp2_with fail
  refine wp_loop_rounds 4 ?_
  rw [rounds_succ]
  go_wp2_with fail
  refine (H0.out _).mono ?_
  rintro e w0 ⟨rfl, rfl⟩
  go_wp2_with fail
  go_ret
  exact ⟨rfl, (Below.refl _ _).alloc (Nat.le_refl _) _⟩
set_option maxHeartbeats 1000000 in
theorem rulesS_1 (y0 y1 y2 y3 y4 : Int) (w : World) (h0 : btw y2 0 100000 = true) (h1 : btw y3 0 100000 = false) :
    Calls Tryz.prog 69 #[.agg #[.int .i64 y0, .int .i64 y1, .int .i64 y2, .int .i64 y3, .int .i64 y4]] w fun e w' => e = .returned (.bool false) ∧ Below w.heap.size w w' := by
  have H0 := Lib.hid (fun W => dayS_v h0 W)
  have H1 := Lib.hid (fun W => dayS_v h1 W)
  clear h0 h1
  have i0 : ∀ w, (Instr.index 30 (.agg #[.int .i64 y2, .int .i64 y3, .int .i64 y4]) (.int .i64 0)).run Tryz.prog w = .ok (.int .i64 y2) w := fun _ => by kernel_rfl
  have i1 : ∀ w, (Instr.index 30 (.agg #[.int .i64 y2, .int .i64 y3, .int .i64 y4]) (.int .i64 1)).run Tryz.prog w = .ok (.int .i64 y3) w := fun _ => by kernel_rfl
  have i2 : ∀ w, (Instr.index 30 (.agg #[.int .i64 y2, .int .i64 y3, .int .i64 y4]) (.int .i64 2)).run Tryz.prog w = .ok (.int .i64 y4) w := fun _ => by kernel_rfl
  go_enter Tryz.func69, Tryz.ntmps69
  go_wp2_with fail
  refine wp_loop_rounds 4 ?_
  rw [rounds_succ]
  go_wp2_with fail
  refine (H0.out _).mono ?_
  rintro e w0 ⟨rfl, rfl⟩
  go_wp2_with fail
  rw [rounds_succ]
  go_wp2_with fail
  refine (H1.out _).mono ?_
  rintro e w1 ⟨rfl, rfl⟩
  go_wp2_with fail
  go_ret
  exact ⟨rfl, (Below.refl _ _).alloc (Nat.le_refl _) _⟩
set_option maxHeartbeats 1000000 in
theorem rulesS_2 (y0 y1 y2 y3 y4 : Int) (w : World) (h0 : btw y2 0 100000 = true) (h1 : btw y3 0 100000 = true) (h2 : btw y4 0 100000 = false) :
    Calls Tryz.prog 69 #[.agg #[.int .i64 y0, .int .i64 y1, .int .i64 y2, .int .i64 y3, .int .i64 y4]] w fun e w' => e = .returned (.bool false) ∧ Below w.heap.size w w' := by
  have H0 := Lib.hid (fun W => dayS_v h0 W)
  have H1 := Lib.hid (fun W => dayS_v h1 W)
  have H2 := Lib.hid (fun W => dayS_v h2 W)
  clear h0 h1 h2
  have i0 : ∀ w, (Instr.index 30 (.agg #[.int .i64 y2, .int .i64 y3, .int .i64 y4]) (.int .i64 0)).run Tryz.prog w = .ok (.int .i64 y2) w := fun _ => by kernel_rfl
  have i1 : ∀ w, (Instr.index 30 (.agg #[.int .i64 y2, .int .i64 y3, .int .i64 y4]) (.int .i64 1)).run Tryz.prog w = .ok (.int .i64 y3) w := fun _ => by kernel_rfl
  have i2 : ∀ w, (Instr.index 30 (.agg #[.int .i64 y2, .int .i64 y3, .int .i64 y4]) (.int .i64 2)).run Tryz.prog w = .ok (.int .i64 y4) w := fun _ => by kernel_rfl
  go_enter Tryz.func69, Tryz.ntmps69
  go_wp2_with fail
  refine wp_loop_rounds 4 ?_
  rw [rounds_succ]
  go_wp2_with fail
  refine (H0.out _).mono ?_
  rintro e w0 ⟨rfl, rfl⟩
  go_wp2_with fail
  rw [rounds_succ]
  go_wp2_with fail
  refine (H1.out _).mono ?_
  rintro e w1 ⟨rfl, rfl⟩
  go_wp2_with fail
  rw [rounds_succ]
  go_wp2_with fail
  refine (H2.out _).mono ?_
  rintro e w2 ⟨rfl, rfl⟩
  go_wp2_with fail
  go_ret
  exact ⟨rfl, (Below.refl _ _).alloc (Nat.le_refl _) _⟩
set_option maxHeartbeats 1000000 in
theorem rulesS_3 (y0 y1 y2 y3 y4 : Int) (w : World) (h0 : btw y2 0 100000 = true) (h1 : btw y3 0 100000 = true) (h2 : btw y4 0 100000 = true) (h3 : btw y0 1 1000 = false) :
    Calls Tryz.prog 69 #[.agg #[.int .i64 y0, .int .i64 y1, .int .i64 y2, .int .i64 y3, .int .i64 y4]] w fun e w' => e = .returned (.bool false) ∧ Below w.heap.size w w' := by
  have H0 := Lib.hid (fun W => dayS_v h0 W)
  have H1 := Lib.hid (fun W => dayS_v h1 W)
  have H2 := Lib.hid (fun W => dayS_v h2 W)
  have H3 := Lib.hid (fun W => betS_v h3 W)
  clear h0 h1 h2 h3
  have i0 : ∀ w, (Instr.index 30 (.agg #[.int .i64 y2, .int .i64 y3, .int .i64 y4]) (.int .i64 0)).run Tryz.prog w = .ok (.int .i64 y2) w := fun _ => by kernel_rfl
  have i1 : ∀ w, (Instr.index 30 (.agg #[.int .i64 y2, .int .i64 y3, .int .i64 y4]) (.int .i64 1)).run Tryz.prog w = .ok (.int .i64 y3) w := fun _ => by kernel_rfl
  have i2 : ∀ w, (Instr.index 30 (.agg #[.int .i64 y2, .int .i64 y3, .int .i64 y4]) (.int .i64 2)).run Tryz.prog w = .ok (.int .i64 y4) w := fun _ => by kernel_rfl
  go_enter Tryz.func69, Tryz.ntmps69
  go_wp2_with fail
  refine wp_loop_rounds 4 ?_
  rw [rounds_succ]
  go_wp2_with fail
  refine (H0.out _).mono ?_
  rintro e w0 ⟨rfl, rfl⟩
  go_wp2_with fail
  rw [rounds_succ]
  go_wp2_with fail
  refine (H1.out _).mono ?_
  rintro e w1 ⟨rfl, rfl⟩
  go_wp2_with fail
  rw [rounds_succ]
  go_wp2_with fail
  refine (H2.out _).mono ?_
  rintro e w2 ⟨rfl, rfl⟩
  go_wp2_with fail
  rw [rounds_succ]
  go_wp2_with fail
  refine (H3.out _).mono ?_
  rintro e w3 ⟨rfl, rfl⟩
  go_wp2_with fail
  go_ret
  exact ⟨rfl, (Below.refl _ _).alloc (Nat.le_refl _) _⟩
set_option maxHeartbeats 1000000 in
theorem rulesS_4 (y0 y1 y2 y3 y4 : Int) (w : World) (h0 : btw y2 0 100000 = true) (h1 : btw y3 0 100000 = true) (h2 : btw y4 0 100000 = true) (h3 : btw y0 1 1000 = true) (h4 : btw y1 1 1000 = false) :
    Calls Tryz.prog 69 #[.agg #[.int .i64 y0, .int .i64 y1, .int .i64 y2, .int .i64 y3, .int .i64 y4]] w fun e w' => e = .returned (.bool false) ∧ Below w.heap.size w w' := by
  have H0 := Lib.hid (fun W => dayS_v h0 W)
  have H1 := Lib.hid (fun W => dayS_v h1 W)
  have H2 := Lib.hid (fun W => dayS_v h2 W)
  have H3 := Lib.hid (fun W => betS_v h3 W)
  have H4 := Lib.hid (fun W => betS_v h4 W)
  clear h0 h1 h2 h3 h4
  have i0 : ∀ w, (Instr.index 30 (.agg #[.int .i64 y2, .int .i64 y3, .int .i64 y4]) (.int .i64 0)).run Tryz.prog w = .ok (.int .i64 y2) w := fun _ => by kernel_rfl
  have i1 : ∀ w, (Instr.index 30 (.agg #[.int .i64 y2, .int .i64 y3, .int .i64 y4]) (.int .i64 1)).run Tryz.prog w = .ok (.int .i64 y3) w := fun _ => by kernel_rfl
  have i2 : ∀ w, (Instr.index 30 (.agg #[.int .i64 y2, .int .i64 y3, .int .i64 y4]) (.int .i64 2)).run Tryz.prog w = .ok (.int .i64 y4) w := fun _ => by kernel_rfl
  go_enter Tryz.func69, Tryz.ntmps69
  go_wp2_with fail
  refine wp_loop_rounds 4 ?_
  rw [rounds_succ]
  go_wp2_with fail
  refine (H0.out _).mono ?_
  rintro e w0 ⟨rfl, rfl⟩
  go_wp2_with fail
  rw [rounds_succ]
  go_wp2_with fail
  refine (H1.out _).mono ?_
  rintro e w1 ⟨rfl, rfl⟩
  go_wp2_with fail
  rw [rounds_succ]
  go_wp2_with fail
  refine (H2.out _).mono ?_
  rintro e w2 ⟨rfl, rfl⟩
  go_wp2_with fail
  rw [rounds_succ]
  go_wp2_with fail
  refine (H3.out _).mono ?_
  rintro e w3 ⟨rfl, rfl⟩
  go_wp2_with fail
  refine (H4.out _).mono ?_
  rintro e w4 ⟨rfl, rfl⟩
  go_wp2_with fail
  go_ret
  exact ⟨rfl, (Below.refl _ _).alloc (Nat.le_refl _) _⟩
set_option maxHeartbeats 1000000 in
theorem rulesS_5 (y0 y1 y2 y3 y4 : Int) (w : World) (h0 : btw y2 0 100000 = true) (h1 : btw y3 0 100000 = true) (h2 : btw y4 0 100000 = true) (h3 : btw y0 1 1000 = true) (h4 : btw y1 1 1000 = true) :
    Calls Tryz.prog 69 #[.agg #[.int .i64 y0, .int .i64 y1, .int .i64 y2, .int .i64 y3, .int .i64 y4]] w fun e w' => e = .returned (.bool true) ∧ Below w.heap.size w w' := by
  have H0 := Lib.hid (fun W => dayS_v h0 W)
  have H1 := Lib.hid (fun W => dayS_v h1 W)
  have H2 := Lib.hid (fun W => dayS_v h2 W)
  have H3 := Lib.hid (fun W => betS_v h3 W)
  have H4 := Lib.hid (fun W => betS_v h4 W)
  clear h0 h1 h2 h3 h4
  have i0 : ∀ w, (Instr.index 30 (.agg #[.int .i64 y2, .int .i64 y3, .int .i64 y4]) (.int .i64 0)).run Tryz.prog w = .ok (.int .i64 y2) w := fun _ => by kernel_rfl
  have i1 : ∀ w, (Instr.index 30 (.agg #[.int .i64 y2, .int .i64 y3, .int .i64 y4]) (.int .i64 1)).run Tryz.prog w = .ok (.int .i64 y3) w := fun _ => by kernel_rfl
  have i2 : ∀ w, (Instr.index 30 (.agg #[.int .i64 y2, .int .i64 y3, .int .i64 y4]) (.int .i64 2)).run Tryz.prog w = .ok (.int .i64 y4) w := fun _ => by kernel_rfl
  go_enter Tryz.func69, Tryz.ntmps69
  go_wp2_with fail
  refine wp_loop_rounds 4 ?_
  rw [rounds_succ]
  go_wp2_with fail
  refine (H0.out _).mono ?_
  rintro e w0 ⟨rfl, rfl⟩
  go_wp2_with fail
  rw [rounds_succ]
  go_wp2_with fail
  refine (H1.out _).mono ?_
  rintro e w1 ⟨rfl, rfl⟩
  go_wp2_with fail
  rw [rounds_succ]
  go_wp2_with fail
  refine (H2.out _).mono ?_
  rintro e w2 ⟨rfl, rfl⟩
  go_wp2_with fail
  rw [rounds_succ]
  go_wp2_with fail
  refine (H3.out _).mono ?_
  rintro e w3 ⟨rfl, rfl⟩
  go_wp2_with fail
  refine (H4.out _).mono ?_
  rintro e w4 ⟨rfl, rfl⟩
  go_wp2_with fail
  go_ret
  exact ⟨rfl, (Below.refl _ _).alloc (Nat.le_refl _) _⟩
theorem rulesS_any (y0 y1 y2 y3 y4 : Int) (w : World) :
    Calls Tryz.prog 69 #[.agg #[.int .i64 y0, .int .i64 y1, .int .i64 y2, .int .i64 y3, .int .i64 y4]] w fun e w' => e = .returned (.bool (rulesB y0 y1 y2 y3 y4)) ∧ Below w.heap.size w w' := by
  unfold rulesB
  rw [rules_1]
  cases h0 : btw y2 0 100000 with
  | false => exact rulesS_0 y0 y1 y2 y3 y4 w h0
  | true =>
    cases h1 : btw y3 0 100000 with
    | false => exact rulesS_1 y0 y1 y2 y3 y4 w h0 h1
    | true =>
      cases h2 : btw y4 0 100000 with
      | false => exact rulesS_2 y0 y1 y2 y3 y4 w h0 h1 h2
      | true =>
        cases h3 : btw y0 1 1000 with
        | false => exact rulesS_3 y0 y1 y2 y3 y4 w h0 h1 h2 h3
        | true =>
          cases h4 : btw y1 1 1000 with
          | false => exact rulesS_4 y0 y1 y2 y3 y4 w h0 h1 h2 h3 h4
          | true =>
            exact rulesS_5 y0 y1 y2 y3 y4 w h0 h1 h2 h3 h4
end Go.Proofs.YthiaefhejdfobaaGreat
