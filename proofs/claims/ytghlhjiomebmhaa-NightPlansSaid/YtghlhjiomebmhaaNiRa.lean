/-
  Job and Night of the reference of package night. By an AI agent.
-/
import Derived.Test.YtghlhjiomebmhaaNightDaysW
import Derived.Deep.RegionHeld3
import Derived.BigQuiet
namespace Go.Proofs.Ytghlhjiomebmhaa
set_option linter.unusedVariables false
set_option linter.unusedSimpArgs false
open Go.RowKit

theorem jobB_ref (s : Jo) : jobB s = (btw s.n 1 1000000000 && (btw s.r 1 1000000 && (btw s.c 0 10000000 && (btw s.f 0 s.l && (decide (s.l ≤ 100000) && (btw s.w 1 9)))))) := by
  rw [Bool.eq_iff_iff]
  simp only [jobB, placeB, Bool.and_eq_true, btw_iff, decide_eq_true_eq]
  omega
theorem nightB_ref (s : Ni) : nightB s = (btw s.d 0 100000 && (btw s.r 1 1000000 && (btw s.f 0 s.t && (decide (s.t ≤ 10000000) && (btw s.w 1 9 && (btw s.p 0 100)))))) := by
  rw [Bool.eq_iff_iff]
  simp only [nightB, placeB, Bool.and_eq_true, btw_iff, decide_eq_true_eq]
  omega
theorem refJob_0 (s : Jo) (w : World) (h0 : btw s.n 1 1000000000 = false) :
    Calls Try.prog 54 #[.agg #[.int .i64 s.n, .int .i64 s.r, .int .i64 s.c, .int .i64 s.f, .int .i64 s.l, .int .i64 s.w, .bool s.dy, .bool s.wm]] w fun e w' => e = .returned (.bool false) ∧ Below w.heap.size w w' := by
  have H0 := Lib.hid (fun W => refFrom_v h0 W)
  clear h0
  have hb := (Below.refl w.heap.size w).alloc (Nat.le_refl _) (.cells #[.int .i64 s.n, .int .i64 s.r, .int .i64 s.c, .int .i64 s.f, .int .i64 s.l, .int .i64 s.w, .bool s.dy, .bool s.wm] 43)
  go_enter Try.func54, Try.ntmps54
  go_wp2_with fail
  refine (H0.out _).mono ?_
  rintro e w0 ⟨rfl, rfl⟩
  go_wp2_with fail
  go_ret
  exact ⟨rfl, hb⟩
theorem refJob_1 (s : Jo) (w : World) (h0 : btw s.n 1 1000000000 = true) (h1 : btw s.r 1 1000000 = false) :
    Calls Try.prog 54 #[.agg #[.int .i64 s.n, .int .i64 s.r, .int .i64 s.c, .int .i64 s.f, .int .i64 s.l, .int .i64 s.w, .bool s.dy, .bool s.wm]] w fun e w' => e = .returned (.bool false) ∧ Below w.heap.size w w' := by
  have H0 := Lib.hid (fun W => refFrom_v h0 W)
  have H1 := Lib.hid (fun W => refFrom_v h1 W)
  clear h0 h1
  have hb := (Below.refl w.heap.size w).alloc (Nat.le_refl _) (.cells #[.int .i64 s.n, .int .i64 s.r, .int .i64 s.c, .int .i64 s.f, .int .i64 s.l, .int .i64 s.w, .bool s.dy, .bool s.wm] 43)
  go_enter Try.func54, Try.ntmps54
  go_wp2_with fail
  refine (H0.out _).mono ?_
  rintro e w0 ⟨rfl, rfl⟩
  go_wp2_with fail
  refine (H1.out _).mono ?_
  rintro e w1 ⟨rfl, rfl⟩
  go_wp2_with fail
  go_ret
  exact ⟨rfl, hb⟩
theorem refJob_2 (s : Jo) (w : World) (h0 : btw s.n 1 1000000000 = true) (h1 : btw s.r 1 1000000 = true) (h2 : btw s.c 0 10000000 = false) :
    Calls Try.prog 54 #[.agg #[.int .i64 s.n, .int .i64 s.r, .int .i64 s.c, .int .i64 s.f, .int .i64 s.l, .int .i64 s.w, .bool s.dy, .bool s.wm]] w fun e w' => e = .returned (.bool false) ∧ Below w.heap.size w w' := by
  have H0 := Lib.hid (fun W => refFrom_v h0 W)
  have H1 := Lib.hid (fun W => refFrom_v h1 W)
  have H2 := Lib.hid (fun W => refFrom_v h2 W)
  clear h0 h1 h2
  have hb := (Below.refl w.heap.size w).alloc (Nat.le_refl _) (.cells #[.int .i64 s.n, .int .i64 s.r, .int .i64 s.c, .int .i64 s.f, .int .i64 s.l, .int .i64 s.w, .bool s.dy, .bool s.wm] 43)
  go_enter Try.func54, Try.ntmps54
  go_wp2_with fail
  refine (H0.out _).mono ?_
  rintro e w0 ⟨rfl, rfl⟩
  go_wp2_with fail
  refine (H1.out _).mono ?_
  rintro e w1 ⟨rfl, rfl⟩
  go_wp2_with fail
  refine (H2.out _).mono ?_
  rintro e w2 ⟨rfl, rfl⟩
  go_wp2_with fail
  go_ret
  exact ⟨rfl, hb⟩
theorem refJob_3 (s : Jo) (w : World) (h0 : btw s.n 1 1000000000 = true) (h1 : btw s.r 1 1000000 = true) (h2 : btw s.c 0 10000000 = true) (h3 : btw s.f 0 s.l = false) :
    Calls Try.prog 54 #[.agg #[.int .i64 s.n, .int .i64 s.r, .int .i64 s.c, .int .i64 s.f, .int .i64 s.l, .int .i64 s.w, .bool s.dy, .bool s.wm]] w fun e w' => e = .returned (.bool false) ∧ Below w.heap.size w w' := by
  have H0 := Lib.hid (fun W => refFrom_v h0 W)
  have H1 := Lib.hid (fun W => refFrom_v h1 W)
  have H2 := Lib.hid (fun W => refFrom_v h2 W)
  have H3 := Lib.hid (fun W => refFrom_v h3 W)
  clear h0 h1 h2 h3
  have hb := (Below.refl w.heap.size w).alloc (Nat.le_refl _) (.cells #[.int .i64 s.n, .int .i64 s.r, .int .i64 s.c, .int .i64 s.f, .int .i64 s.l, .int .i64 s.w, .bool s.dy, .bool s.wm] 43)
  go_enter Try.func54, Try.ntmps54
  go_wp2_with fail
  refine (H0.out _).mono ?_
  rintro e w0 ⟨rfl, rfl⟩
  go_wp2_with fail
  refine (H1.out _).mono ?_
  rintro e w1 ⟨rfl, rfl⟩
  go_wp2_with fail
  refine (H2.out _).mono ?_
  rintro e w2 ⟨rfl, rfl⟩
  go_wp2_with fail
  refine (H3.out _).mono ?_
  rintro e w3 ⟨rfl, rfl⟩
  go_wp2_with fail
  go_ret
  exact ⟨rfl, hb⟩
theorem refJob_4 (s : Jo) (w : World) (h0 : btw s.n 1 1000000000 = true) (h1 : btw s.r 1 1000000 = true) (h2 : btw s.c 0 10000000 = true) (h3 : btw s.f 0 s.l = true) (h4 : decide (s.l ≤ 100000) = false) :
    Calls Try.prog 54 #[.agg #[.int .i64 s.n, .int .i64 s.r, .int .i64 s.c, .int .i64 s.f, .int .i64 s.l, .int .i64 s.w, .bool s.dy, .bool s.wm]] w fun e w' => e = .returned (.bool false) ∧ Below w.heap.size w w' := by
  have H0 := Lib.hid (fun W => refFrom_v h0 W)
  have H1 := Lib.hid (fun W => refFrom_v h1 W)
  have H2 := Lib.hid (fun W => refFrom_v h2 W)
  have H3 := Lib.hid (fun W => refFrom_v h3 W)
  clear h0 h1 h2 h3
  have hb := (Below.refl w.heap.size w).alloc (Nat.le_refl _) (.cells #[.int .i64 s.n, .int .i64 s.r, .int .i64 s.c, .int .i64 s.f, .int .i64 s.l, .int .i64 s.w, .bool s.dy, .bool s.wm] 43)
  go_enter Try.func54, Try.ntmps54
  go_wp2_with fail
  refine (H0.out _).mono ?_
  rintro e w0 ⟨rfl, rfl⟩
  go_wp2_with fail
  refine (H1.out _).mono ?_
  rintro e w1 ⟨rfl, rfl⟩
  go_wp2_with fail
  refine (H2.out _).mono ?_
  rintro e w2 ⟨rfl, rfl⟩
  go_wp2_with fail
  refine (H3.out _).mono ?_
  rintro e w3 ⟨rfl, rfl⟩
  go_wp2_with fail
  go_ret
  exact ⟨rfl, hb⟩
theorem refJob_5 (s : Jo) (w : World) (h0 : btw s.n 1 1000000000 = true) (h1 : btw s.r 1 1000000 = true) (h2 : btw s.c 0 10000000 = true) (h3 : btw s.f 0 s.l = true) (h4 : decide (s.l ≤ 100000) = true) (h5 : btw s.w 1 9 = false) :
    Calls Try.prog 54 #[.agg #[.int .i64 s.n, .int .i64 s.r, .int .i64 s.c, .int .i64 s.f, .int .i64 s.l, .int .i64 s.w, .bool s.dy, .bool s.wm]] w fun e w' => e = .returned (.bool false) ∧ Below w.heap.size w w' := by
  have H0 := Lib.hid (fun W => refFrom_v h0 W)
  have H1 := Lib.hid (fun W => refFrom_v h1 W)
  have H2 := Lib.hid (fun W => refFrom_v h2 W)
  have H3 := Lib.hid (fun W => refFrom_v h3 W)
  have H5 := Lib.hid (fun W => refFrom_v h5 W)
  clear h0 h1 h2 h3 h5
  have hb := (Below.refl w.heap.size w).alloc (Nat.le_refl _) (.cells #[.int .i64 s.n, .int .i64 s.r, .int .i64 s.c, .int .i64 s.f, .int .i64 s.l, .int .i64 s.w, .bool s.dy, .bool s.wm] 43)
  go_enter Try.func54, Try.ntmps54
  go_wp2_with fail
  refine (H0.out _).mono ?_
  rintro e w0 ⟨rfl, rfl⟩
  go_wp2_with fail
  refine (H1.out _).mono ?_
  rintro e w1 ⟨rfl, rfl⟩
  go_wp2_with fail
  refine (H2.out _).mono ?_
  rintro e w2 ⟨rfl, rfl⟩
  go_wp2_with fail
  refine (H3.out _).mono ?_
  rintro e w3 ⟨rfl, rfl⟩
  go_wp2_with fail
  refine (H5.out _).mono ?_
  rintro e w5 ⟨rfl, rfl⟩
  go_wp2_with fail
  go_ret
  exact ⟨rfl, hb⟩
theorem refJob_6 (s : Jo) (w : World) (h0 : btw s.n 1 1000000000 = true) (h1 : btw s.r 1 1000000 = true) (h2 : btw s.c 0 10000000 = true) (h3 : btw s.f 0 s.l = true) (h4 : decide (s.l ≤ 100000) = true) (h5 : btw s.w 1 9 = true) :
    Calls Try.prog 54 #[.agg #[.int .i64 s.n, .int .i64 s.r, .int .i64 s.c, .int .i64 s.f, .int .i64 s.l, .int .i64 s.w, .bool s.dy, .bool s.wm]] w fun e w' => e = .returned (.bool true) ∧ Below w.heap.size w w' := by
  have H0 := Lib.hid (fun W => refFrom_v h0 W)
  have H1 := Lib.hid (fun W => refFrom_v h1 W)
  have H2 := Lib.hid (fun W => refFrom_v h2 W)
  have H3 := Lib.hid (fun W => refFrom_v h3 W)
  have H5 := Lib.hid (fun W => refFrom_v h5 W)
  clear h0 h1 h2 h3 h5
  have hb := (Below.refl w.heap.size w).alloc (Nat.le_refl _) (.cells #[.int .i64 s.n, .int .i64 s.r, .int .i64 s.c, .int .i64 s.f, .int .i64 s.l, .int .i64 s.w, .bool s.dy, .bool s.wm] 43)
  go_enter Try.func54, Try.ntmps54
  go_wp2_with fail
  refine (H0.out _).mono ?_
  rintro e w0 ⟨rfl, rfl⟩
  go_wp2_with fail
  refine (H1.out _).mono ?_
  rintro e w1 ⟨rfl, rfl⟩
  go_wp2_with fail
  refine (H2.out _).mono ?_
  rintro e w2 ⟨rfl, rfl⟩
  go_wp2_with fail
  refine (H3.out _).mono ?_
  rintro e w3 ⟨rfl, rfl⟩
  go_wp2_with fail
  refine (H5.out _).mono ?_
  rintro e w5 ⟨rfl, rfl⟩
  go_wp2_with fail
  go_ret
  exact ⟨rfl, hb⟩
theorem refJob_r (s : Jo) (w : World) :
    Calls Try.prog 54 #[.agg #[.int .i64 s.n, .int .i64 s.r, .int .i64 s.c, .int .i64 s.f, .int .i64 s.l, .int .i64 s.w, .bool s.dy, .bool s.wm]] w fun e w' => e = .returned (.bool (jobB s)) ∧ Below w.heap.size w w' := by
  rw [jobB_ref]
  cases h0 : btw s.n 1 1000000000 with
  | false => exact refJob_0 s w h0
  | true =>
    cases h1 : btw s.r 1 1000000 with
    | false => exact refJob_1 s w h0 h1
    | true =>
      cases h2 : btw s.c 0 10000000 with
      | false => exact refJob_2 s w h0 h1 h2
      | true =>
        cases h3 : btw s.f 0 s.l with
        | false => exact refJob_3 s w h0 h1 h2 h3
        | true =>
          cases h4 : decide (s.l ≤ 100000) with
          | false => exact refJob_4 s w h0 h1 h2 h3 h4
          | true =>
            cases h5 : btw s.w 1 9 with
            | false => exact refJob_5 s w h0 h1 h2 h3 h4 h5
            | true =>
              exact refJob_6 s w h0 h1 h2 h3 h4 h5
theorem refNight_0 (s : Ni) (w : World) (h0 : btw s.d 0 100000 = false) :
    Calls Try.prog 55 #[.agg #[.int .i64 s.d, .int .i64 s.r, .int .i64 s.f, .int .i64 s.t, .int .i64 s.w, .int .i64 s.p, .bool s.rn, .bool s.fr]] w fun e w' => e = .returned (.bool false) ∧ Below w.heap.size w w' := by
  have H0 := Lib.hid (fun W => refFrom_v h0 W)
  clear h0
  have hb := (Below.refl w.heap.size w).alloc (Nat.le_refl _) (.cells #[.int .i64 s.d, .int .i64 s.r, .int .i64 s.f, .int .i64 s.t, .int .i64 s.w, .int .i64 s.p, .bool s.rn, .bool s.fr] 51)
  go_enter Try.func55, Try.ntmps55
  go_wp2_with fail
  refine (H0.out _).mono ?_
  rintro e w0 ⟨rfl, rfl⟩
  go_wp2_with fail
  go_ret
  exact ⟨rfl, hb⟩
theorem refNight_1 (s : Ni) (w : World) (h0 : btw s.d 0 100000 = true) (h1 : btw s.r 1 1000000 = false) :
    Calls Try.prog 55 #[.agg #[.int .i64 s.d, .int .i64 s.r, .int .i64 s.f, .int .i64 s.t, .int .i64 s.w, .int .i64 s.p, .bool s.rn, .bool s.fr]] w fun e w' => e = .returned (.bool false) ∧ Below w.heap.size w w' := by
  have H0 := Lib.hid (fun W => refFrom_v h0 W)
  have H1 := Lib.hid (fun W => refFrom_v h1 W)
  clear h0 h1
  have hb := (Below.refl w.heap.size w).alloc (Nat.le_refl _) (.cells #[.int .i64 s.d, .int .i64 s.r, .int .i64 s.f, .int .i64 s.t, .int .i64 s.w, .int .i64 s.p, .bool s.rn, .bool s.fr] 51)
  go_enter Try.func55, Try.ntmps55
  go_wp2_with fail
  refine (H0.out _).mono ?_
  rintro e w0 ⟨rfl, rfl⟩
  go_wp2_with fail
  refine (H1.out _).mono ?_
  rintro e w1 ⟨rfl, rfl⟩
  go_wp2_with fail
  go_ret
  exact ⟨rfl, hb⟩
theorem refNight_2 (s : Ni) (w : World) (h0 : btw s.d 0 100000 = true) (h1 : btw s.r 1 1000000 = true) (h2 : btw s.f 0 s.t = false) :
    Calls Try.prog 55 #[.agg #[.int .i64 s.d, .int .i64 s.r, .int .i64 s.f, .int .i64 s.t, .int .i64 s.w, .int .i64 s.p, .bool s.rn, .bool s.fr]] w fun e w' => e = .returned (.bool false) ∧ Below w.heap.size w w' := by
  have H0 := Lib.hid (fun W => refFrom_v h0 W)
  have H1 := Lib.hid (fun W => refFrom_v h1 W)
  have H2 := Lib.hid (fun W => refFrom_v h2 W)
  clear h0 h1 h2
  have hb := (Below.refl w.heap.size w).alloc (Nat.le_refl _) (.cells #[.int .i64 s.d, .int .i64 s.r, .int .i64 s.f, .int .i64 s.t, .int .i64 s.w, .int .i64 s.p, .bool s.rn, .bool s.fr] 51)
  go_enter Try.func55, Try.ntmps55
  go_wp2_with fail
  refine (H0.out _).mono ?_
  rintro e w0 ⟨rfl, rfl⟩
  go_wp2_with fail
  refine (H1.out _).mono ?_
  rintro e w1 ⟨rfl, rfl⟩
  go_wp2_with fail
  refine (H2.out _).mono ?_
  rintro e w2 ⟨rfl, rfl⟩
  go_wp2_with fail
  go_ret
  exact ⟨rfl, hb⟩
theorem refNight_3 (s : Ni) (w : World) (h0 : btw s.d 0 100000 = true) (h1 : btw s.r 1 1000000 = true) (h2 : btw s.f 0 s.t = true) (h3 : decide (s.t ≤ 10000000) = false) :
    Calls Try.prog 55 #[.agg #[.int .i64 s.d, .int .i64 s.r, .int .i64 s.f, .int .i64 s.t, .int .i64 s.w, .int .i64 s.p, .bool s.rn, .bool s.fr]] w fun e w' => e = .returned (.bool false) ∧ Below w.heap.size w w' := by
  have H0 := Lib.hid (fun W => refFrom_v h0 W)
  have H1 := Lib.hid (fun W => refFrom_v h1 W)
  have H2 := Lib.hid (fun W => refFrom_v h2 W)
  clear h0 h1 h2
  have hb := (Below.refl w.heap.size w).alloc (Nat.le_refl _) (.cells #[.int .i64 s.d, .int .i64 s.r, .int .i64 s.f, .int .i64 s.t, .int .i64 s.w, .int .i64 s.p, .bool s.rn, .bool s.fr] 51)
  go_enter Try.func55, Try.ntmps55
  go_wp2_with fail
  refine (H0.out _).mono ?_
  rintro e w0 ⟨rfl, rfl⟩
  go_wp2_with fail
  refine (H1.out _).mono ?_
  rintro e w1 ⟨rfl, rfl⟩
  go_wp2_with fail
  refine (H2.out _).mono ?_
  rintro e w2 ⟨rfl, rfl⟩
  go_wp2_with fail
  go_ret
  exact ⟨rfl, hb⟩
theorem refNight_4 (s : Ni) (w : World) (h0 : btw s.d 0 100000 = true) (h1 : btw s.r 1 1000000 = true) (h2 : btw s.f 0 s.t = true) (h3 : decide (s.t ≤ 10000000) = true) (h4 : btw s.w 1 9 = false) :
    Calls Try.prog 55 #[.agg #[.int .i64 s.d, .int .i64 s.r, .int .i64 s.f, .int .i64 s.t, .int .i64 s.w, .int .i64 s.p, .bool s.rn, .bool s.fr]] w fun e w' => e = .returned (.bool false) ∧ Below w.heap.size w w' := by
  have H0 := Lib.hid (fun W => refFrom_v h0 W)
  have H1 := Lib.hid (fun W => refFrom_v h1 W)
  have H2 := Lib.hid (fun W => refFrom_v h2 W)
  have H4 := Lib.hid (fun W => refFrom_v h4 W)
  clear h0 h1 h2 h4
  have hb := (Below.refl w.heap.size w).alloc (Nat.le_refl _) (.cells #[.int .i64 s.d, .int .i64 s.r, .int .i64 s.f, .int .i64 s.t, .int .i64 s.w, .int .i64 s.p, .bool s.rn, .bool s.fr] 51)
  go_enter Try.func55, Try.ntmps55
  go_wp2_with fail
  refine (H0.out _).mono ?_
  rintro e w0 ⟨rfl, rfl⟩
  go_wp2_with fail
  refine (H1.out _).mono ?_
  rintro e w1 ⟨rfl, rfl⟩
  go_wp2_with fail
  refine (H2.out _).mono ?_
  rintro e w2 ⟨rfl, rfl⟩
  go_wp2_with fail
  refine (H4.out _).mono ?_
  rintro e w4 ⟨rfl, rfl⟩
  go_wp2_with fail
  go_ret
  exact ⟨rfl, hb⟩
theorem refNight_5 (s : Ni) (w : World) (h0 : btw s.d 0 100000 = true) (h1 : btw s.r 1 1000000 = true) (h2 : btw s.f 0 s.t = true) (h3 : decide (s.t ≤ 10000000) = true) (h4 : btw s.w 1 9 = true) (h5 : btw s.p 0 100 = false) :
    Calls Try.prog 55 #[.agg #[.int .i64 s.d, .int .i64 s.r, .int .i64 s.f, .int .i64 s.t, .int .i64 s.w, .int .i64 s.p, .bool s.rn, .bool s.fr]] w fun e w' => e = .returned (.bool false) ∧ Below w.heap.size w w' := by
  have H0 := Lib.hid (fun W => refFrom_v h0 W)
  have H1 := Lib.hid (fun W => refFrom_v h1 W)
  have H2 := Lib.hid (fun W => refFrom_v h2 W)
  have H4 := Lib.hid (fun W => refFrom_v h4 W)
  have H5 := Lib.hid (fun W => refFrom_v h5 W)
  clear h0 h1 h2 h4 h5
  have hb := (Below.refl w.heap.size w).alloc (Nat.le_refl _) (.cells #[.int .i64 s.d, .int .i64 s.r, .int .i64 s.f, .int .i64 s.t, .int .i64 s.w, .int .i64 s.p, .bool s.rn, .bool s.fr] 51)
  go_enter Try.func55, Try.ntmps55
  go_wp2_with fail
  refine (H0.out _).mono ?_
  rintro e w0 ⟨rfl, rfl⟩
  go_wp2_with fail
  refine (H1.out _).mono ?_
  rintro e w1 ⟨rfl, rfl⟩
  go_wp2_with fail
  refine (H2.out _).mono ?_
  rintro e w2 ⟨rfl, rfl⟩
  go_wp2_with fail
  refine (H4.out _).mono ?_
  rintro e w4 ⟨rfl, rfl⟩
  go_wp2_with fail
  refine (H5.out _).mono ?_
  rintro e w5 ⟨rfl, rfl⟩
  go_wp2_with fail
  go_ret
  exact ⟨rfl, hb⟩
theorem refNight_6 (s : Ni) (w : World) (h0 : btw s.d 0 100000 = true) (h1 : btw s.r 1 1000000 = true) (h2 : btw s.f 0 s.t = true) (h3 : decide (s.t ≤ 10000000) = true) (h4 : btw s.w 1 9 = true) (h5 : btw s.p 0 100 = true) :
    Calls Try.prog 55 #[.agg #[.int .i64 s.d, .int .i64 s.r, .int .i64 s.f, .int .i64 s.t, .int .i64 s.w, .int .i64 s.p, .bool s.rn, .bool s.fr]] w fun e w' => e = .returned (.bool true) ∧ Below w.heap.size w w' := by
  have H0 := Lib.hid (fun W => refFrom_v h0 W)
  have H1 := Lib.hid (fun W => refFrom_v h1 W)
  have H2 := Lib.hid (fun W => refFrom_v h2 W)
  have H4 := Lib.hid (fun W => refFrom_v h4 W)
  have H5 := Lib.hid (fun W => refFrom_v h5 W)
  clear h0 h1 h2 h4 h5
  have hb := (Below.refl w.heap.size w).alloc (Nat.le_refl _) (.cells #[.int .i64 s.d, .int .i64 s.r, .int .i64 s.f, .int .i64 s.t, .int .i64 s.w, .int .i64 s.p, .bool s.rn, .bool s.fr] 51)
  go_enter Try.func55, Try.ntmps55
  go_wp2_with fail
  refine (H0.out _).mono ?_
  rintro e w0 ⟨rfl, rfl⟩
  go_wp2_with fail
  refine (H1.out _).mono ?_
  rintro e w1 ⟨rfl, rfl⟩
  go_wp2_with fail
  refine (H2.out _).mono ?_
  rintro e w2 ⟨rfl, rfl⟩
  go_wp2_with fail
  refine (H4.out _).mono ?_
  rintro e w4 ⟨rfl, rfl⟩
  go_wp2_with fail
  refine (H5.out _).mono ?_
  rintro e w5 ⟨rfl, rfl⟩
  go_wp2_with fail
  go_ret
  exact ⟨rfl, hb⟩
theorem refNight_r (s : Ni) (w : World) :
    Calls Try.prog 55 #[.agg #[.int .i64 s.d, .int .i64 s.r, .int .i64 s.f, .int .i64 s.t, .int .i64 s.w, .int .i64 s.p, .bool s.rn, .bool s.fr]] w fun e w' => e = .returned (.bool (nightB s)) ∧ Below w.heap.size w w' := by
  rw [nightB_ref]
  cases h0 : btw s.d 0 100000 with
  | false => exact refNight_0 s w h0
  | true =>
    cases h1 : btw s.r 1 1000000 with
    | false => exact refNight_1 s w h0 h1
    | true =>
      cases h2 : btw s.f 0 s.t with
      | false => exact refNight_2 s w h0 h1 h2
      | true =>
        cases h3 : decide (s.t ≤ 10000000) with
        | false => exact refNight_3 s w h0 h1 h2 h3
        | true =>
          cases h4 : btw s.w 1 9 with
          | false => exact refNight_4 s w h0 h1 h2 h3 h4
          | true =>
            cases h5 : btw s.p 0 100 with
            | false => exact refNight_5 s w h0 h1 h2 h3 h4 h5
            | true =>
              exact refNight_6 s w h0 h1 h2 h3 h4 h5
end Go.Proofs.Ytghlhjiomebmhaa
