/-
  fits of the reference of package night. By an AI agent.
-/
import Derived.Test.YtghlhjiomebmhaaNiRb
import Derived.Deep.RegionHeld3
import Derived.BigQuiet
namespace Go.Proofs.Ytghlhjiomebmhaa
set_option linter.unusedVariables false
set_option linter.unusedSimpArgs false
open Go.RowKit

set_option maxHeartbeats 1000000 in
theorem refFits_0 (j : Jo) (s : Ni) (w : World) (h0 : (j.r == s.r) = false) :
    Calls Try.prog 56 #[.agg #[.int .i64 j.n, .int .i64 j.r, .int .i64 j.c, .int .i64 j.f, .int .i64 j.l, .int .i64 j.w, .bool j.dy, .bool j.wm], .agg #[.int .i64 s.d, .int .i64 s.r, .int .i64 s.f, .int .i64 s.t, .int .i64 s.w, .int .i64 s.p, .bool s.rn, .bool s.fr]] w fun e w' => e = .returned (.bool (false)) ∧ Below w.heap.size w w' := by

  go_enter Try.func56, Try.ntmps56
  go_wp2_with fail
  go_ret
  exact ⟨rfl, ((Below.refl _ _).alloc (by simp) _).alloc (by simp) _⟩
set_option maxHeartbeats 1000000 in
theorem refFits_1 (j : Jo) (s : Ni) (w : World) (h0 : (j.r == s.r) = true) (h1 : (j.w == s.w) = false) :
    Calls Try.prog 56 #[.agg #[.int .i64 j.n, .int .i64 j.r, .int .i64 j.c, .int .i64 j.f, .int .i64 j.l, .int .i64 j.w, .bool j.dy, .bool j.wm], .agg #[.int .i64 s.d, .int .i64 s.r, .int .i64 s.f, .int .i64 s.t, .int .i64 s.w, .int .i64 s.p, .bool s.rn, .bool s.fr]] w fun e w' => e = .returned (.bool (false)) ∧ Below w.heap.size w w' := by

  go_enter Try.func56, Try.ntmps56
  go_wp2_with fail
  go_ret
  exact ⟨rfl, ((Below.refl _ _).alloc (by simp) _).alloc (by simp) _⟩
set_option maxHeartbeats 1000000 in
theorem refFits_2 (j : Jo) (s : Ni) (w : World) (h0 : (j.r == s.r) = true) (h1 : (j.w == s.w) = true) (h2 : btw s.d j.f j.l = false) :
    Calls Try.prog 56 #[.agg #[.int .i64 j.n, .int .i64 j.r, .int .i64 j.c, .int .i64 j.f, .int .i64 j.l, .int .i64 j.w, .bool j.dy, .bool j.wm], .agg #[.int .i64 s.d, .int .i64 s.r, .int .i64 s.f, .int .i64 s.t, .int .i64 s.w, .int .i64 s.p, .bool s.rn, .bool s.fr]] w fun e w' => e = .returned (.bool (false)) ∧ Below w.heap.size w w' := by
  have H0 := Lib.hid (fun W => refFrom_v h2 W)
  clear h2
  go_enter Try.func56, Try.ntmps56
  go_wp2_with fail
  refine (H0.out _).mono ?_
  rintro e w0 ⟨rfl, rfl⟩
  go_wp2_with fail
  go_ret
  exact ⟨rfl, ((Below.refl _ _).alloc (by simp) _).alloc (by simp) _⟩
set_option maxHeartbeats 1000000 in
theorem refFits_3 (j : Jo) (s : Ni) (w : World) (h0 : (j.r == s.r) = true) (h1 : (j.w == s.w) = true) (h2 : btw s.d j.f j.l = true) (h3 : btw j.c s.f s.t = false) :
    Calls Try.prog 56 #[.agg #[.int .i64 j.n, .int .i64 j.r, .int .i64 j.c, .int .i64 j.f, .int .i64 j.l, .int .i64 j.w, .bool j.dy, .bool j.wm], .agg #[.int .i64 s.d, .int .i64 s.r, .int .i64 s.f, .int .i64 s.t, .int .i64 s.w, .int .i64 s.p, .bool s.rn, .bool s.fr]] w fun e w' => e = .returned (.bool (false)) ∧ Below w.heap.size w w' := by
  have H0 := Lib.hid (fun W => refFrom_v h2 W)
  have H1 := Lib.hid (fun W => refFrom_v h3 W)
  clear h2 h3
  go_enter Try.func56, Try.ntmps56
  go_wp2_with fail
  refine (H0.out _).mono ?_
  rintro e w0 ⟨rfl, rfl⟩
  go_wp2_with fail
  refine (H1.out _).mono ?_
  rintro e w1 ⟨rfl, rfl⟩
  go_wp2_with fail
  go_ret
  exact ⟨rfl, ((Below.refl _ _).alloc (by simp) _).alloc (by simp) _⟩
set_option maxHeartbeats 1000000 in
theorem refFits_5truetruetruetrue (j : Jo) (s : Ni) (w : World) (h0 : (j.r == s.r) = true) (h1 : (j.w == s.w) = true) (h2 : btw s.d j.f j.l = true) (h3 : btw j.c s.f s.t = true) (g0 : j.dy = true) (g1 : s.rn = true) (g2 : j.wm = true) (g3 : s.fr = true) :
    Calls Try.prog 56 #[.agg #[.int .i64 j.n, .int .i64 j.r, .int .i64 j.c, .int .i64 j.f, .int .i64 j.l, .int .i64 j.w, .bool j.dy, .bool j.wm], .agg #[.int .i64 s.d, .int .i64 s.r, .int .i64 s.f, .int .i64 s.t, .int .i64 s.w, .int .i64 s.p, .bool s.rn, .bool s.fr]] w fun e w' => e = .returned (.bool (false)) ∧ Below w.heap.size w w' := by
  have H0 := Lib.hid (fun W => refFrom_v h2 W)
  have H1 := Lib.hid (fun W => refFrom_v h3 W)
  clear h2 h3
  rw [g0, g1, g2, g3]
  clear g0 g1 g2 g3
  go_enter Try.func56, Try.ntmps56
  go_wp2_with fail
  refine (H0.out _).mono ?_
  rintro e w0 ⟨rfl, rfl⟩
  go_wp2_with fail
  refine (H1.out _).mono ?_
  rintro e w1 ⟨rfl, rfl⟩
  go_wp2_with fail
  go_ret
  exact ⟨rfl, ((Below.refl _ _).alloc (by simp) _).alloc (by simp) _⟩
set_option maxHeartbeats 1000000 in
theorem refFits_5truetruetruefalse (j : Jo) (s : Ni) (w : World) (h0 : (j.r == s.r) = true) (h1 : (j.w == s.w) = true) (h2 : btw s.d j.f j.l = true) (h3 : btw j.c s.f s.t = true) (g0 : j.dy = true) (g1 : s.rn = true) (g2 : j.wm = true) (g3 : s.fr = false) :
    Calls Try.prog 56 #[.agg #[.int .i64 j.n, .int .i64 j.r, .int .i64 j.c, .int .i64 j.f, .int .i64 j.l, .int .i64 j.w, .bool j.dy, .bool j.wm], .agg #[.int .i64 s.d, .int .i64 s.r, .int .i64 s.f, .int .i64 s.t, .int .i64 s.w, .int .i64 s.p, .bool s.rn, .bool s.fr]] w fun e w' => e = .returned (.bool (false)) ∧ Below w.heap.size w w' := by
  have H0 := Lib.hid (fun W => refFrom_v h2 W)
  have H1 := Lib.hid (fun W => refFrom_v h3 W)
  clear h2 h3
  rw [g0, g1, g2, g3]
  clear g0 g1 g2 g3
  go_enter Try.func56, Try.ntmps56
  go_wp2_with fail
  refine (H0.out _).mono ?_
  rintro e w0 ⟨rfl, rfl⟩
  go_wp2_with fail
  refine (H1.out _).mono ?_
  rintro e w1 ⟨rfl, rfl⟩
  go_wp2_with fail
  go_ret
  exact ⟨rfl, ((Below.refl _ _).alloc (by simp) _).alloc (by simp) _⟩
set_option maxHeartbeats 1000000 in
theorem refFits_5truetruefalsetrue (j : Jo) (s : Ni) (w : World) (h0 : (j.r == s.r) = true) (h1 : (j.w == s.w) = true) (h2 : btw s.d j.f j.l = true) (h3 : btw j.c s.f s.t = true) (g0 : j.dy = true) (g1 : s.rn = true) (g2 : j.wm = false) (g3 : s.fr = true) :
    Calls Try.prog 56 #[.agg #[.int .i64 j.n, .int .i64 j.r, .int .i64 j.c, .int .i64 j.f, .int .i64 j.l, .int .i64 j.w, .bool j.dy, .bool j.wm], .agg #[.int .i64 s.d, .int .i64 s.r, .int .i64 s.f, .int .i64 s.t, .int .i64 s.w, .int .i64 s.p, .bool s.rn, .bool s.fr]] w fun e w' => e = .returned (.bool (false)) ∧ Below w.heap.size w w' := by
  have H0 := Lib.hid (fun W => refFrom_v h2 W)
  have H1 := Lib.hid (fun W => refFrom_v h3 W)
  clear h2 h3
  rw [g0, g1, g2, g3]
  clear g0 g1 g2 g3
  go_enter Try.func56, Try.ntmps56
  go_wp2_with fail
  refine (H0.out _).mono ?_
  rintro e w0 ⟨rfl, rfl⟩
  go_wp2_with fail
  refine (H1.out _).mono ?_
  rintro e w1 ⟨rfl, rfl⟩
  go_wp2_with fail
  go_ret
  exact ⟨rfl, ((Below.refl _ _).alloc (by simp) _).alloc (by simp) _⟩
set_option maxHeartbeats 1000000 in
theorem refFits_5truetruefalsefalse (j : Jo) (s : Ni) (w : World) (h0 : (j.r == s.r) = true) (h1 : (j.w == s.w) = true) (h2 : btw s.d j.f j.l = true) (h3 : btw j.c s.f s.t = true) (g0 : j.dy = true) (g1 : s.rn = true) (g2 : j.wm = false) (g3 : s.fr = false) :
    Calls Try.prog 56 #[.agg #[.int .i64 j.n, .int .i64 j.r, .int .i64 j.c, .int .i64 j.f, .int .i64 j.l, .int .i64 j.w, .bool j.dy, .bool j.wm], .agg #[.int .i64 s.d, .int .i64 s.r, .int .i64 s.f, .int .i64 s.t, .int .i64 s.w, .int .i64 s.p, .bool s.rn, .bool s.fr]] w fun e w' => e = .returned (.bool (false)) ∧ Below w.heap.size w w' := by
  have H0 := Lib.hid (fun W => refFrom_v h2 W)
  have H1 := Lib.hid (fun W => refFrom_v h3 W)
  clear h2 h3
  rw [g0, g1, g2, g3]
  clear g0 g1 g2 g3
  go_enter Try.func56, Try.ntmps56
  go_wp2_with fail
  refine (H0.out _).mono ?_
  rintro e w0 ⟨rfl, rfl⟩
  go_wp2_with fail
  refine (H1.out _).mono ?_
  rintro e w1 ⟨rfl, rfl⟩
  go_wp2_with fail
  go_ret
  exact ⟨rfl, ((Below.refl _ _).alloc (by simp) _).alloc (by simp) _⟩
set_option maxHeartbeats 1000000 in
theorem refFits_5truefalsetruetrue (j : Jo) (s : Ni) (w : World) (h0 : (j.r == s.r) = true) (h1 : (j.w == s.w) = true) (h2 : btw s.d j.f j.l = true) (h3 : btw j.c s.f s.t = true) (g0 : j.dy = true) (g1 : s.rn = false) (g2 : j.wm = true) (g3 : s.fr = true) :
    Calls Try.prog 56 #[.agg #[.int .i64 j.n, .int .i64 j.r, .int .i64 j.c, .int .i64 j.f, .int .i64 j.l, .int .i64 j.w, .bool j.dy, .bool j.wm], .agg #[.int .i64 s.d, .int .i64 s.r, .int .i64 s.f, .int .i64 s.t, .int .i64 s.w, .int .i64 s.p, .bool s.rn, .bool s.fr]] w fun e w' => e = .returned (.bool (false)) ∧ Below w.heap.size w w' := by
  have H0 := Lib.hid (fun W => refFrom_v h2 W)
  have H1 := Lib.hid (fun W => refFrom_v h3 W)
  clear h2 h3
  rw [g0, g1, g2, g3]
  clear g0 g1 g2 g3
  go_enter Try.func56, Try.ntmps56
  go_wp2_with fail
  refine (H0.out _).mono ?_
  rintro e w0 ⟨rfl, rfl⟩
  go_wp2_with fail
  refine (H1.out _).mono ?_
  rintro e w1 ⟨rfl, rfl⟩
  go_wp2_with fail
  go_ret
  exact ⟨rfl, ((Below.refl _ _).alloc (by simp) _).alloc (by simp) _⟩
set_option maxHeartbeats 1000000 in
theorem refFits_5truefalsetruefalse (j : Jo) (s : Ni) (w : World) (h0 : (j.r == s.r) = true) (h1 : (j.w == s.w) = true) (h2 : btw s.d j.f j.l = true) (h3 : btw j.c s.f s.t = true) (g0 : j.dy = true) (g1 : s.rn = false) (g2 : j.wm = true) (g3 : s.fr = false) :
    Calls Try.prog 56 #[.agg #[.int .i64 j.n, .int .i64 j.r, .int .i64 j.c, .int .i64 j.f, .int .i64 j.l, .int .i64 j.w, .bool j.dy, .bool j.wm], .agg #[.int .i64 s.d, .int .i64 s.r, .int .i64 s.f, .int .i64 s.t, .int .i64 s.w, .int .i64 s.p, .bool s.rn, .bool s.fr]] w fun e w' => e = .returned (.bool (true)) ∧ Below w.heap.size w w' := by
  have H0 := Lib.hid (fun W => refFrom_v h2 W)
  have H1 := Lib.hid (fun W => refFrom_v h3 W)
  clear h2 h3
  rw [g0, g1, g2, g3]
  clear g0 g1 g2 g3
  go_enter Try.func56, Try.ntmps56
  go_wp2_with fail
  refine (H0.out _).mono ?_
  rintro e w0 ⟨rfl, rfl⟩
  go_wp2_with fail
  refine (H1.out _).mono ?_
  rintro e w1 ⟨rfl, rfl⟩
  go_wp2_with fail
  go_ret
  exact ⟨rfl, ((Below.refl _ _).alloc (by simp) _).alloc (by simp) _⟩
set_option maxHeartbeats 1000000 in
theorem refFits_5truefalsefalsetrue (j : Jo) (s : Ni) (w : World) (h0 : (j.r == s.r) = true) (h1 : (j.w == s.w) = true) (h2 : btw s.d j.f j.l = true) (h3 : btw j.c s.f s.t = true) (g0 : j.dy = true) (g1 : s.rn = false) (g2 : j.wm = false) (g3 : s.fr = true) :
    Calls Try.prog 56 #[.agg #[.int .i64 j.n, .int .i64 j.r, .int .i64 j.c, .int .i64 j.f, .int .i64 j.l, .int .i64 j.w, .bool j.dy, .bool j.wm], .agg #[.int .i64 s.d, .int .i64 s.r, .int .i64 s.f, .int .i64 s.t, .int .i64 s.w, .int .i64 s.p, .bool s.rn, .bool s.fr]] w fun e w' => e = .returned (.bool (true)) ∧ Below w.heap.size w w' := by
  have H0 := Lib.hid (fun W => refFrom_v h2 W)
  have H1 := Lib.hid (fun W => refFrom_v h3 W)
  clear h2 h3
  rw [g0, g1, g2, g3]
  clear g0 g1 g2 g3
  go_enter Try.func56, Try.ntmps56
  go_wp2_with fail
  refine (H0.out _).mono ?_
  rintro e w0 ⟨rfl, rfl⟩
  go_wp2_with fail
  refine (H1.out _).mono ?_
  rintro e w1 ⟨rfl, rfl⟩
  go_wp2_with fail
  go_ret
  exact ⟨rfl, ((Below.refl _ _).alloc (by simp) _).alloc (by simp) _⟩
set_option maxHeartbeats 1000000 in
theorem refFits_5truefalsefalsefalse (j : Jo) (s : Ni) (w : World) (h0 : (j.r == s.r) = true) (h1 : (j.w == s.w) = true) (h2 : btw s.d j.f j.l = true) (h3 : btw j.c s.f s.t = true) (g0 : j.dy = true) (g1 : s.rn = false) (g2 : j.wm = false) (g3 : s.fr = false) :
    Calls Try.prog 56 #[.agg #[.int .i64 j.n, .int .i64 j.r, .int .i64 j.c, .int .i64 j.f, .int .i64 j.l, .int .i64 j.w, .bool j.dy, .bool j.wm], .agg #[.int .i64 s.d, .int .i64 s.r, .int .i64 s.f, .int .i64 s.t, .int .i64 s.w, .int .i64 s.p, .bool s.rn, .bool s.fr]] w fun e w' => e = .returned (.bool (true)) ∧ Below w.heap.size w w' := by
  have H0 := Lib.hid (fun W => refFrom_v h2 W)
  have H1 := Lib.hid (fun W => refFrom_v h3 W)
  clear h2 h3
  rw [g0, g1, g2, g3]
  clear g0 g1 g2 g3
  go_enter Try.func56, Try.ntmps56
  go_wp2_with fail
  refine (H0.out _).mono ?_
  rintro e w0 ⟨rfl, rfl⟩
  go_wp2_with fail
  refine (H1.out _).mono ?_
  rintro e w1 ⟨rfl, rfl⟩
  go_wp2_with fail
  go_ret
  exact ⟨rfl, ((Below.refl _ _).alloc (by simp) _).alloc (by simp) _⟩
set_option maxHeartbeats 1000000 in
theorem refFits_5falsetruetruetrue (j : Jo) (s : Ni) (w : World) (h0 : (j.r == s.r) = true) (h1 : (j.w == s.w) = true) (h2 : btw s.d j.f j.l = true) (h3 : btw j.c s.f s.t = true) (g0 : j.dy = false) (g1 : s.rn = true) (g2 : j.wm = true) (g3 : s.fr = true) :
    Calls Try.prog 56 #[.agg #[.int .i64 j.n, .int .i64 j.r, .int .i64 j.c, .int .i64 j.f, .int .i64 j.l, .int .i64 j.w, .bool j.dy, .bool j.wm], .agg #[.int .i64 s.d, .int .i64 s.r, .int .i64 s.f, .int .i64 s.t, .int .i64 s.w, .int .i64 s.p, .bool s.rn, .bool s.fr]] w fun e w' => e = .returned (.bool (false)) ∧ Below w.heap.size w w' := by
  have H0 := Lib.hid (fun W => refFrom_v h2 W)
  have H1 := Lib.hid (fun W => refFrom_v h3 W)
  clear h2 h3
  rw [g0, g1, g2, g3]
  clear g0 g1 g2 g3
  go_enter Try.func56, Try.ntmps56
  go_wp2_with fail
  refine (H0.out _).mono ?_
  rintro e w0 ⟨rfl, rfl⟩
  go_wp2_with fail
  refine (H1.out _).mono ?_
  rintro e w1 ⟨rfl, rfl⟩
  go_wp2_with fail
  go_ret
  exact ⟨rfl, ((Below.refl _ _).alloc (by simp) _).alloc (by simp) _⟩
set_option maxHeartbeats 1000000 in
theorem refFits_5falsetruetruefalse (j : Jo) (s : Ni) (w : World) (h0 : (j.r == s.r) = true) (h1 : (j.w == s.w) = true) (h2 : btw s.d j.f j.l = true) (h3 : btw j.c s.f s.t = true) (g0 : j.dy = false) (g1 : s.rn = true) (g2 : j.wm = true) (g3 : s.fr = false) :
    Calls Try.prog 56 #[.agg #[.int .i64 j.n, .int .i64 j.r, .int .i64 j.c, .int .i64 j.f, .int .i64 j.l, .int .i64 j.w, .bool j.dy, .bool j.wm], .agg #[.int .i64 s.d, .int .i64 s.r, .int .i64 s.f, .int .i64 s.t, .int .i64 s.w, .int .i64 s.p, .bool s.rn, .bool s.fr]] w fun e w' => e = .returned (.bool (true)) ∧ Below w.heap.size w w' := by
  have H0 := Lib.hid (fun W => refFrom_v h2 W)
  have H1 := Lib.hid (fun W => refFrom_v h3 W)
  clear h2 h3
  rw [g0, g1, g2, g3]
  clear g0 g1 g2 g3
  go_enter Try.func56, Try.ntmps56
  go_wp2_with fail
  refine (H0.out _).mono ?_
  rintro e w0 ⟨rfl, rfl⟩
  go_wp2_with fail
  refine (H1.out _).mono ?_
  rintro e w1 ⟨rfl, rfl⟩
  go_wp2_with fail
  go_ret
  exact ⟨rfl, ((Below.refl _ _).alloc (by simp) _).alloc (by simp) _⟩
set_option maxHeartbeats 1000000 in
theorem refFits_5falsetruefalsetrue (j : Jo) (s : Ni) (w : World) (h0 : (j.r == s.r) = true) (h1 : (j.w == s.w) = true) (h2 : btw s.d j.f j.l = true) (h3 : btw j.c s.f s.t = true) (g0 : j.dy = false) (g1 : s.rn = true) (g2 : j.wm = false) (g3 : s.fr = true) :
    Calls Try.prog 56 #[.agg #[.int .i64 j.n, .int .i64 j.r, .int .i64 j.c, .int .i64 j.f, .int .i64 j.l, .int .i64 j.w, .bool j.dy, .bool j.wm], .agg #[.int .i64 s.d, .int .i64 s.r, .int .i64 s.f, .int .i64 s.t, .int .i64 s.w, .int .i64 s.p, .bool s.rn, .bool s.fr]] w fun e w' => e = .returned (.bool (true)) ∧ Below w.heap.size w w' := by
  have H0 := Lib.hid (fun W => refFrom_v h2 W)
  have H1 := Lib.hid (fun W => refFrom_v h3 W)
  clear h2 h3
  rw [g0, g1, g2, g3]
  clear g0 g1 g2 g3
  go_enter Try.func56, Try.ntmps56
  go_wp2_with fail
  refine (H0.out _).mono ?_
  rintro e w0 ⟨rfl, rfl⟩
  go_wp2_with fail
  refine (H1.out _).mono ?_
  rintro e w1 ⟨rfl, rfl⟩
  go_wp2_with fail
  go_ret
  exact ⟨rfl, ((Below.refl _ _).alloc (by simp) _).alloc (by simp) _⟩
set_option maxHeartbeats 1000000 in
theorem refFits_5falsetruefalsefalse (j : Jo) (s : Ni) (w : World) (h0 : (j.r == s.r) = true) (h1 : (j.w == s.w) = true) (h2 : btw s.d j.f j.l = true) (h3 : btw j.c s.f s.t = true) (g0 : j.dy = false) (g1 : s.rn = true) (g2 : j.wm = false) (g3 : s.fr = false) :
    Calls Try.prog 56 #[.agg #[.int .i64 j.n, .int .i64 j.r, .int .i64 j.c, .int .i64 j.f, .int .i64 j.l, .int .i64 j.w, .bool j.dy, .bool j.wm], .agg #[.int .i64 s.d, .int .i64 s.r, .int .i64 s.f, .int .i64 s.t, .int .i64 s.w, .int .i64 s.p, .bool s.rn, .bool s.fr]] w fun e w' => e = .returned (.bool (true)) ∧ Below w.heap.size w w' := by
  have H0 := Lib.hid (fun W => refFrom_v h2 W)
  have H1 := Lib.hid (fun W => refFrom_v h3 W)
  clear h2 h3
  rw [g0, g1, g2, g3]
  clear g0 g1 g2 g3
  go_enter Try.func56, Try.ntmps56
  go_wp2_with fail
  refine (H0.out _).mono ?_
  rintro e w0 ⟨rfl, rfl⟩
  go_wp2_with fail
  refine (H1.out _).mono ?_
  rintro e w1 ⟨rfl, rfl⟩
  go_wp2_with fail
  go_ret
  exact ⟨rfl, ((Below.refl _ _).alloc (by simp) _).alloc (by simp) _⟩
set_option maxHeartbeats 1000000 in
theorem refFits_5falsefalsetruetrue (j : Jo) (s : Ni) (w : World) (h0 : (j.r == s.r) = true) (h1 : (j.w == s.w) = true) (h2 : btw s.d j.f j.l = true) (h3 : btw j.c s.f s.t = true) (g0 : j.dy = false) (g1 : s.rn = false) (g2 : j.wm = true) (g3 : s.fr = true) :
    Calls Try.prog 56 #[.agg #[.int .i64 j.n, .int .i64 j.r, .int .i64 j.c, .int .i64 j.f, .int .i64 j.l, .int .i64 j.w, .bool j.dy, .bool j.wm], .agg #[.int .i64 s.d, .int .i64 s.r, .int .i64 s.f, .int .i64 s.t, .int .i64 s.w, .int .i64 s.p, .bool s.rn, .bool s.fr]] w fun e w' => e = .returned (.bool (false)) ∧ Below w.heap.size w w' := by
  have H0 := Lib.hid (fun W => refFrom_v h2 W)
  have H1 := Lib.hid (fun W => refFrom_v h3 W)
  clear h2 h3
  rw [g0, g1, g2, g3]
  clear g0 g1 g2 g3
  go_enter Try.func56, Try.ntmps56
  go_wp2_with fail
  refine (H0.out _).mono ?_
  rintro e w0 ⟨rfl, rfl⟩
  go_wp2_with fail
  refine (H1.out _).mono ?_
  rintro e w1 ⟨rfl, rfl⟩
  go_wp2_with fail
  go_ret
  exact ⟨rfl, ((Below.refl _ _).alloc (by simp) _).alloc (by simp) _⟩
set_option maxHeartbeats 1000000 in
theorem refFits_5falsefalsetruefalse (j : Jo) (s : Ni) (w : World) (h0 : (j.r == s.r) = true) (h1 : (j.w == s.w) = true) (h2 : btw s.d j.f j.l = true) (h3 : btw j.c s.f s.t = true) (g0 : j.dy = false) (g1 : s.rn = false) (g2 : j.wm = true) (g3 : s.fr = false) :
    Calls Try.prog 56 #[.agg #[.int .i64 j.n, .int .i64 j.r, .int .i64 j.c, .int .i64 j.f, .int .i64 j.l, .int .i64 j.w, .bool j.dy, .bool j.wm], .agg #[.int .i64 s.d, .int .i64 s.r, .int .i64 s.f, .int .i64 s.t, .int .i64 s.w, .int .i64 s.p, .bool s.rn, .bool s.fr]] w fun e w' => e = .returned (.bool (true)) ∧ Below w.heap.size w w' := by
  have H0 := Lib.hid (fun W => refFrom_v h2 W)
  have H1 := Lib.hid (fun W => refFrom_v h3 W)
  clear h2 h3
  rw [g0, g1, g2, g3]
  clear g0 g1 g2 g3
  go_enter Try.func56, Try.ntmps56
  go_wp2_with fail
  refine (H0.out _).mono ?_
  rintro e w0 ⟨rfl, rfl⟩
  go_wp2_with fail
  refine (H1.out _).mono ?_
  rintro e w1 ⟨rfl, rfl⟩
  go_wp2_with fail
  go_ret
  exact ⟨rfl, ((Below.refl _ _).alloc (by simp) _).alloc (by simp) _⟩
set_option maxHeartbeats 1000000 in
theorem refFits_5falsefalsefalsetrue (j : Jo) (s : Ni) (w : World) (h0 : (j.r == s.r) = true) (h1 : (j.w == s.w) = true) (h2 : btw s.d j.f j.l = true) (h3 : btw j.c s.f s.t = true) (g0 : j.dy = false) (g1 : s.rn = false) (g2 : j.wm = false) (g3 : s.fr = true) :
    Calls Try.prog 56 #[.agg #[.int .i64 j.n, .int .i64 j.r, .int .i64 j.c, .int .i64 j.f, .int .i64 j.l, .int .i64 j.w, .bool j.dy, .bool j.wm], .agg #[.int .i64 s.d, .int .i64 s.r, .int .i64 s.f, .int .i64 s.t, .int .i64 s.w, .int .i64 s.p, .bool s.rn, .bool s.fr]] w fun e w' => e = .returned (.bool (true)) ∧ Below w.heap.size w w' := by
  have H0 := Lib.hid (fun W => refFrom_v h2 W)
  have H1 := Lib.hid (fun W => refFrom_v h3 W)
  clear h2 h3
  rw [g0, g1, g2, g3]
  clear g0 g1 g2 g3
  go_enter Try.func56, Try.ntmps56
  go_wp2_with fail
  refine (H0.out _).mono ?_
  rintro e w0 ⟨rfl, rfl⟩
  go_wp2_with fail
  refine (H1.out _).mono ?_
  rintro e w1 ⟨rfl, rfl⟩
  go_wp2_with fail
  go_ret
  exact ⟨rfl, ((Below.refl _ _).alloc (by simp) _).alloc (by simp) _⟩
set_option maxHeartbeats 1000000 in
theorem refFits_5falsefalsefalsefalse (j : Jo) (s : Ni) (w : World) (h0 : (j.r == s.r) = true) (h1 : (j.w == s.w) = true) (h2 : btw s.d j.f j.l = true) (h3 : btw j.c s.f s.t = true) (g0 : j.dy = false) (g1 : s.rn = false) (g2 : j.wm = false) (g3 : s.fr = false) :
    Calls Try.prog 56 #[.agg #[.int .i64 j.n, .int .i64 j.r, .int .i64 j.c, .int .i64 j.f, .int .i64 j.l, .int .i64 j.w, .bool j.dy, .bool j.wm], .agg #[.int .i64 s.d, .int .i64 s.r, .int .i64 s.f, .int .i64 s.t, .int .i64 s.w, .int .i64 s.p, .bool s.rn, .bool s.fr]] w fun e w' => e = .returned (.bool (true)) ∧ Below w.heap.size w w' := by
  have H0 := Lib.hid (fun W => refFrom_v h2 W)
  have H1 := Lib.hid (fun W => refFrom_v h3 W)
  clear h2 h3
  rw [g0, g1, g2, g3]
  clear g0 g1 g2 g3
  go_enter Try.func56, Try.ntmps56
  go_wp2_with fail
  refine (H0.out _).mono ?_
  rintro e w0 ⟨rfl, rfl⟩
  go_wp2_with fail
  refine (H1.out _).mono ?_
  rintro e w1 ⟨rfl, rfl⟩
  go_wp2_with fail
  go_ret
  exact ⟨rfl, ((Below.refl _ _).alloc (by simp) _).alloc (by simp) _⟩
theorem refFits_r (j : Jo) (s : Ni) (w : World) :
    Calls Try.prog 56 #[.agg #[.int .i64 j.n, .int .i64 j.r, .int .i64 j.c, .int .i64 j.f, .int .i64 j.l, .int .i64 j.w, .bool j.dy, .bool j.wm], .agg #[.int .i64 s.d, .int .i64 s.r, .int .i64 s.f, .int .i64 s.t, .int .i64 s.w, .int .i64 s.p, .bool s.rn, .bool s.fr]] w fun e w' => e = .returned (.bool (fitB j s)) ∧ Below w.heap.size w w' := by
  unfold fitB
  cases h0 : (j.r == s.r) with
  | false => exact refFits_0 j s w h0
  | true =>
    cases h1 : (j.w == s.w) with
    | false => exact refFits_1 j s w h0 h1
    | true =>
      cases h2 : btw s.d j.f j.l with
      | false => exact refFits_2 j s w h0 h1 h2
      | true =>
        cases h3 : btw j.c s.f s.t with
        | false => exact refFits_3 j s w h0 h1 h2 h3
        | true =>
          cases g0 : j.dy <;> cases g1 : s.rn <;> cases g2 : j.wm <;> cases g3 : s.fr
          · have := refFits_5falsefalsefalsefalse j s w h0 h1 h2 h3 g0 g1 g2 g3
            rw [g0, g1, g2, g3] at this
            exact this
          · have := refFits_5falsefalsefalsetrue j s w h0 h1 h2 h3 g0 g1 g2 g3
            rw [g0, g1, g2, g3] at this
            exact this
          · have := refFits_5falsefalsetruefalse j s w h0 h1 h2 h3 g0 g1 g2 g3
            rw [g0, g1, g2, g3] at this
            exact this
          · have := refFits_5falsefalsetruetrue j s w h0 h1 h2 h3 g0 g1 g2 g3
            rw [g0, g1, g2, g3] at this
            exact this
          · have := refFits_5falsetruefalsefalse j s w h0 h1 h2 h3 g0 g1 g2 g3
            rw [g0, g1, g2, g3] at this
            exact this
          · have := refFits_5falsetruefalsetrue j s w h0 h1 h2 h3 g0 g1 g2 g3
            rw [g0, g1, g2, g3] at this
            exact this
          · have := refFits_5falsetruetruefalse j s w h0 h1 h2 h3 g0 g1 g2 g3
            rw [g0, g1, g2, g3] at this
            exact this
          · have := refFits_5falsetruetruetrue j s w h0 h1 h2 h3 g0 g1 g2 g3
            rw [g0, g1, g2, g3] at this
            exact this
          · have := refFits_5truefalsefalsefalse j s w h0 h1 h2 h3 g0 g1 g2 g3
            rw [g0, g1, g2, g3] at this
            exact this
          · have := refFits_5truefalsefalsetrue j s w h0 h1 h2 h3 g0 g1 g2 g3
            rw [g0, g1, g2, g3] at this
            exact this
          · have := refFits_5truefalsetruefalse j s w h0 h1 h2 h3 g0 g1 g2 g3
            rw [g0, g1, g2, g3] at this
            exact this
          · have := refFits_5truefalsetruetrue j s w h0 h1 h2 h3 g0 g1 g2 g3
            rw [g0, g1, g2, g3] at this
            exact this
          · have := refFits_5truetruefalsefalse j s w h0 h1 h2 h3 g0 g1 g2 g3
            rw [g0, g1, g2, g3] at this
            exact this
          · have := refFits_5truetruefalsetrue j s w h0 h1 h2 h3 g0 g1 g2 g3
            rw [g0, g1, g2, g3] at this
            exact this
          · have := refFits_5truetruetruefalse j s w h0 h1 h2 h3 g0 g1 g2 g3
            rw [g0, g1, g2, g3] at this
            exact this
          · have := refFits_5truetruetruetrue j s w h0 h1 h2 h3 g0 g1 g2 g3
            rw [g0, g1, g2, g3] at this
            exact this
end Go.Proofs.Ytghlhjiomebmhaa
