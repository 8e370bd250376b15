/-
  fits of package night. By an AI agent.
-/
import Derived.Test.YtghlhjiomebmhaaMgNightTours1
import Derived.Deep.RegionHeld3
import Derived.BigQuiet

namespace Go.Proofs.Ytghlhjiomebmhaa
set_option linter.unusedVariables false
set_option linter.unusedSimpArgs false
open Go.RowKit

set_option maxHeartbeats 1000000 in
theorem fits_0 (j : Jo) (s : Ni) (w : World) (h0 : (j.r == s.r) = false) :
    Calls Try.prog 53 #[.agg #[.int .i64 j.n, .int .i64 j.r, .int .i64 j.c, .int .i64 j.f, .int .i64 j.l, .int .i64 j.w, .bool j.dy, .bool j.wm], .agg #[.int .i64 s.d, .int .i64 s.r, .int .i64 s.f, .int .i64 s.t, .int .i64 s.w, .int .i64 s.p, .bool s.rn, .bool s.fr]] w fun e w' => e = .returned (.bool (false)) ∧ Below w.heap.size w w' := by

  go_enter Try.func53, Try.ntmps53
  go_wp2_with fail
  go_ret
  exact ⟨rfl, ((Below.refl _ _).alloc (by simp) _).alloc (by simp) _⟩
set_option maxHeartbeats 1000000 in
theorem fits_1 (j : Jo) (s : Ni) (w : World) (h0 : (j.r == s.r) = true) (h1 : (j.w == s.w) = false) :
    Calls Try.prog 53 #[.agg #[.int .i64 j.n, .int .i64 j.r, .int .i64 j.c, .int .i64 j.f, .int .i64 j.l, .int .i64 j.w, .bool j.dy, .bool j.wm], .agg #[.int .i64 s.d, .int .i64 s.r, .int .i64 s.f, .int .i64 s.t, .int .i64 s.w, .int .i64 s.p, .bool s.rn, .bool s.fr]] w fun e w' => e = .returned (.bool (false)) ∧ Below w.heap.size w w' := by

  go_enter Try.func53, Try.ntmps53
  go_wp2_with fail
  go_ret
  exact ⟨rfl, ((Below.refl _ _).alloc (by simp) _).alloc (by simp) _⟩
set_option maxHeartbeats 1000000 in
theorem fits_2 (j : Jo) (s : Ni) (w : World) (h0 : (j.r == s.r) = true) (h1 : (j.w == s.w) = true) (h2 : btw s.d j.f j.l = false) :
    Calls Try.prog 53 #[.agg #[.int .i64 j.n, .int .i64 j.r, .int .i64 j.c, .int .i64 j.f, .int .i64 j.l, .int .i64 j.w, .bool j.dy, .bool j.wm], .agg #[.int .i64 s.d, .int .i64 s.r, .int .i64 s.f, .int .i64 s.t, .int .i64 s.w, .int .i64 s.p, .bool s.rn, .bool s.fr]] w fun e w' => e = .returned (.bool (false)) ∧ Below w.heap.size w w' := by
  have H0 := Lib.hid h2
  clear h2
  go_enter Try.func53, Try.ntmps53
  go_wp2_with fail
  obtain ⟨wB, hwB⟩ : ∃ wB, (((w.alloc (.cells #[.int .i64 j.n, .int .i64 j.r, .int .i64 j.c, .int .i64 j.f, .int .i64 j.l, .int .i64 j.w, .bool j.dy, .bool j.wm] 43)).alloc (.cells #[.int .i64 s.d, .int .i64 s.r, .int .i64 s.f, .int .i64 s.t, .int .i64 s.w, .int .i64 s.p, .bool s.rn, .bool s.fr] 51)).alloc (.cells #[.int .i64 s.d] 3)) = wB := ⟨_, rfl⟩
  have hb : Below w.heap.size w wB := by rw [← hwB]; exact (((Below.refl _ _).alloc (by simp <;> omega) _).alloc (by simp <;> omega) _).alloc (by simp <;> omega) _
  have hz : w.heap.size < wB.heap.size := by rw [← hwB]; simp; try omega
  have p0_0 : wB.cell? ⟨w.heap.size, 0, none⟩ = some (.int .i64 j.n) := by rw [← hwB]; simp [go_sem]
  have p0_1 : wB.cell? ⟨w.heap.size, 1, none⟩ = some (.int .i64 j.r) := by rw [← hwB]; simp [go_sem]
  have p0_2 : wB.cell? ⟨w.heap.size, 2, none⟩ = some (.int .i64 j.c) := by rw [← hwB]; simp [go_sem]
  have p0_3 : wB.cell? ⟨w.heap.size, 3, none⟩ = some (.int .i64 j.f) := by rw [← hwB]; simp [go_sem]
  have p0_4 : wB.cell? ⟨w.heap.size, 4, none⟩ = some (.int .i64 j.l) := by rw [← hwB]; simp [go_sem]
  have p0_5 : wB.cell? ⟨w.heap.size, 5, none⟩ = some (.int .i64 j.w) := by rw [← hwB]; simp [go_sem]
  have p0_6 : wB.cell? ⟨w.heap.size, 6, none⟩ = some (.bool j.dy) := by rw [← hwB]; simp [go_sem]
  have p0_7 : wB.cell? ⟨w.heap.size, 7, none⟩ = some (.bool j.wm) := by rw [← hwB]; simp [go_sem]
  have p1_0 : wB.cell? ⟨w.heap.size + 1, 0, none⟩ = some (.int .i64 s.d) := by rw [← hwB]; simp [go_sem]
  have p1_1 : wB.cell? ⟨w.heap.size + 1, 1, none⟩ = some (.int .i64 s.r) := by rw [← hwB]; simp [go_sem]
  have p1_2 : wB.cell? ⟨w.heap.size + 1, 2, none⟩ = some (.int .i64 s.f) := by rw [← hwB]; simp [go_sem]
  have p1_3 : wB.cell? ⟨w.heap.size + 1, 3, none⟩ = some (.int .i64 s.t) := by rw [← hwB]; simp [go_sem]
  have p1_4 : wB.cell? ⟨w.heap.size + 1, 4, none⟩ = some (.int .i64 s.w) := by rw [← hwB]; simp [go_sem]
  have p1_5 : wB.cell? ⟨w.heap.size + 1, 5, none⟩ = some (.int .i64 s.p) := by rw [← hwB]; simp [go_sem]
  have p1_6 : wB.cell? ⟨w.heap.size + 1, 6, none⟩ = some (.bool s.rn) := by rw [← hwB]; simp [go_sem]
  have p1_7 : wB.cell? ⟨w.heap.size + 1, 7, none⟩ = some (.bool s.fr) := by rw [← hwB]; simp [go_sem]
  have q0 : wB.cell? ⟨w.heap.size + 2, 0, none⟩ = some (.int .i64 s.d) := by rw [← hwB]; simp [go_sem]
  rw [hwB]
  clear hwB
  refine (withinN1_any _ _ s.d _ _ q0).mono ?_
  rintro e w1 ⟨rfl, hb1⟩
  rw [H0.out]
  have p0_0 := cell_below p0_0 hb1
  have p0_1 := cell_below p0_1 hb1
  have p0_2 := cell_below p0_2 hb1
  have p0_3 := cell_below p0_3 hb1
  have p0_4 := cell_below p0_4 hb1
  have p0_5 := cell_below p0_5 hb1
  have p0_6 := cell_below p0_6 hb1
  have p0_7 := cell_below p0_7 hb1
  have p1_0 := cell_below p1_0 hb1
  have p1_1 := cell_below p1_1 hb1
  have p1_2 := cell_below p1_2 hb1
  have p1_3 := cell_below p1_3 hb1
  have p1_4 := cell_below p1_4 hb1
  have p1_5 := cell_below p1_5 hb1
  have p1_6 := cell_below p1_6 hb1
  have p1_7 := cell_below p1_7 hb1
  have hb := below_onN hb hb1 hb.size
  clear q0
  go_wp2_with fail
  go_ret
  exact ⟨rfl, hb⟩
set_option maxHeartbeats 1000000 in
theorem fits_3 (j : Jo) (s : Ni) (w : World) (h0 : (j.r == s.r) = true) (h1 : (j.w == s.w) = true) (h2 : btw s.d j.f j.l = true) (h3 : btw j.c s.f s.t = false) :
    Calls Try.prog 53 #[.agg #[.int .i64 j.n, .int .i64 j.r, .int .i64 j.c, .int .i64 j.f, .int .i64 j.l, .int .i64 j.w, .bool j.dy, .bool j.wm], .agg #[.int .i64 s.d, .int .i64 s.r, .int .i64 s.f, .int .i64 s.t, .int .i64 s.w, .int .i64 s.p, .bool s.rn, .bool s.fr]] w fun e w' => e = .returned (.bool (false)) ∧ Below w.heap.size w w' := by
  have H0 := Lib.hid h2
  have H1 := Lib.hid h3
  clear h2 h3
  go_enter Try.func53, Try.ntmps53
  go_wp2_with fail
  obtain ⟨wB, hwB⟩ : ∃ wB, (((w.alloc (.cells #[.int .i64 j.n, .int .i64 j.r, .int .i64 j.c, .int .i64 j.f, .int .i64 j.l, .int .i64 j.w, .bool j.dy, .bool j.wm] 43)).alloc (.cells #[.int .i64 s.d, .int .i64 s.r, .int .i64 s.f, .int .i64 s.t, .int .i64 s.w, .int .i64 s.p, .bool s.rn, .bool s.fr] 51)).alloc (.cells #[.int .i64 s.d] 3)) = wB := ⟨_, rfl⟩
  have hb : Below w.heap.size w wB := by rw [← hwB]; exact (((Below.refl _ _).alloc (by simp <;> omega) _).alloc (by simp <;> omega) _).alloc (by simp <;> omega) _
  have hz : w.heap.size < wB.heap.size := by rw [← hwB]; simp; try omega
  have p0_0 : wB.cell? ⟨w.heap.size, 0, none⟩ = some (.int .i64 j.n) := by rw [← hwB]; simp [go_sem]
  have p0_1 : wB.cell? ⟨w.heap.size, 1, none⟩ = some (.int .i64 j.r) := by rw [← hwB]; simp [go_sem]
  have p0_2 : wB.cell? ⟨w.heap.size, 2, none⟩ = some (.int .i64 j.c) := by rw [← hwB]; simp [go_sem]
  have p0_3 : wB.cell? ⟨w.heap.size, 3, none⟩ = some (.int .i64 j.f) := by rw [← hwB]; simp [go_sem]
  have p0_4 : wB.cell? ⟨w.heap.size, 4, none⟩ = some (.int .i64 j.l) := by rw [← hwB]; simp [go_sem]
  have p0_5 : wB.cell? ⟨w.heap.size, 5, none⟩ = some (.int .i64 j.w) := by rw [← hwB]; simp [go_sem]
  have p0_6 : wB.cell? ⟨w.heap.size, 6, none⟩ = some (.bool j.dy) := by rw [← hwB]; simp [go_sem]
  have p0_7 : wB.cell? ⟨w.heap.size, 7, none⟩ = some (.bool j.wm) := by rw [← hwB]; simp [go_sem]
  have p1_0 : wB.cell? ⟨w.heap.size + 1, 0, none⟩ = some (.int .i64 s.d) := by rw [← hwB]; simp [go_sem]
  have p1_1 : wB.cell? ⟨w.heap.size + 1, 1, none⟩ = some (.int .i64 s.r) := by rw [← hwB]; simp [go_sem]
  have p1_2 : wB.cell? ⟨w.heap.size + 1, 2, none⟩ = some (.int .i64 s.f) := by rw [← hwB]; simp [go_sem]
  have p1_3 : wB.cell? ⟨w.heap.size + 1, 3, none⟩ = some (.int .i64 s.t) := by rw [← hwB]; simp [go_sem]
  have p1_4 : wB.cell? ⟨w.heap.size + 1, 4, none⟩ = some (.int .i64 s.w) := by rw [← hwB]; simp [go_sem]
  have p1_5 : wB.cell? ⟨w.heap.size + 1, 5, none⟩ = some (.int .i64 s.p) := by rw [← hwB]; simp [go_sem]
  have p1_6 : wB.cell? ⟨w.heap.size + 1, 6, none⟩ = some (.bool s.rn) := by rw [← hwB]; simp [go_sem]
  have p1_7 : wB.cell? ⟨w.heap.size + 1, 7, none⟩ = some (.bool s.fr) := by rw [← hwB]; simp [go_sem]
  have q0 : wB.cell? ⟨w.heap.size + 2, 0, none⟩ = some (.int .i64 s.d) := by rw [← hwB]; simp [go_sem]
  rw [hwB]
  clear hwB
  refine (withinN1_any _ _ s.d _ _ q0).mono ?_
  rintro e w1 ⟨rfl, hb1⟩
  rw [H0.out]
  have p0_0 := cell_below p0_0 hb1
  have p0_1 := cell_below p0_1 hb1
  have p0_2 := cell_below p0_2 hb1
  have p0_3 := cell_below p0_3 hb1
  have p0_4 := cell_below p0_4 hb1
  have p0_5 := cell_below p0_5 hb1
  have p0_6 := cell_below p0_6 hb1
  have p0_7 := cell_below p0_7 hb1
  have p1_0 := cell_below p1_0 hb1
  have p1_1 := cell_below p1_1 hb1
  have p1_2 := cell_below p1_2 hb1
  have p1_3 := cell_below p1_3 hb1
  have p1_4 := cell_below p1_4 hb1
  have p1_5 := cell_below p1_5 hb1
  have p1_6 := cell_below p1_6 hb1
  have p1_7 := cell_below p1_7 hb1
  have hb := below_onN hb hb1 hb.size
  clear q0
  go_wp2_with fail
  refine (withinN1_any _ _ j.c _ _ (by simp [go_sem])).mono ?_
  rintro e w2 ⟨rfl, hb2⟩
  rw [H1.out]
  have p0_0 := cell_below p0_0 (box_below hb2)
  have p0_1 := cell_below p0_1 (box_below hb2)
  have p0_2 := cell_below p0_2 (box_below hb2)
  have p0_3 := cell_below p0_3 (box_below hb2)
  have p0_4 := cell_below p0_4 (box_below hb2)
  have p0_5 := cell_below p0_5 (box_below hb2)
  have p0_6 := cell_below p0_6 (box_below hb2)
  have p0_7 := cell_below p0_7 (box_below hb2)
  have p1_0 := cell_below p1_0 (box_below hb2)
  have p1_1 := cell_below p1_1 (box_below hb2)
  have p1_2 := cell_below p1_2 (box_below hb2)
  have p1_3 := cell_below p1_3 (box_below hb2)
  have p1_4 := cell_below p1_4 (box_below hb2)
  have p1_5 := cell_below p1_5 (box_below hb2)
  have p1_6 := cell_below p1_6 (box_below hb2)
  have p1_7 := cell_below p1_7 (box_below hb2)
  have hb := below_onN hb (box_below hb2) hb.size
  go_wp2_with fail
  go_ret
  exact ⟨rfl, hb⟩
set_option maxHeartbeats 1000000 in
theorem fits_5truetruetruetrue (j : Jo) (s : Ni) (w : World) (h0 : (j.r == s.r) = true) (h1 : (j.w == s.w) = true) (h2 : btw s.d j.f j.l = true) (h3 : btw j.c s.f s.t = true) (g0 : j.dy = true) (g1 : s.rn = true) (g2 : j.wm = true) (g3 : s.fr = true) :
    Calls Try.prog 53 #[.agg #[.int .i64 j.n, .int .i64 j.r, .int .i64 j.c, .int .i64 j.f, .int .i64 j.l, .int .i64 j.w, .bool j.dy, .bool j.wm], .agg #[.int .i64 s.d, .int .i64 s.r, .int .i64 s.f, .int .i64 s.t, .int .i64 s.w, .int .i64 s.p, .bool s.rn, .bool s.fr]] w fun e w' => e = .returned (.bool (false)) ∧ Below w.heap.size w w' := by
  have H0 := Lib.hid h2
  have H1 := Lib.hid h3
  clear h2 h3
  rw [g0, g1, g2, g3]
  clear g0 g1 g2 g3
  go_enter Try.func53, Try.ntmps53
  go_wp2_with fail
  obtain ⟨wB, hwB⟩ : ∃ wB, (((w.alloc (.cells #[.int .i64 j.n, .int .i64 j.r, .int .i64 j.c, .int .i64 j.f, .int .i64 j.l, .int .i64 j.w, .bool true, .bool true] 43)).alloc (.cells #[.int .i64 s.d, .int .i64 s.r, .int .i64 s.f, .int .i64 s.t, .int .i64 s.w, .int .i64 s.p, .bool true, .bool true] 51)).alloc (.cells #[.int .i64 s.d] 3)) = wB := ⟨_, rfl⟩
  have hb : Below w.heap.size w wB := by rw [← hwB]; exact (((Below.refl _ _).alloc (by simp <;> omega) _).alloc (by simp <;> omega) _).alloc (by simp <;> omega) _
  have hz : w.heap.size < wB.heap.size := by rw [← hwB]; simp; try omega
  have p0_0 : wB.cell? ⟨w.heap.size, 0, none⟩ = some (.int .i64 j.n) := by rw [← hwB]; simp [go_sem]
  have p0_1 : wB.cell? ⟨w.heap.size, 1, none⟩ = some (.int .i64 j.r) := by rw [← hwB]; simp [go_sem]
  have p0_2 : wB.cell? ⟨w.heap.size, 2, none⟩ = some (.int .i64 j.c) := by rw [← hwB]; simp [go_sem]
  have p0_3 : wB.cell? ⟨w.heap.size, 3, none⟩ = some (.int .i64 j.f) := by rw [← hwB]; simp [go_sem]
  have p0_4 : wB.cell? ⟨w.heap.size, 4, none⟩ = some (.int .i64 j.l) := by rw [← hwB]; simp [go_sem]
  have p0_5 : wB.cell? ⟨w.heap.size, 5, none⟩ = some (.int .i64 j.w) := by rw [← hwB]; simp [go_sem]
  have p0_6 : wB.cell? ⟨w.heap.size, 6, none⟩ = some (.bool true) := by rw [← hwB]; simp [go_sem]
  have p0_7 : wB.cell? ⟨w.heap.size, 7, none⟩ = some (.bool true) := by rw [← hwB]; simp [go_sem]
  have p1_0 : wB.cell? ⟨w.heap.size + 1, 0, none⟩ = some (.int .i64 s.d) := by rw [← hwB]; simp [go_sem]
  have p1_1 : wB.cell? ⟨w.heap.size + 1, 1, none⟩ = some (.int .i64 s.r) := by rw [← hwB]; simp [go_sem]
  have p1_2 : wB.cell? ⟨w.heap.size + 1, 2, none⟩ = some (.int .i64 s.f) := by rw [← hwB]; simp [go_sem]
  have p1_3 : wB.cell? ⟨w.heap.size + 1, 3, none⟩ = some (.int .i64 s.t) := by rw [← hwB]; simp [go_sem]
  have p1_4 : wB.cell? ⟨w.heap.size + 1, 4, none⟩ = some (.int .i64 s.w) := by rw [← hwB]; simp [go_sem]
  have p1_5 : wB.cell? ⟨w.heap.size + 1, 5, none⟩ = some (.int .i64 s.p) := by rw [← hwB]; simp [go_sem]
  have p1_6 : wB.cell? ⟨w.heap.size + 1, 6, none⟩ = some (.bool true) := by rw [← hwB]; simp [go_sem]
  have p1_7 : wB.cell? ⟨w.heap.size + 1, 7, none⟩ = some (.bool true) := by rw [← hwB]; simp [go_sem]
  have q0 : wB.cell? ⟨w.heap.size + 2, 0, none⟩ = some (.int .i64 s.d) := by rw [← hwB]; simp [go_sem]
  rw [hwB]
  clear hwB
  refine (withinN1_any _ _ s.d _ _ q0).mono ?_
  rintro e w1 ⟨rfl, hb1⟩
  rw [H0.out]
  have p0_0 := cell_below p0_0 hb1
  have p0_1 := cell_below p0_1 hb1
  have p0_2 := cell_below p0_2 hb1
  have p0_3 := cell_below p0_3 hb1
  have p0_4 := cell_below p0_4 hb1
  have p0_5 := cell_below p0_5 hb1
  have p0_6 := cell_below p0_6 hb1
  have p0_7 := cell_below p0_7 hb1
  have p1_0 := cell_below p1_0 hb1
  have p1_1 := cell_below p1_1 hb1
  have p1_2 := cell_below p1_2 hb1
  have p1_3 := cell_below p1_3 hb1
  have p1_4 := cell_below p1_4 hb1
  have p1_5 := cell_below p1_5 hb1
  have p1_6 := cell_below p1_6 hb1
  have p1_7 := cell_below p1_7 hb1
  have hb := below_onN hb hb1 hb.size
  clear q0
  go_wp2_with fail
  refine (withinN1_any _ _ j.c _ _ (by simp [go_sem])).mono ?_
  rintro e w2 ⟨rfl, hb2⟩
  rw [H1.out]
  have p0_0 := cell_below p0_0 (box_below hb2)
  have p0_1 := cell_below p0_1 (box_below hb2)
  have p0_2 := cell_below p0_2 (box_below hb2)
  have p0_3 := cell_below p0_3 (box_below hb2)
  have p0_4 := cell_below p0_4 (box_below hb2)
  have p0_5 := cell_below p0_5 (box_below hb2)
  have p0_6 := cell_below p0_6 (box_below hb2)
  have p0_7 := cell_below p0_7 (box_below hb2)
  have p1_0 := cell_below p1_0 (box_below hb2)
  have p1_1 := cell_below p1_1 (box_below hb2)
  have p1_2 := cell_below p1_2 (box_below hb2)
  have p1_3 := cell_below p1_3 (box_below hb2)
  have p1_4 := cell_below p1_4 (box_below hb2)
  have p1_5 := cell_below p1_5 (box_below hb2)
  have p1_6 := cell_below p1_6 (box_below hb2)
  have p1_7 := cell_below p1_7 (box_below hb2)
  have hb := below_onN hb (box_below hb2) hb.size
  go_wp2_with fail
  go_ret
  exact ⟨rfl, hb⟩
set_option maxHeartbeats 1000000 in
theorem fits_5truetruetruefalse (j : Jo) (s : Ni) (w : World) (h0 : (j.r == s.r) = true) (h1 : (j.w == s.w) = true) (h2 : btw s.d j.f j.l = true) (h3 : btw j.c s.f s.t = true) (g0 : j.dy = true) (g1 : s.rn = true) (g2 : j.wm = true) (g3 : s.fr = false) :
    Calls Try.prog 53 #[.agg #[.int .i64 j.n, .int .i64 j.r, .int .i64 j.c, .int .i64 j.f, .int .i64 j.l, .int .i64 j.w, .bool j.dy, .bool j.wm], .agg #[.int .i64 s.d, .int .i64 s.r, .int .i64 s.f, .int .i64 s.t, .int .i64 s.w, .int .i64 s.p, .bool s.rn, .bool s.fr]] w fun e w' => e = .returned (.bool (false)) ∧ Below w.heap.size w w' := by
  have H0 := Lib.hid h2
  have H1 := Lib.hid h3
  clear h2 h3
  rw [g0, g1, g2, g3]
  clear g0 g1 g2 g3
  go_enter Try.func53, Try.ntmps53
  go_wp2_with fail
  obtain ⟨wB, hwB⟩ : ∃ wB, (((w.alloc (.cells #[.int .i64 j.n, .int .i64 j.r, .int .i64 j.c, .int .i64 j.f, .int .i64 j.l, .int .i64 j.w, .bool true, .bool true] 43)).alloc (.cells #[.int .i64 s.d, .int .i64 s.r, .int .i64 s.f, .int .i64 s.t, .int .i64 s.w, .int .i64 s.p, .bool true, .bool false] 51)).alloc (.cells #[.int .i64 s.d] 3)) = wB := ⟨_, rfl⟩
  have hb : Below w.heap.size w wB := by rw [← hwB]; exact (((Below.refl _ _).alloc (by simp <;> omega) _).alloc (by simp <;> omega) _).alloc (by simp <;> omega) _
  have hz : w.heap.size < wB.heap.size := by rw [← hwB]; simp; try omega
  have p0_0 : wB.cell? ⟨w.heap.size, 0, none⟩ = some (.int .i64 j.n) := by rw [← hwB]; simp [go_sem]
  have p0_1 : wB.cell? ⟨w.heap.size, 1, none⟩ = some (.int .i64 j.r) := by rw [← hwB]; simp [go_sem]
  have p0_2 : wB.cell? ⟨w.heap.size, 2, none⟩ = some (.int .i64 j.c) := by rw [← hwB]; simp [go_sem]
  have p0_3 : wB.cell? ⟨w.heap.size, 3, none⟩ = some (.int .i64 j.f) := by rw [← hwB]; simp [go_sem]
  have p0_4 : wB.cell? ⟨w.heap.size, 4, none⟩ = some (.int .i64 j.l) := by rw [← hwB]; simp [go_sem]
  have p0_5 : wB.cell? ⟨w.heap.size, 5, none⟩ = some (.int .i64 j.w) := by rw [← hwB]; simp [go_sem]
  have p0_6 : wB.cell? ⟨w.heap.size, 6, none⟩ = some (.bool true) := by rw [← hwB]; simp [go_sem]
  have p0_7 : wB.cell? ⟨w.heap.size, 7, none⟩ = some (.bool true) := by rw [← hwB]; simp [go_sem]
  have p1_0 : wB.cell? ⟨w.heap.size + 1, 0, none⟩ = some (.int .i64 s.d) := by rw [← hwB]; simp [go_sem]
  have p1_1 : wB.cell? ⟨w.heap.size + 1, 1, none⟩ = some (.int .i64 s.r) := by rw [← hwB]; simp [go_sem]
  have p1_2 : wB.cell? ⟨w.heap.size + 1, 2, none⟩ = some (.int .i64 s.f) := by rw [← hwB]; simp [go_sem]
  have p1_3 : wB.cell? ⟨w.heap.size + 1, 3, none⟩ = some (.int .i64 s.t) := by rw [← hwB]; simp [go_sem]
  have p1_4 : wB.cell? ⟨w.heap.size + 1, 4, none⟩ = some (.int .i64 s.w) := by rw [← hwB]; simp [go_sem]
  have p1_5 : wB.cell? ⟨w.heap.size + 1, 5, none⟩ = some (.int .i64 s.p) := by rw [← hwB]; simp [go_sem]
  have p1_6 : wB.cell? ⟨w.heap.size + 1, 6, none⟩ = some (.bool true) := by rw [← hwB]; simp [go_sem]
  have p1_7 : wB.cell? ⟨w.heap.size + 1, 7, none⟩ = some (.bool false) := by rw [← hwB]; simp [go_sem]
  have q0 : wB.cell? ⟨w.heap.size + 2, 0, none⟩ = some (.int .i64 s.d) := by rw [← hwB]; simp [go_sem]
  rw [hwB]
  clear hwB
  refine (withinN1_any _ _ s.d _ _ q0).mono ?_
  rintro e w1 ⟨rfl, hb1⟩
  rw [H0.out]
  have p0_0 := cell_below p0_0 hb1
  have p0_1 := cell_below p0_1 hb1
  have p0_2 := cell_below p0_2 hb1
  have p0_3 := cell_below p0_3 hb1
  have p0_4 := cell_below p0_4 hb1
  have p0_5 := cell_below p0_5 hb1
  have p0_6 := cell_below p0_6 hb1
  have p0_7 := cell_below p0_7 hb1
  have p1_0 := cell_below p1_0 hb1
  have p1_1 := cell_below p1_1 hb1
  have p1_2 := cell_below p1_2 hb1
  have p1_3 := cell_below p1_3 hb1
  have p1_4 := cell_below p1_4 hb1
  have p1_5 := cell_below p1_5 hb1
  have p1_6 := cell_below p1_6 hb1
  have p1_7 := cell_below p1_7 hb1
  have hb := below_onN hb hb1 hb.size
  clear q0
  go_wp2_with fail
  refine (withinN1_any _ _ j.c _ _ (by simp [go_sem])).mono ?_
  rintro e w2 ⟨rfl, hb2⟩
  rw [H1.out]
  have p0_0 := cell_below p0_0 (box_below hb2)
  have p0_1 := cell_below p0_1 (box_below hb2)
  have p0_2 := cell_below p0_2 (box_below hb2)
  have p0_3 := cell_below p0_3 (box_below hb2)
  have p0_4 := cell_below p0_4 (box_below hb2)
  have p0_5 := cell_below p0_5 (box_below hb2)
  have p0_6 := cell_below p0_6 (box_below hb2)
  have p0_7 := cell_below p0_7 (box_below hb2)
  have p1_0 := cell_below p1_0 (box_below hb2)
  have p1_1 := cell_below p1_1 (box_below hb2)
  have p1_2 := cell_below p1_2 (box_below hb2)
  have p1_3 := cell_below p1_3 (box_below hb2)
  have p1_4 := cell_below p1_4 (box_below hb2)
  have p1_5 := cell_below p1_5 (box_below hb2)
  have p1_6 := cell_below p1_6 (box_below hb2)
  have p1_7 := cell_below p1_7 (box_below hb2)
  have hb := below_onN hb (box_below hb2) hb.size
  go_wp2_with fail
  go_ret
  exact ⟨rfl, hb⟩
set_option maxHeartbeats 1000000 in
theorem fits_5truetruefalsetrue (j : Jo) (s : Ni) (w : World) (h0 : (j.r == s.r) = true) (h1 : (j.w == s.w) = true) (h2 : btw s.d j.f j.l = true) (h3 : btw j.c s.f s.t = true) (g0 : j.dy = true) (g1 : s.rn = true) (g2 : j.wm = false) (g3 : s.fr = true) :
    Calls Try.prog 53 #[.agg #[.int .i64 j.n, .int .i64 j.r, .int .i64 j.c, .int .i64 j.f, .int .i64 j.l, .int .i64 j.w, .bool j.dy, .bool j.wm], .agg #[.int .i64 s.d, .int .i64 s.r, .int .i64 s.f, .int .i64 s.t, .int .i64 s.w, .int .i64 s.p, .bool s.rn, .bool s.fr]] w fun e w' => e = .returned (.bool (false)) ∧ Below w.heap.size w w' := by
  have H0 := Lib.hid h2
  have H1 := Lib.hid h3
  clear h2 h3
  rw [g0, g1, g2, g3]
  clear g0 g1 g2 g3
  go_enter Try.func53, Try.ntmps53
  go_wp2_with fail
  obtain ⟨wB, hwB⟩ : ∃ wB, (((w.alloc (.cells #[.int .i64 j.n, .int .i64 j.r, .int .i64 j.c, .int .i64 j.f, .int .i64 j.l, .int .i64 j.w, .bool true, .bool false] 43)).alloc (.cells #[.int .i64 s.d, .int .i64 s.r, .int .i64 s.f, .int .i64 s.t, .int .i64 s.w, .int .i64 s.p, .bool true, .bool true] 51)).alloc (.cells #[.int .i64 s.d] 3)) = wB := ⟨_, rfl⟩
  have hb : Below w.heap.size w wB := by rw [← hwB]; exact (((Below.refl _ _).alloc (by simp <;> omega) _).alloc (by simp <;> omega) _).alloc (by simp <;> omega) _
  have hz : w.heap.size < wB.heap.size := by rw [← hwB]; simp; try omega
  have p0_0 : wB.cell? ⟨w.heap.size, 0, none⟩ = some (.int .i64 j.n) := by rw [← hwB]; simp [go_sem]
  have p0_1 : wB.cell? ⟨w.heap.size, 1, none⟩ = some (.int .i64 j.r) := by rw [← hwB]; simp [go_sem]
  have p0_2 : wB.cell? ⟨w.heap.size, 2, none⟩ = some (.int .i64 j.c) := by rw [← hwB]; simp [go_sem]
  have p0_3 : wB.cell? ⟨w.heap.size, 3, none⟩ = some (.int .i64 j.f) := by rw [← hwB]; simp [go_sem]
  have p0_4 : wB.cell? ⟨w.heap.size, 4, none⟩ = some (.int .i64 j.l) := by rw [← hwB]; simp [go_sem]
  have p0_5 : wB.cell? ⟨w.heap.size, 5, none⟩ = some (.int .i64 j.w) := by rw [← hwB]; simp [go_sem]
  have p0_6 : wB.cell? ⟨w.heap.size, 6, none⟩ = some (.bool true) := by rw [← hwB]; simp [go_sem]
  have p0_7 : wB.cell? ⟨w.heap.size, 7, none⟩ = some (.bool false) := by rw [← hwB]; simp [go_sem]
  have p1_0 : wB.cell? ⟨w.heap.size + 1, 0, none⟩ = some (.int .i64 s.d) := by rw [← hwB]; simp [go_sem]
  have p1_1 : wB.cell? ⟨w.heap.size + 1, 1, none⟩ = some (.int .i64 s.r) := by rw [← hwB]; simp [go_sem]
  have p1_2 : wB.cell? ⟨w.heap.size + 1, 2, none⟩ = some (.int .i64 s.f) := by rw [← hwB]; simp [go_sem]
  have p1_3 : wB.cell? ⟨w.heap.size + 1, 3, none⟩ = some (.int .i64 s.t) := by rw [← hwB]; simp [go_sem]
  have p1_4 : wB.cell? ⟨w.heap.size + 1, 4, none⟩ = some (.int .i64 s.w) := by rw [← hwB]; simp [go_sem]
  have p1_5 : wB.cell? ⟨w.heap.size + 1, 5, none⟩ = some (.int .i64 s.p) := by rw [← hwB]; simp [go_sem]
  have p1_6 : wB.cell? ⟨w.heap.size + 1, 6, none⟩ = some (.bool true) := by rw [← hwB]; simp [go_sem]
  have p1_7 : wB.cell? ⟨w.heap.size + 1, 7, none⟩ = some (.bool true) := by rw [← hwB]; simp [go_sem]
  have q0 : wB.cell? ⟨w.heap.size + 2, 0, none⟩ = some (.int .i64 s.d) := by rw [← hwB]; simp [go_sem]
  rw [hwB]
  clear hwB
  refine (withinN1_any _ _ s.d _ _ q0).mono ?_
  rintro e w1 ⟨rfl, hb1⟩
  rw [H0.out]
  have p0_0 := cell_below p0_0 hb1
  have p0_1 := cell_below p0_1 hb1
  have p0_2 := cell_below p0_2 hb1
  have p0_3 := cell_below p0_3 hb1
  have p0_4 := cell_below p0_4 hb1
  have p0_5 := cell_below p0_5 hb1
  have p0_6 := cell_below p0_6 hb1
  have p0_7 := cell_below p0_7 hb1
  have p1_0 := cell_below p1_0 hb1
  have p1_1 := cell_below p1_1 hb1
  have p1_2 := cell_below p1_2 hb1
  have p1_3 := cell_below p1_3 hb1
  have p1_4 := cell_below p1_4 hb1
  have p1_5 := cell_below p1_5 hb1
  have p1_6 := cell_below p1_6 hb1
  have p1_7 := cell_below p1_7 hb1
  have hb := below_onN hb hb1 hb.size
  clear q0
  go_wp2_with fail
  refine (withinN1_any _ _ j.c _ _ (by simp [go_sem])).mono ?_
  rintro e w2 ⟨rfl, hb2⟩
  rw [H1.out]
  have p0_0 := cell_below p0_0 (box_below hb2)
  have p0_1 := cell_below p0_1 (box_below hb2)
  have p0_2 := cell_below p0_2 (box_below hb2)
  have p0_3 := cell_below p0_3 (box_below hb2)
  have p0_4 := cell_below p0_4 (box_below hb2)
  have p0_5 := cell_below p0_5 (box_below hb2)
  have p0_6 := cell_below p0_6 (box_below hb2)
  have p0_7 := cell_below p0_7 (box_below hb2)
  have p1_0 := cell_below p1_0 (box_below hb2)
  have p1_1 := cell_below p1_1 (box_below hb2)
  have p1_2 := cell_below p1_2 (box_below hb2)
  have p1_3 := cell_below p1_3 (box_below hb2)
  have p1_4 := cell_below p1_4 (box_below hb2)
  have p1_5 := cell_below p1_5 (box_below hb2)
  have p1_6 := cell_below p1_6 (box_below hb2)
  have p1_7 := cell_below p1_7 (box_below hb2)
  have hb := below_onN hb (box_below hb2) hb.size
  go_wp2_with fail
  go_ret
  exact ⟨rfl, hb⟩
set_option maxHeartbeats 1000000 in
theorem fits_5truetruefalsefalse (j : Jo) (s : Ni) (w : World) (h0 : (j.r == s.r) = true) (h1 : (j.w == s.w) = true) (h2 : btw s.d j.f j.l = true) (h3 : btw j.c s.f s.t = true) (g0 : j.dy = true) (g1 : s.rn = true) (g2 : j.wm = false) (g3 : s.fr = false) :
    Calls Try.prog 53 #[.agg #[.int .i64 j.n, .int .i64 j.r, .int .i64 j.c, .int .i64 j.f, .int .i64 j.l, .int .i64 j.w, .bool j.dy, .bool j.wm], .agg #[.int .i64 s.d, .int .i64 s.r, .int .i64 s.f, .int .i64 s.t, .int .i64 s.w, .int .i64 s.p, .bool s.rn, .bool s.fr]] w fun e w' => e = .returned (.bool (false)) ∧ Below w.heap.size w w' := by
  have H0 := Lib.hid h2
  have H1 := Lib.hid h3
  clear h2 h3
  rw [g0, g1, g2, g3]
  clear g0 g1 g2 g3
  go_enter Try.func53, Try.ntmps53
  go_wp2_with fail
  obtain ⟨wB, hwB⟩ : ∃ wB, (((w.alloc (.cells #[.int .i64 j.n, .int .i64 j.r, .int .i64 j.c, .int .i64 j.f, .int .i64 j.l, .int .i64 j.w, .bool true, .bool false] 43)).alloc (.cells #[.int .i64 s.d, .int .i64 s.r, .int .i64 s.f, .int .i64 s.t, .int .i64 s.w, .int .i64 s.p, .bool true, .bool false] 51)).alloc (.cells #[.int .i64 s.d] 3)) = wB := ⟨_, rfl⟩
  have hb : Below w.heap.size w wB := by rw [← hwB]; exact (((Below.refl _ _).alloc (by simp <;> omega) _).alloc (by simp <;> omega) _).alloc (by simp <;> omega) _
  have hz : w.heap.size < wB.heap.size := by rw [← hwB]; simp; try omega
  have p0_0 : wB.cell? ⟨w.heap.size, 0, none⟩ = some (.int .i64 j.n) := by rw [← hwB]; simp [go_sem]
  have p0_1 : wB.cell? ⟨w.heap.size, 1, none⟩ = some (.int .i64 j.r) := by rw [← hwB]; simp [go_sem]
  have p0_2 : wB.cell? ⟨w.heap.size, 2, none⟩ = some (.int .i64 j.c) := by rw [← hwB]; simp [go_sem]
  have p0_3 : wB.cell? ⟨w.heap.size, 3, none⟩ = some (.int .i64 j.f) := by rw [← hwB]; simp [go_sem]
  have p0_4 : wB.cell? ⟨w.heap.size, 4, none⟩ = some (.int .i64 j.l) := by rw [← hwB]; simp [go_sem]
  have p0_5 : wB.cell? ⟨w.heap.size, 5, none⟩ = some (.int .i64 j.w) := by rw [← hwB]; simp [go_sem]
  have p0_6 : wB.cell? ⟨w.heap.size, 6, none⟩ = some (.bool true) := by rw [← hwB]; simp [go_sem]
  have p0_7 : wB.cell? ⟨w.heap.size, 7, none⟩ = some (.bool false) := by rw [← hwB]; simp [go_sem]
  have p1_0 : wB.cell? ⟨w.heap.size + 1, 0, none⟩ = some (.int .i64 s.d) := by rw [← hwB]; simp [go_sem]
  have p1_1 : wB.cell? ⟨w.heap.size + 1, 1, none⟩ = some (.int .i64 s.r) := by rw [← hwB]; simp [go_sem]
  have p1_2 : wB.cell? ⟨w.heap.size + 1, 2, none⟩ = some (.int .i64 s.f) := by rw [← hwB]; simp [go_sem]
  have p1_3 : wB.cell? ⟨w.heap.size + 1, 3, none⟩ = some (.int .i64 s.t) := by rw [← hwB]; simp [go_sem]
  have p1_4 : wB.cell? ⟨w.heap.size + 1, 4, none⟩ = some (.int .i64 s.w) := by rw [← hwB]; simp [go_sem]
  have p1_5 : wB.cell? ⟨w.heap.size + 1, 5, none⟩ = some (.int .i64 s.p) := by rw [← hwB]; simp [go_sem]
  have p1_6 : wB.cell? ⟨w.heap.size + 1, 6, none⟩ = some (.bool true) := by rw [← hwB]; simp [go_sem]
  have p1_7 : wB.cell? ⟨w.heap.size + 1, 7, none⟩ = some (.bool false) := by rw [← hwB]; simp [go_sem]
  have q0 : wB.cell? ⟨w.heap.size + 2, 0, none⟩ = some (.int .i64 s.d) := by rw [← hwB]; simp [go_sem]
  rw [hwB]
  clear hwB
  refine (withinN1_any _ _ s.d _ _ q0).mono ?_
  rintro e w1 ⟨rfl, hb1⟩
  rw [H0.out]
  have p0_0 := cell_below p0_0 hb1
  have p0_1 := cell_below p0_1 hb1
  have p0_2 := cell_below p0_2 hb1
  have p0_3 := cell_below p0_3 hb1
  have p0_4 := cell_below p0_4 hb1
  have p0_5 := cell_below p0_5 hb1
  have p0_6 := cell_below p0_6 hb1
  have p0_7 := cell_below p0_7 hb1
  have p1_0 := cell_below p1_0 hb1
  have p1_1 := cell_below p1_1 hb1
  have p1_2 := cell_below p1_2 hb1
  have p1_3 := cell_below p1_3 hb1
  have p1_4 := cell_below p1_4 hb1
  have p1_5 := cell_below p1_5 hb1
  have p1_6 := cell_below p1_6 hb1
  have p1_7 := cell_below p1_7 hb1
  have hb := below_onN hb hb1 hb.size
  clear q0
  go_wp2_with fail
  refine (withinN1_any _ _ j.c _ _ (by simp [go_sem])).mono ?_
  rintro e w2 ⟨rfl, hb2⟩
  rw [H1.out]
  have p0_0 := cell_below p0_0 (box_below hb2)
  have p0_1 := cell_below p0_1 (box_below hb2)
  have p0_2 := cell_below p0_2 (box_below hb2)
  have p0_3 := cell_below p0_3 (box_below hb2)
  have p0_4 := cell_below p0_4 (box_below hb2)
  have p0_5 := cell_below p0_5 (box_below hb2)
  have p0_6 := cell_below p0_6 (box_below hb2)
  have p0_7 := cell_below p0_7 (box_below hb2)
  have p1_0 := cell_below p1_0 (box_below hb2)
  have p1_1 := cell_below p1_1 (box_below hb2)
  have p1_2 := cell_below p1_2 (box_below hb2)
  have p1_3 := cell_below p1_3 (box_below hb2)
  have p1_4 := cell_below p1_4 (box_below hb2)
  have p1_5 := cell_below p1_5 (box_below hb2)
  have p1_6 := cell_below p1_6 (box_below hb2)
  have p1_7 := cell_below p1_7 (box_below hb2)
  have hb := below_onN hb (box_below hb2) hb.size
  go_wp2_with fail
  go_ret
  exact ⟨rfl, hb⟩
set_option maxHeartbeats 1000000 in
theorem fits_5truefalsetruetrue (j : Jo) (s : Ni) (w : World) (h0 : (j.r == s.r) = true) (h1 : (j.w == s.w) = true) (h2 : btw s.d j.f j.l = true) (h3 : btw j.c s.f s.t = true) (g0 : j.dy = true) (g1 : s.rn = false) (g2 : j.wm = true) (g3 : s.fr = true) :
    Calls Try.prog 53 #[.agg #[.int .i64 j.n, .int .i64 j.r, .int .i64 j.c, .int .i64 j.f, .int .i64 j.l, .int .i64 j.w, .bool j.dy, .bool j.wm], .agg #[.int .i64 s.d, .int .i64 s.r, .int .i64 s.f, .int .i64 s.t, .int .i64 s.w, .int .i64 s.p, .bool s.rn, .bool s.fr]] w fun e w' => e = .returned (.bool (false)) ∧ Below w.heap.size w w' := by
  have H0 := Lib.hid h2
  have H1 := Lib.hid h3
  clear h2 h3
  rw [g0, g1, g2, g3]
  clear g0 g1 g2 g3
  go_enter Try.func53, Try.ntmps53
  go_wp2_with fail
  obtain ⟨wB, hwB⟩ : ∃ wB, (((w.alloc (.cells #[.int .i64 j.n, .int .i64 j.r, .int .i64 j.c, .int .i64 j.f, .int .i64 j.l, .int .i64 j.w, .bool true, .bool true] 43)).alloc (.cells #[.int .i64 s.d, .int .i64 s.r, .int .i64 s.f, .int .i64 s.t, .int .i64 s.w, .int .i64 s.p, .bool false, .bool true] 51)).alloc (.cells #[.int .i64 s.d] 3)) = wB := ⟨_, rfl⟩
  have hb : Below w.heap.size w wB := by rw [← hwB]; exact (((Below.refl _ _).alloc (by simp <;> omega) _).alloc (by simp <;> omega) _).alloc (by simp <;> omega) _
  have hz : w.heap.size < wB.heap.size := by rw [← hwB]; simp; try omega
  have p0_0 : wB.cell? ⟨w.heap.size, 0, none⟩ = some (.int .i64 j.n) := by rw [← hwB]; simp [go_sem]
  have p0_1 : wB.cell? ⟨w.heap.size, 1, none⟩ = some (.int .i64 j.r) := by rw [← hwB]; simp [go_sem]
  have p0_2 : wB.cell? ⟨w.heap.size, 2, none⟩ = some (.int .i64 j.c) := by rw [← hwB]; simp [go_sem]
  have p0_3 : wB.cell? ⟨w.heap.size, 3, none⟩ = some (.int .i64 j.f) := by rw [← hwB]; simp [go_sem]
  have p0_4 : wB.cell? ⟨w.heap.size, 4, none⟩ = some (.int .i64 j.l) := by rw [← hwB]; simp [go_sem]
  have p0_5 : wB.cell? ⟨w.heap.size, 5, none⟩ = some (.int .i64 j.w) := by rw [← hwB]; simp [go_sem]
  have p0_6 : wB.cell? ⟨w.heap.size, 6, none⟩ = some (.bool true) := by rw [← hwB]; simp [go_sem]
  have p0_7 : wB.cell? ⟨w.heap.size, 7, none⟩ = some (.bool true) := by rw [← hwB]; simp [go_sem]
  have p1_0 : wB.cell? ⟨w.heap.size + 1, 0, none⟩ = some (.int .i64 s.d) := by rw [← hwB]; simp [go_sem]
  have p1_1 : wB.cell? ⟨w.heap.size + 1, 1, none⟩ = some (.int .i64 s.r) := by rw [← hwB]; simp [go_sem]
  have p1_2 : wB.cell? ⟨w.heap.size + 1, 2, none⟩ = some (.int .i64 s.f) := by rw [← hwB]; simp [go_sem]
  have p1_3 : wB.cell? ⟨w.heap.size + 1, 3, none⟩ = some (.int .i64 s.t) := by rw [← hwB]; simp [go_sem]
  have p1_4 : wB.cell? ⟨w.heap.size + 1, 4, none⟩ = some (.int .i64 s.w) := by rw [← hwB]; simp [go_sem]
  have p1_5 : wB.cell? ⟨w.heap.size + 1, 5, none⟩ = some (.int .i64 s.p) := by rw [← hwB]; simp [go_sem]
  have p1_6 : wB.cell? ⟨w.heap.size + 1, 6, none⟩ = some (.bool false) := by rw [← hwB]; simp [go_sem]
  have p1_7 : wB.cell? ⟨w.heap.size + 1, 7, none⟩ = some (.bool true) := by rw [← hwB]; simp [go_sem]
  have q0 : wB.cell? ⟨w.heap.size + 2, 0, none⟩ = some (.int .i64 s.d) := by rw [← hwB]; simp [go_sem]
  rw [hwB]
  clear hwB
  refine (withinN1_any _ _ s.d _ _ q0).mono ?_
  rintro e w1 ⟨rfl, hb1⟩
  rw [H0.out]
  have p0_0 := cell_below p0_0 hb1
  have p0_1 := cell_below p0_1 hb1
  have p0_2 := cell_below p0_2 hb1
  have p0_3 := cell_below p0_3 hb1
  have p0_4 := cell_below p0_4 hb1
  have p0_5 := cell_below p0_5 hb1
  have p0_6 := cell_below p0_6 hb1
  have p0_7 := cell_below p0_7 hb1
  have p1_0 := cell_below p1_0 hb1
  have p1_1 := cell_below p1_1 hb1
  have p1_2 := cell_below p1_2 hb1
  have p1_3 := cell_below p1_3 hb1
  have p1_4 := cell_below p1_4 hb1
  have p1_5 := cell_below p1_5 hb1
  have p1_6 := cell_below p1_6 hb1
  have p1_7 := cell_below p1_7 hb1
  have hb := below_onN hb hb1 hb.size
  clear q0
  go_wp2_with fail
  refine (withinN1_any _ _ j.c _ _ (by simp [go_sem])).mono ?_
  rintro e w2 ⟨rfl, hb2⟩
  rw [H1.out]
  have p0_0 := cell_below p0_0 (box_below hb2)
  have p0_1 := cell_below p0_1 (box_below hb2)
  have p0_2 := cell_below p0_2 (box_below hb2)
  have p0_3 := cell_below p0_3 (box_below hb2)
  have p0_4 := cell_below p0_4 (box_below hb2)
  have p0_5 := cell_below p0_5 (box_below hb2)
  have p0_6 := cell_below p0_6 (box_below hb2)
  have p0_7 := cell_below p0_7 (box_below hb2)
  have p1_0 := cell_below p1_0 (box_below hb2)
  have p1_1 := cell_below p1_1 (box_below hb2)
  have p1_2 := cell_below p1_2 (box_below hb2)
  have p1_3 := cell_below p1_3 (box_below hb2)
  have p1_4 := cell_below p1_4 (box_below hb2)
  have p1_5 := cell_below p1_5 (box_below hb2)
  have p1_6 := cell_below p1_6 (box_below hb2)
  have p1_7 := cell_below p1_7 (box_below hb2)
  have hb := below_onN hb (box_below hb2) hb.size
  go_wp2_with fail
  go_ret
  exact ⟨rfl, hb⟩
set_option maxHeartbeats 1000000 in
theorem fits_5truefalsetruefalse (j : Jo) (s : Ni) (w : World) (h0 : (j.r == s.r) = true) (h1 : (j.w == s.w) = true) (h2 : btw s.d j.f j.l = true) (h3 : btw j.c s.f s.t = true) (g0 : j.dy = true) (g1 : s.rn = false) (g2 : j.wm = true) (g3 : s.fr = false) :
    Calls Try.prog 53 #[.agg #[.int .i64 j.n, .int .i64 j.r, .int .i64 j.c, .int .i64 j.f, .int .i64 j.l, .int .i64 j.w, .bool j.dy, .bool j.wm], .agg #[.int .i64 s.d, .int .i64 s.r, .int .i64 s.f, .int .i64 s.t, .int .i64 s.w, .int .i64 s.p, .bool s.rn, .bool s.fr]] w fun e w' => e = .returned (.bool (true)) ∧ Below w.heap.size w w' := by
  have H0 := Lib.hid h2
  have H1 := Lib.hid h3
  clear h2 h3
  rw [g0, g1, g2, g3]
  clear g0 g1 g2 g3
  go_enter Try.func53, Try.ntmps53
  go_wp2_with fail
  obtain ⟨wB, hwB⟩ : ∃ wB, (((w.alloc (.cells #[.int .i64 j.n, .int .i64 j.r, .int .i64 j.c, .int .i64 j.f, .int .i64 j.l, .int .i64 j.w, .bool true, .bool true] 43)).alloc (.cells #[.int .i64 s.d, .int .i64 s.r, .int .i64 s.f, .int .i64 s.t, .int .i64 s.w, .int .i64 s.p, .bool false, .bool false] 51)).alloc (.cells #[.int .i64 s.d] 3)) = wB := ⟨_, rfl⟩
  have hb : Below w.heap.size w wB := by rw [← hwB]; exact (((Below.refl _ _).alloc (by simp <;> omega) _).alloc (by simp <;> omega) _).alloc (by simp <;> omega) _
  have hz : w.heap.size < wB.heap.size := by rw [← hwB]; simp; try omega
  have p0_0 : wB.cell? ⟨w.heap.size, 0, none⟩ = some (.int .i64 j.n) := by rw [← hwB]; simp [go_sem]
  have p0_1 : wB.cell? ⟨w.heap.size, 1, none⟩ = some (.int .i64 j.r) := by rw [← hwB]; simp [go_sem]
  have p0_2 : wB.cell? ⟨w.heap.size, 2, none⟩ = some (.int .i64 j.c) := by rw [← hwB]; simp [go_sem]
  have p0_3 : wB.cell? ⟨w.heap.size, 3, none⟩ = some (.int .i64 j.f) := by rw [← hwB]; simp [go_sem]
  have p0_4 : wB.cell? ⟨w.heap.size, 4, none⟩ = some (.int .i64 j.l) := by rw [← hwB]; simp [go_sem]
  have p0_5 : wB.cell? ⟨w.heap.size, 5, none⟩ = some (.int .i64 j.w) := by rw [← hwB]; simp [go_sem]
  have p0_6 : wB.cell? ⟨w.heap.size, 6, none⟩ = some (.bool true) := by rw [← hwB]; simp [go_sem]
  have p0_7 : wB.cell? ⟨w.heap.size, 7, none⟩ = some (.bool true) := by rw [← hwB]; simp [go_sem]
  have p1_0 : wB.cell? ⟨w.heap.size + 1, 0, none⟩ = some (.int .i64 s.d) := by rw [← hwB]; simp [go_sem]
  have p1_1 : wB.cell? ⟨w.heap.size + 1, 1, none⟩ = some (.int .i64 s.r) := by rw [← hwB]; simp [go_sem]
  have p1_2 : wB.cell? ⟨w.heap.size + 1, 2, none⟩ = some (.int .i64 s.f) := by rw [← hwB]; simp [go_sem]
  have p1_3 : wB.cell? ⟨w.heap.size + 1, 3, none⟩ = some (.int .i64 s.t) := by rw [← hwB]; simp [go_sem]
  have p1_4 : wB.cell? ⟨w.heap.size + 1, 4, none⟩ = some (.int .i64 s.w) := by rw [← hwB]; simp [go_sem]
  have p1_5 : wB.cell? ⟨w.heap.size + 1, 5, none⟩ = some (.int .i64 s.p) := by rw [← hwB]; simp [go_sem]
  have p1_6 : wB.cell? ⟨w.heap.size + 1, 6, none⟩ = some (.bool false) := by rw [← hwB]; simp [go_sem]
  have p1_7 : wB.cell? ⟨w.heap.size + 1, 7, none⟩ = some (.bool false) := by rw [← hwB]; simp [go_sem]
  have q0 : wB.cell? ⟨w.heap.size + 2, 0, none⟩ = some (.int .i64 s.d) := by rw [← hwB]; simp [go_sem]
  rw [hwB]
  clear hwB
  refine (withinN1_any _ _ s.d _ _ q0).mono ?_
  rintro e w1 ⟨rfl, hb1⟩
  rw [H0.out]
  have p0_0 := cell_below p0_0 hb1
  have p0_1 := cell_below p0_1 hb1
  have p0_2 := cell_below p0_2 hb1
  have p0_3 := cell_below p0_3 hb1
  have p0_4 := cell_below p0_4 hb1
  have p0_5 := cell_below p0_5 hb1
  have p0_6 := cell_below p0_6 hb1
  have p0_7 := cell_below p0_7 hb1
  have p1_0 := cell_below p1_0 hb1
  have p1_1 := cell_below p1_1 hb1
  have p1_2 := cell_below p1_2 hb1
  have p1_3 := cell_below p1_3 hb1
  have p1_4 := cell_below p1_4 hb1
  have p1_5 := cell_below p1_5 hb1
  have p1_6 := cell_below p1_6 hb1
  have p1_7 := cell_below p1_7 hb1
  have hb := below_onN hb hb1 hb.size
  clear q0
  go_wp2_with fail
  refine (withinN1_any _ _ j.c _ _ (by simp [go_sem])).mono ?_
  rintro e w2 ⟨rfl, hb2⟩
  rw [H1.out]
  have p0_0 := cell_below p0_0 (box_below hb2)
  have p0_1 := cell_below p0_1 (box_below hb2)
  have p0_2 := cell_below p0_2 (box_below hb2)
  have p0_3 := cell_below p0_3 (box_below hb2)
  have p0_4 := cell_below p0_4 (box_below hb2)
  have p0_5 := cell_below p0_5 (box_below hb2)
  have p0_6 := cell_below p0_6 (box_below hb2)
  have p0_7 := cell_below p0_7 (box_below hb2)
  have p1_0 := cell_below p1_0 (box_below hb2)
  have p1_1 := cell_below p1_1 (box_below hb2)
  have p1_2 := cell_below p1_2 (box_below hb2)
  have p1_3 := cell_below p1_3 (box_below hb2)
  have p1_4 := cell_below p1_4 (box_below hb2)
  have p1_5 := cell_below p1_5 (box_below hb2)
  have p1_6 := cell_below p1_6 (box_below hb2)
  have p1_7 := cell_below p1_7 (box_below hb2)
  have hb := below_onN hb (box_below hb2) hb.size
  go_wp2_with fail
  go_ret
  exact ⟨rfl, hb⟩
set_option maxHeartbeats 1000000 in
theorem fits_5truefalsefalsetrue (j : Jo) (s : Ni) (w : World) (h0 : (j.r == s.r) = true) (h1 : (j.w == s.w) = true) (h2 : btw s.d j.f j.l = true) (h3 : btw j.c s.f s.t = true) (g0 : j.dy = true) (g1 : s.rn = false) (g2 : j.wm = false) (g3 : s.fr = true) :
    Calls Try.prog 53 #[.agg #[.int .i64 j.n, .int .i64 j.r, .int .i64 j.c, .int .i64 j.f, .int .i64 j.l, .int .i64 j.w, .bool j.dy, .bool j.wm], .agg #[.int .i64 s.d, .int .i64 s.r, .int .i64 s.f, .int .i64 s.t, .int .i64 s.w, .int .i64 s.p, .bool s.rn, .bool s.fr]] w fun e w' => e = .returned (.bool (true)) ∧ Below w.heap.size w w' := by
  have H0 := Lib.hid h2
  have H1 := Lib.hid h3
  clear h2 h3
  rw [g0, g1, g2, g3]
  clear g0 g1 g2 g3
  go_enter Try.func53, Try.ntmps53
  go_wp2_with fail
  obtain ⟨wB, hwB⟩ : ∃ wB, (((w.alloc (.cells #[.int .i64 j.n, .int .i64 j.r, .int .i64 j.c, .int .i64 j.f, .int .i64 j.l, .int .i64 j.w, .bool true, .bool false] 43)).alloc (.cells #[.int .i64 s.d, .int .i64 s.r, .int .i64 s.f, .int .i64 s.t, .int .i64 s.w, .int .i64 s.p, .bool false, .bool true] 51)).alloc (.cells #[.int .i64 s.d] 3)) = wB := ⟨_, rfl⟩
  have hb : Below w.heap.size w wB := by rw [← hwB]; exact (((Below.refl _ _).alloc (by simp <;> omega) _).alloc (by simp <;> omega) _).alloc (by simp <;> omega) _
  have hz : w.heap.size < wB.heap.size := by rw [← hwB]; simp; try omega
  have p0_0 : wB.cell? ⟨w.heap.size, 0, none⟩ = some (.int .i64 j.n) := by rw [← hwB]; simp [go_sem]
  have p0_1 : wB.cell? ⟨w.heap.size, 1, none⟩ = some (.int .i64 j.r) := by rw [← hwB]; simp [go_sem]
  have p0_2 : wB.cell? ⟨w.heap.size, 2, none⟩ = some (.int .i64 j.c) := by rw [← hwB]; simp [go_sem]
  have p0_3 : wB.cell? ⟨w.heap.size, 3, none⟩ = some (.int .i64 j.f) := by rw [← hwB]; simp [go_sem]
  have p0_4 : wB.cell? ⟨w.heap.size, 4, none⟩ = some (.int .i64 j.l) := by rw [← hwB]; simp [go_sem]
  have p0_5 : wB.cell? ⟨w.heap.size, 5, none⟩ = some (.int .i64 j.w) := by rw [← hwB]; simp [go_sem]
  have p0_6 : wB.cell? ⟨w.heap.size, 6, none⟩ = some (.bool true) := by rw [← hwB]; simp [go_sem]
  have p0_7 : wB.cell? ⟨w.heap.size, 7, none⟩ = some (.bool false) := by rw [← hwB]; simp [go_sem]
  have p1_0 : wB.cell? ⟨w.heap.size + 1, 0, none⟩ = some (.int .i64 s.d) := by rw [← hwB]; simp [go_sem]
  have p1_1 : wB.cell? ⟨w.heap.size + 1, 1, none⟩ = some (.int .i64 s.r) := by rw [← hwB]; simp [go_sem]
  have p1_2 : wB.cell? ⟨w.heap.size + 1, 2, none⟩ = some (.int .i64 s.f) := by rw [← hwB]; simp [go_sem]
  have p1_3 : wB.cell? ⟨w.heap.size + 1, 3, none⟩ = some (.int .i64 s.t) := by rw [← hwB]; simp [go_sem]
  have p1_4 : wB.cell? ⟨w.heap.size + 1, 4, none⟩ = some (.int .i64 s.w) := by rw [← hwB]; simp [go_sem]
  have p1_5 : wB.cell? ⟨w.heap.size + 1, 5, none⟩ = some (.int .i64 s.p) := by rw [← hwB]; simp [go_sem]
  have p1_6 : wB.cell? ⟨w.heap.size + 1, 6, none⟩ = some (.bool false) := by rw [← hwB]; simp [go_sem]
  have p1_7 : wB.cell? ⟨w.heap.size + 1, 7, none⟩ = some (.bool true) := by rw [← hwB]; simp [go_sem]
  have q0 : wB.cell? ⟨w.heap.size + 2, 0, none⟩ = some (.int .i64 s.d) := by rw [← hwB]; simp [go_sem]
  rw [hwB]
  clear hwB
  refine (withinN1_any _ _ s.d _ _ q0).mono ?_
  rintro e w1 ⟨rfl, hb1⟩
  rw [H0.out]
  have p0_0 := cell_below p0_0 hb1
  have p0_1 := cell_below p0_1 hb1
  have p0_2 := cell_below p0_2 hb1
  have p0_3 := cell_below p0_3 hb1
  have p0_4 := cell_below p0_4 hb1
  have p0_5 := cell_below p0_5 hb1
  have p0_6 := cell_below p0_6 hb1
  have p0_7 := cell_below p0_7 hb1
  have p1_0 := cell_below p1_0 hb1
  have p1_1 := cell_below p1_1 hb1
  have p1_2 := cell_below p1_2 hb1
  have p1_3 := cell_below p1_3 hb1
  have p1_4 := cell_below p1_4 hb1
  have p1_5 := cell_below p1_5 hb1
  have p1_6 := cell_below p1_6 hb1
  have p1_7 := cell_below p1_7 hb1
  have hb := below_onN hb hb1 hb.size
  clear q0
  go_wp2_with fail
  refine (withinN1_any _ _ j.c _ _ (by simp [go_sem])).mono ?_
  rintro e w2 ⟨rfl, hb2⟩
  rw [H1.out]
  have p0_0 := cell_below p0_0 (box_below hb2)
  have p0_1 := cell_below p0_1 (box_below hb2)
  have p0_2 := cell_below p0_2 (box_below hb2)
  have p0_3 := cell_below p0_3 (box_below hb2)
  have p0_4 := cell_below p0_4 (box_below hb2)
  have p0_5 := cell_below p0_5 (box_below hb2)
  have p0_6 := cell_below p0_6 (box_below hb2)
  have p0_7 := cell_below p0_7 (box_below hb2)
  have p1_0 := cell_below p1_0 (box_below hb2)
  have p1_1 := cell_below p1_1 (box_below hb2)
  have p1_2 := cell_below p1_2 (box_below hb2)
  have p1_3 := cell_below p1_3 (box_below hb2)
  have p1_4 := cell_below p1_4 (box_below hb2)
  have p1_5 := cell_below p1_5 (box_below hb2)
  have p1_6 := cell_below p1_6 (box_below hb2)
  have p1_7 := cell_below p1_7 (box_below hb2)
  have hb := below_onN hb (box_below hb2) hb.size
  go_wp2_with fail
  go_ret
  exact ⟨rfl, hb⟩
set_option maxHeartbeats 1000000 in
theorem fits_5truefalsefalsefalse (j : Jo) (s : Ni) (w : World) (h0 : (j.r == s.r) = true) (h1 : (j.w == s.w) = true) (h2 : btw s.d j.f j.l = true) (h3 : btw j.c s.f s.t = true) (g0 : j.dy = true) (g1 : s.rn = false) (g2 : j.wm = false) (g3 : s.fr = false) :
    Calls Try.prog 53 #[.agg #[.int .i64 j.n, .int .i64 j.r, .int .i64 j.c, .int .i64 j.f, .int .i64 j.l, .int .i64 j.w, .bool j.dy, .bool j.wm], .agg #[.int .i64 s.d, .int .i64 s.r, .int .i64 s.f, .int .i64 s.t, .int .i64 s.w, .int .i64 s.p, .bool s.rn, .bool s.fr]] w fun e w' => e = .returned (.bool (true)) ∧ Below w.heap.size w w' := by
  have H0 := Lib.hid h2
  have H1 := Lib.hid h3
  clear h2 h3
  rw [g0, g1, g2, g3]
  clear g0 g1 g2 g3
  go_enter Try.func53, Try.ntmps53
  go_wp2_with fail
  obtain ⟨wB, hwB⟩ : ∃ wB, (((w.alloc (.cells #[.int .i64 j.n, .int .i64 j.r, .int .i64 j.c, .int .i64 j.f, .int .i64 j.l, .int .i64 j.w, .bool true, .bool false] 43)).alloc (.cells #[.int .i64 s.d, .int .i64 s.r, .int .i64 s.f, .int .i64 s.t, .int .i64 s.w, .int .i64 s.p, .bool false, .bool false] 51)).alloc (.cells #[.int .i64 s.d] 3)) = wB := ⟨_, rfl⟩
  have hb : Below w.heap.size w wB := by rw [← hwB]; exact (((Below.refl _ _).alloc (by simp <;> omega) _).alloc (by simp <;> omega) _).alloc (by simp <;> omega) _
  have hz : w.heap.size < wB.heap.size := by rw [← hwB]; simp; try omega
  have p0_0 : wB.cell? ⟨w.heap.size, 0, none⟩ = some (.int .i64 j.n) := by rw [← hwB]; simp [go_sem]
  have p0_1 : wB.cell? ⟨w.heap.size, 1, none⟩ = some (.int .i64 j.r) := by rw [← hwB]; simp [go_sem]
  have p0_2 : wB.cell? ⟨w.heap.size, 2, none⟩ = some (.int .i64 j.c) := by rw [← hwB]; simp [go_sem]
  have p0_3 : wB.cell? ⟨w.heap.size, 3, none⟩ = some (.int .i64 j.f) := by rw [← hwB]; simp [go_sem]
  have p0_4 : wB.cell? ⟨w.heap.size, 4, none⟩ = some (.int .i64 j.l) := by rw [← hwB]; simp [go_sem]
  have p0_5 : wB.cell? ⟨w.heap.size, 5, none⟩ = some (.int .i64 j.w) := by rw [← hwB]; simp [go_sem]
  have p0_6 : wB.cell? ⟨w.heap.size, 6, none⟩ = some (.bool true) := by rw [← hwB]; simp [go_sem]
  have p0_7 : wB.cell? ⟨w.heap.size, 7, none⟩ = some (.bool false) := by rw [← hwB]; simp [go_sem]
  have p1_0 : wB.cell? ⟨w.heap.size + 1, 0, none⟩ = some (.int .i64 s.d) := by rw [← hwB]; simp [go_sem]
  have p1_1 : wB.cell? ⟨w.heap.size + 1, 1, none⟩ = some (.int .i64 s.r) := by rw [← hwB]; simp [go_sem]
  have p1_2 : wB.cell? ⟨w.heap.size + 1, 2, none⟩ = some (.int .i64 s.f) := by rw [← hwB]; simp [go_sem]
  have p1_3 : wB.cell? ⟨w.heap.size + 1, 3, none⟩ = some (.int .i64 s.t) := by rw [← hwB]; simp [go_sem]
  have p1_4 : wB.cell? ⟨w.heap.size + 1, 4, none⟩ = some (.int .i64 s.w) := by rw [← hwB]; simp [go_sem]
  have p1_5 : wB.cell? ⟨w.heap.size + 1, 5, none⟩ = some (.int .i64 s.p) := by rw [← hwB]; simp [go_sem]
  have p1_6 : wB.cell? ⟨w.heap.size + 1, 6, none⟩ = some (.bool false) := by rw [← hwB]; simp [go_sem]
  have p1_7 : wB.cell? ⟨w.heap.size + 1, 7, none⟩ = some (.bool false) := by rw [← hwB]; simp [go_sem]
  have q0 : wB.cell? ⟨w.heap.size + 2, 0, none⟩ = some (.int .i64 s.d) := by rw [← hwB]; simp [go_sem]
  rw [hwB]
  clear hwB
  refine (withinN1_any _ _ s.d _ _ q0).mono ?_
  rintro e w1 ⟨rfl, hb1⟩
  rw [H0.out]
  have p0_0 := cell_below p0_0 hb1
  have p0_1 := cell_below p0_1 hb1
  have p0_2 := cell_below p0_2 hb1
  have p0_3 := cell_below p0_3 hb1
  have p0_4 := cell_below p0_4 hb1
  have p0_5 := cell_below p0_5 hb1
  have p0_6 := cell_below p0_6 hb1
  have p0_7 := cell_below p0_7 hb1
  have p1_0 := cell_below p1_0 hb1
  have p1_1 := cell_below p1_1 hb1
  have p1_2 := cell_below p1_2 hb1
  have p1_3 := cell_below p1_3 hb1
  have p1_4 := cell_below p1_4 hb1
  have p1_5 := cell_below p1_5 hb1
  have p1_6 := cell_below p1_6 hb1
  have p1_7 := cell_below p1_7 hb1
  have hb := below_onN hb hb1 hb.size
  clear q0
  go_wp2_with fail
  refine (withinN1_any _ _ j.c _ _ (by simp [go_sem])).mono ?_
  rintro e w2 ⟨rfl, hb2⟩
  rw [H1.out]
  have p0_0 := cell_below p0_0 (box_below hb2)
  have p0_1 := cell_below p0_1 (box_below hb2)
  have p0_2 := cell_below p0_2 (box_below hb2)
  have p0_3 := cell_below p0_3 (box_below hb2)
  have p0_4 := cell_below p0_4 (box_below hb2)
  have p0_5 := cell_below p0_5 (box_below hb2)
  have p0_6 := cell_below p0_6 (box_below hb2)
  have p0_7 := cell_below p0_7 (box_below hb2)
  have p1_0 := cell_below p1_0 (box_below hb2)
  have p1_1 := cell_below p1_1 (box_below hb2)
  have p1_2 := cell_below p1_2 (box_below hb2)
  have p1_3 := cell_below p1_3 (box_below hb2)
  have p1_4 := cell_below p1_4 (box_below hb2)
  have p1_5 := cell_below p1_5 (box_below hb2)
  have p1_6 := cell_below p1_6 (box_below hb2)
  have p1_7 := cell_below p1_7 (box_below hb2)
  have hb := below_onN hb (box_below hb2) hb.size
  go_wp2_with fail
  go_ret
  exact ⟨rfl, hb⟩
set_option maxHeartbeats 1000000 in
theorem fits_5falsetruetruetrue (j : Jo) (s : Ni) (w : World) (h0 : (j.r == s.r) = true) (h1 : (j.w == s.w) = true) (h2 : btw s.d j.f j.l = true) (h3 : btw j.c s.f s.t = true) (g0 : j.dy = false) (g1 : s.rn = true) (g2 : j.wm = true) (g3 : s.fr = true) :
    Calls Try.prog 53 #[.agg #[.int .i64 j.n, .int .i64 j.r, .int .i64 j.c, .int .i64 j.f, .int .i64 j.l, .int .i64 j.w, .bool j.dy, .bool j.wm], .agg #[.int .i64 s.d, .int .i64 s.r, .int .i64 s.f, .int .i64 s.t, .int .i64 s.w, .int .i64 s.p, .bool s.rn, .bool s.fr]] w fun e w' => e = .returned (.bool (false)) ∧ Below w.heap.size w w' := by
  have H0 := Lib.hid h2
  have H1 := Lib.hid h3
  clear h2 h3
  rw [g0, g1, g2, g3]
  clear g0 g1 g2 g3
  go_enter Try.func53, Try.ntmps53
  go_wp2_with fail
  obtain ⟨wB, hwB⟩ : ∃ wB, (((w.alloc (.cells #[.int .i64 j.n, .int .i64 j.r, .int .i64 j.c, .int .i64 j.f, .int .i64 j.l, .int .i64 j.w, .bool false, .bool true] 43)).alloc (.cells #[.int .i64 s.d, .int .i64 s.r, .int .i64 s.f, .int .i64 s.t, .int .i64 s.w, .int .i64 s.p, .bool true, .bool true] 51)).alloc (.cells #[.int .i64 s.d] 3)) = wB := ⟨_, rfl⟩
  have hb : Below w.heap.size w wB := by rw [← hwB]; exact (((Below.refl _ _).alloc (by simp <;> omega) _).alloc (by simp <;> omega) _).alloc (by simp <;> omega) _
  have hz : w.heap.size < wB.heap.size := by rw [← hwB]; simp; try omega
  have p0_0 : wB.cell? ⟨w.heap.size, 0, none⟩ = some (.int .i64 j.n) := by rw [← hwB]; simp [go_sem]
  have p0_1 : wB.cell? ⟨w.heap.size, 1, none⟩ = some (.int .i64 j.r) := by rw [← hwB]; simp [go_sem]
  have p0_2 : wB.cell? ⟨w.heap.size, 2, none⟩ = some (.int .i64 j.c) := by rw [← hwB]; simp [go_sem]
  have p0_3 : wB.cell? ⟨w.heap.size, 3, none⟩ = some (.int .i64 j.f) := by rw [← hwB]; simp [go_sem]
  have p0_4 : wB.cell? ⟨w.heap.size, 4, none⟩ = some (.int .i64 j.l) := by rw [← hwB]; simp [go_sem]
  have p0_5 : wB.cell? ⟨w.heap.size, 5, none⟩ = some (.int .i64 j.w) := by rw [← hwB]; simp [go_sem]
  have p0_6 : wB.cell? ⟨w.heap.size, 6, none⟩ = some (.bool false) := by rw [← hwB]; simp [go_sem]
  have p0_7 : wB.cell? ⟨w.heap.size, 7, none⟩ = some (.bool true) := by rw [← hwB]; simp [go_sem]
  have p1_0 : wB.cell? ⟨w.heap.size + 1, 0, none⟩ = some (.int .i64 s.d) := by rw [← hwB]; simp [go_sem]
  have p1_1 : wB.cell? ⟨w.heap.size + 1, 1, none⟩ = some (.int .i64 s.r) := by rw [← hwB]; simp [go_sem]
  have p1_2 : wB.cell? ⟨w.heap.size + 1, 2, none⟩ = some (.int .i64 s.f) := by rw [← hwB]; simp [go_sem]
  have p1_3 : wB.cell? ⟨w.heap.size + 1, 3, none⟩ = some (.int .i64 s.t) := by rw [← hwB]; simp [go_sem]
  have p1_4 : wB.cell? ⟨w.heap.size + 1, 4, none⟩ = some (.int .i64 s.w) := by rw [← hwB]; simp [go_sem]
  have p1_5 : wB.cell? ⟨w.heap.size + 1, 5, none⟩ = some (.int .i64 s.p) := by rw [← hwB]; simp [go_sem]
  have p1_6 : wB.cell? ⟨w.heap.size + 1, 6, none⟩ = some (.bool true) := by rw [← hwB]; simp [go_sem]
  have p1_7 : wB.cell? ⟨w.heap.size + 1, 7, none⟩ = some (.bool true) := by rw [← hwB]; simp [go_sem]
  have q0 : wB.cell? ⟨w.heap.size + 2, 0, none⟩ = some (.int .i64 s.d) := by rw [← hwB]; simp [go_sem]
  rw [hwB]
  clear hwB
  refine (withinN1_any _ _ s.d _ _ q0).mono ?_
  rintro e w1 ⟨rfl, hb1⟩
  rw [H0.out]
  have p0_0 := cell_below p0_0 hb1
  have p0_1 := cell_below p0_1 hb1
  have p0_2 := cell_below p0_2 hb1
  have p0_3 := cell_below p0_3 hb1
  have p0_4 := cell_below p0_4 hb1
  have p0_5 := cell_below p0_5 hb1
  have p0_6 := cell_below p0_6 hb1
  have p0_7 := cell_below p0_7 hb1
  have p1_0 := cell_below p1_0 hb1
  have p1_1 := cell_below p1_1 hb1
  have p1_2 := cell_below p1_2 hb1
  have p1_3 := cell_below p1_3 hb1
  have p1_4 := cell_below p1_4 hb1
  have p1_5 := cell_below p1_5 hb1
  have p1_6 := cell_below p1_6 hb1
  have p1_7 := cell_below p1_7 hb1
  have hb := below_onN hb hb1 hb.size
  clear q0
  go_wp2_with fail
  refine (withinN1_any _ _ j.c _ _ (by simp [go_sem])).mono ?_
  rintro e w2 ⟨rfl, hb2⟩
  rw [H1.out]
  have p0_0 := cell_below p0_0 (box_below hb2)
  have p0_1 := cell_below p0_1 (box_below hb2)
  have p0_2 := cell_below p0_2 (box_below hb2)
  have p0_3 := cell_below p0_3 (box_below hb2)
  have p0_4 := cell_below p0_4 (box_below hb2)
  have p0_5 := cell_below p0_5 (box_below hb2)
  have p0_6 := cell_below p0_6 (box_below hb2)
  have p0_7 := cell_below p0_7 (box_below hb2)
  have p1_0 := cell_below p1_0 (box_below hb2)
  have p1_1 := cell_below p1_1 (box_below hb2)
  have p1_2 := cell_below p1_2 (box_below hb2)
  have p1_3 := cell_below p1_3 (box_below hb2)
  have p1_4 := cell_below p1_4 (box_below hb2)
  have p1_5 := cell_below p1_5 (box_below hb2)
  have p1_6 := cell_below p1_6 (box_below hb2)
  have p1_7 := cell_below p1_7 (box_below hb2)
  have hb := below_onN hb (box_below hb2) hb.size
  go_wp2_with fail
  go_ret
  exact ⟨rfl, hb⟩
set_option maxHeartbeats 1000000 in
theorem fits_5falsetruetruefalse (j : Jo) (s : Ni) (w : World) (h0 : (j.r == s.r) = true) (h1 : (j.w == s.w) = true) (h2 : btw s.d j.f j.l = true) (h3 : btw j.c s.f s.t = true) (g0 : j.dy = false) (g1 : s.rn = true) (g2 : j.wm = true) (g3 : s.fr = false) :
    Calls Try.prog 53 #[.agg #[.int .i64 j.n, .int .i64 j.r, .int .i64 j.c, .int .i64 j.f, .int .i64 j.l, .int .i64 j.w, .bool j.dy, .bool j.wm], .agg #[.int .i64 s.d, .int .i64 s.r, .int .i64 s.f, .int .i64 s.t, .int .i64 s.w, .int .i64 s.p, .bool s.rn, .bool s.fr]] w fun e w' => e = .returned (.bool (true)) ∧ Below w.heap.size w w' := by
  have H0 := Lib.hid h2
  have H1 := Lib.hid h3
  clear h2 h3
  rw [g0, g1, g2, g3]
  clear g0 g1 g2 g3
  go_enter Try.func53, Try.ntmps53
  go_wp2_with fail
  obtain ⟨wB, hwB⟩ : ∃ wB, (((w.alloc (.cells #[.int .i64 j.n, .int .i64 j.r, .int .i64 j.c, .int .i64 j.f, .int .i64 j.l, .int .i64 j.w, .bool false, .bool true] 43)).alloc (.cells #[.int .i64 s.d, .int .i64 s.r, .int .i64 s.f, .int .i64 s.t, .int .i64 s.w, .int .i64 s.p, .bool true, .bool false] 51)).alloc (.cells #[.int .i64 s.d] 3)) = wB := ⟨_, rfl⟩
  have hb : Below w.heap.size w wB := by rw [← hwB]; exact (((Below.refl _ _).alloc (by simp <;> omega) _).alloc (by simp <;> omega) _).alloc (by simp <;> omega) _
  have hz : w.heap.size < wB.heap.size := by rw [← hwB]; simp; try omega
  have p0_0 : wB.cell? ⟨w.heap.size, 0, none⟩ = some (.int .i64 j.n) := by rw [← hwB]; simp [go_sem]
  have p0_1 : wB.cell? ⟨w.heap.size, 1, none⟩ = some (.int .i64 j.r) := by rw [← hwB]; simp [go_sem]
  have p0_2 : wB.cell? ⟨w.heap.size, 2, none⟩ = some (.int .i64 j.c) := by rw [← hwB]; simp [go_sem]
  have p0_3 : wB.cell? ⟨w.heap.size, 3, none⟩ = some (.int .i64 j.f) := by rw [← hwB]; simp [go_sem]
  have p0_4 : wB.cell? ⟨w.heap.size, 4, none⟩ = some (.int .i64 j.l) := by rw [← hwB]; simp [go_sem]
  have p0_5 : wB.cell? ⟨w.heap.size, 5, none⟩ = some (.int .i64 j.w) := by rw [← hwB]; simp [go_sem]
  have p0_6 : wB.cell? ⟨w.heap.size, 6, none⟩ = some (.bool false) := by rw [← hwB]; simp [go_sem]
  have p0_7 : wB.cell? ⟨w.heap.size, 7, none⟩ = some (.bool true) := by rw [← hwB]; simp [go_sem]
  have p1_0 : wB.cell? ⟨w.heap.size + 1, 0, none⟩ = some (.int .i64 s.d) := by rw [← hwB]; simp [go_sem]
  have p1_1 : wB.cell? ⟨w.heap.size + 1, 1, none⟩ = some (.int .i64 s.r) := by rw [← hwB]; simp [go_sem]
  have p1_2 : wB.cell? ⟨w.heap.size + 1, 2, none⟩ = some (.int .i64 s.f) := by rw [← hwB]; simp [go_sem]
  have p1_3 : wB.cell? ⟨w.heap.size + 1, 3, none⟩ = some (.int .i64 s.t) := by rw [← hwB]; simp [go_sem]
  have p1_4 : wB.cell? ⟨w.heap.size + 1, 4, none⟩ = some (.int .i64 s.w) := by rw [← hwB]; simp [go_sem]
  have p1_5 : wB.cell? ⟨w.heap.size + 1, 5, none⟩ = some (.int .i64 s.p) := by rw [← hwB]; simp [go_sem]
  have p1_6 : wB.cell? ⟨w.heap.size + 1, 6, none⟩ = some (.bool true) := by rw [← hwB]; simp [go_sem]
  have p1_7 : wB.cell? ⟨w.heap.size + 1, 7, none⟩ = some (.bool false) := by rw [← hwB]; simp [go_sem]
  have q0 : wB.cell? ⟨w.heap.size + 2, 0, none⟩ = some (.int .i64 s.d) := by rw [← hwB]; simp [go_sem]
  rw [hwB]
  clear hwB
  refine (withinN1_any _ _ s.d _ _ q0).mono ?_
  rintro e w1 ⟨rfl, hb1⟩
  rw [H0.out]
  have p0_0 := cell_below p0_0 hb1
  have p0_1 := cell_below p0_1 hb1
  have p0_2 := cell_below p0_2 hb1
  have p0_3 := cell_below p0_3 hb1
  have p0_4 := cell_below p0_4 hb1
  have p0_5 := cell_below p0_5 hb1
  have p0_6 := cell_below p0_6 hb1
  have p0_7 := cell_below p0_7 hb1
  have p1_0 := cell_below p1_0 hb1
  have p1_1 := cell_below p1_1 hb1
  have p1_2 := cell_below p1_2 hb1
  have p1_3 := cell_below p1_3 hb1
  have p1_4 := cell_below p1_4 hb1
  have p1_5 := cell_below p1_5 hb1
  have p1_6 := cell_below p1_6 hb1
  have p1_7 := cell_below p1_7 hb1
  have hb := below_onN hb hb1 hb.size
  clear q0
  go_wp2_with fail
  refine (withinN1_any _ _ j.c _ _ (by simp [go_sem])).mono ?_
  rintro e w2 ⟨rfl, hb2⟩
  rw [H1.out]
  have p0_0 := cell_below p0_0 (box_below hb2)
  have p0_1 := cell_below p0_1 (box_below hb2)
  have p0_2 := cell_below p0_2 (box_below hb2)
  have p0_3 := cell_below p0_3 (box_below hb2)
  have p0_4 := cell_below p0_4 (box_below hb2)
  have p0_5 := cell_below p0_5 (box_below hb2)
  have p0_6 := cell_below p0_6 (box_below hb2)
  have p0_7 := cell_below p0_7 (box_below hb2)
  have p1_0 := cell_below p1_0 (box_below hb2)
  have p1_1 := cell_below p1_1 (box_below hb2)
  have p1_2 := cell_below p1_2 (box_below hb2)
  have p1_3 := cell_below p1_3 (box_below hb2)
  have p1_4 := cell_below p1_4 (box_below hb2)
  have p1_5 := cell_below p1_5 (box_below hb2)
  have p1_6 := cell_below p1_6 (box_below hb2)
  have p1_7 := cell_below p1_7 (box_below hb2)
  have hb := below_onN hb (box_below hb2) hb.size
  go_wp2_with fail
  go_ret
  exact ⟨rfl, hb⟩
set_option maxHeartbeats 1000000 in
theorem fits_5falsetruefalsetrue (j : Jo) (s : Ni) (w : World) (h0 : (j.r == s.r) = true) (h1 : (j.w == s.w) = true) (h2 : btw s.d j.f j.l = true) (h3 : btw j.c s.f s.t = true) (g0 : j.dy = false) (g1 : s.rn = true) (g2 : j.wm = false) (g3 : s.fr = true) :
    Calls Try.prog 53 #[.agg #[.int .i64 j.n, .int .i64 j.r, .int .i64 j.c, .int .i64 j.f, .int .i64 j.l, .int .i64 j.w, .bool j.dy, .bool j.wm], .agg #[.int .i64 s.d, .int .i64 s.r, .int .i64 s.f, .int .i64 s.t, .int .i64 s.w, .int .i64 s.p, .bool s.rn, .bool s.fr]] w fun e w' => e = .returned (.bool (true)) ∧ Below w.heap.size w w' := by
  have H0 := Lib.hid h2
  have H1 := Lib.hid h3
  clear h2 h3
  rw [g0, g1, g2, g3]
  clear g0 g1 g2 g3
  go_enter Try.func53, Try.ntmps53
  go_wp2_with fail
  obtain ⟨wB, hwB⟩ : ∃ wB, (((w.alloc (.cells #[.int .i64 j.n, .int .i64 j.r, .int .i64 j.c, .int .i64 j.f, .int .i64 j.l, .int .i64 j.w, .bool false, .bool false] 43)).alloc (.cells #[.int .i64 s.d, .int .i64 s.r, .int .i64 s.f, .int .i64 s.t, .int .i64 s.w, .int .i64 s.p, .bool true, .bool true] 51)).alloc (.cells #[.int .i64 s.d] 3)) = wB := ⟨_, rfl⟩
  have hb : Below w.heap.size w wB := by rw [← hwB]; exact (((Below.refl _ _).alloc (by simp <;> omega) _).alloc (by simp <;> omega) _).alloc (by simp <;> omega) _
  have hz : w.heap.size < wB.heap.size := by rw [← hwB]; simp; try omega
  have p0_0 : wB.cell? ⟨w.heap.size, 0, none⟩ = some (.int .i64 j.n) := by rw [← hwB]; simp [go_sem]
  have p0_1 : wB.cell? ⟨w.heap.size, 1, none⟩ = some (.int .i64 j.r) := by rw [← hwB]; simp [go_sem]
  have p0_2 : wB.cell? ⟨w.heap.size, 2, none⟩ = some (.int .i64 j.c) := by rw [← hwB]; simp [go_sem]
  have p0_3 : wB.cell? ⟨w.heap.size, 3, none⟩ = some (.int .i64 j.f) := by rw [← hwB]; simp [go_sem]
  have p0_4 : wB.cell? ⟨w.heap.size, 4, none⟩ = some (.int .i64 j.l) := by rw [← hwB]; simp [go_sem]
  have p0_5 : wB.cell? ⟨w.heap.size, 5, none⟩ = some (.int .i64 j.w) := by rw [← hwB]; simp [go_sem]
  have p0_6 : wB.cell? ⟨w.heap.size, 6, none⟩ = some (.bool false) := by rw [← hwB]; simp [go_sem]
  have p0_7 : wB.cell? ⟨w.heap.size, 7, none⟩ = some (.bool false) := by rw [← hwB]; simp [go_sem]
  have p1_0 : wB.cell? ⟨w.heap.size + 1, 0, none⟩ = some (.int .i64 s.d) := by rw [← hwB]; simp [go_sem]
  have p1_1 : wB.cell? ⟨w.heap.size + 1, 1, none⟩ = some (.int .i64 s.r) := by rw [← hwB]; simp [go_sem]
  have p1_2 : wB.cell? ⟨w.heap.size + 1, 2, none⟩ = some (.int .i64 s.f) := by rw [← hwB]; simp [go_sem]
  have p1_3 : wB.cell? ⟨w.heap.size + 1, 3, none⟩ = some (.int .i64 s.t) := by rw [← hwB]; simp [go_sem]
  have p1_4 : wB.cell? ⟨w.heap.size + 1, 4, none⟩ = some (.int .i64 s.w) := by rw [← hwB]; simp [go_sem]
  have p1_5 : wB.cell? ⟨w.heap.size + 1, 5, none⟩ = some (.int .i64 s.p) := by rw [← hwB]; simp [go_sem]
  have p1_6 : wB.cell? ⟨w.heap.size + 1, 6, none⟩ = some (.bool true) := by rw [← hwB]; simp [go_sem]
  have p1_7 : wB.cell? ⟨w.heap.size + 1, 7, none⟩ = some (.bool true) := by rw [← hwB]; simp [go_sem]
  have q0 : wB.cell? ⟨w.heap.size + 2, 0, none⟩ = some (.int .i64 s.d) := by rw [← hwB]; simp [go_sem]
  rw [hwB]
  clear hwB
  refine (withinN1_any _ _ s.d _ _ q0).mono ?_
  rintro e w1 ⟨rfl, hb1⟩
  rw [H0.out]
  have p0_0 := cell_below p0_0 hb1
  have p0_1 := cell_below p0_1 hb1
  have p0_2 := cell_below p0_2 hb1
  have p0_3 := cell_below p0_3 hb1
  have p0_4 := cell_below p0_4 hb1
  have p0_5 := cell_below p0_5 hb1
  have p0_6 := cell_below p0_6 hb1
  have p0_7 := cell_below p0_7 hb1
  have p1_0 := cell_below p1_0 hb1
  have p1_1 := cell_below p1_1 hb1
  have p1_2 := cell_below p1_2 hb1
  have p1_3 := cell_below p1_3 hb1
  have p1_4 := cell_below p1_4 hb1
  have p1_5 := cell_below p1_5 hb1
  have p1_6 := cell_below p1_6 hb1
  have p1_7 := cell_below p1_7 hb1
  have hb := below_onN hb hb1 hb.size
  clear q0
  go_wp2_with fail
  refine (withinN1_any _ _ j.c _ _ (by simp [go_sem])).mono ?_
  rintro e w2 ⟨rfl, hb2⟩
  rw [H1.out]
  have p0_0 := cell_below p0_0 (box_below hb2)
  have p0_1 := cell_below p0_1 (box_below hb2)
  have p0_2 := cell_below p0_2 (box_below hb2)
  have p0_3 := cell_below p0_3 (box_below hb2)
  have p0_4 := cell_below p0_4 (box_below hb2)
  have p0_5 := cell_below p0_5 (box_below hb2)
  have p0_6 := cell_below p0_6 (box_below hb2)
  have p0_7 := cell_below p0_7 (box_below hb2)
  have p1_0 := cell_below p1_0 (box_below hb2)
  have p1_1 := cell_below p1_1 (box_below hb2)
  have p1_2 := cell_below p1_2 (box_below hb2)
  have p1_3 := cell_below p1_3 (box_below hb2)
  have p1_4 := cell_below p1_4 (box_below hb2)
  have p1_5 := cell_below p1_5 (box_below hb2)
  have p1_6 := cell_below p1_6 (box_below hb2)
  have p1_7 := cell_below p1_7 (box_below hb2)
  have hb := below_onN hb (box_below hb2) hb.size
  go_wp2_with fail
  go_ret
  exact ⟨rfl, hb⟩
set_option maxHeartbeats 1000000 in
theorem fits_5falsetruefalsefalse (j : Jo) (s : Ni) (w : World) (h0 : (j.r == s.r) = true) (h1 : (j.w == s.w) = true) (h2 : btw s.d j.f j.l = true) (h3 : btw j.c s.f s.t = true) (g0 : j.dy = false) (g1 : s.rn = true) (g2 : j.wm = false) (g3 : s.fr = false) :
    Calls Try.prog 53 #[.agg #[.int .i64 j.n, .int .i64 j.r, .int .i64 j.c, .int .i64 j.f, .int .i64 j.l, .int .i64 j.w, .bool j.dy, .bool j.wm], .agg #[.int .i64 s.d, .int .i64 s.r, .int .i64 s.f, .int .i64 s.t, .int .i64 s.w, .int .i64 s.p, .bool s.rn, .bool s.fr]] w fun e w' => e = .returned (.bool (true)) ∧ Below w.heap.size w w' := by
  have H0 := Lib.hid h2
  have H1 := Lib.hid h3
  clear h2 h3
  rw [g0, g1, g2, g3]
  clear g0 g1 g2 g3
  go_enter Try.func53, Try.ntmps53
  go_wp2_with fail
  obtain ⟨wB, hwB⟩ : ∃ wB, (((w.alloc (.cells #[.int .i64 j.n, .int .i64 j.r, .int .i64 j.c, .int .i64 j.f, .int .i64 j.l, .int .i64 j.w, .bool false, .bool false] 43)).alloc (.cells #[.int .i64 s.d, .int .i64 s.r, .int .i64 s.f, .int .i64 s.t, .int .i64 s.w, .int .i64 s.p, .bool true, .bool false] 51)).alloc (.cells #[.int .i64 s.d] 3)) = wB := ⟨_, rfl⟩
  have hb : Below w.heap.size w wB := by rw [← hwB]; exact (((Below.refl _ _).alloc (by simp <;> omega) _).alloc (by simp <;> omega) _).alloc (by simp <;> omega) _
  have hz : w.heap.size < wB.heap.size := by rw [← hwB]; simp; try omega
  have p0_0 : wB.cell? ⟨w.heap.size, 0, none⟩ = some (.int .i64 j.n) := by rw [← hwB]; simp [go_sem]
  have p0_1 : wB.cell? ⟨w.heap.size, 1, none⟩ = some (.int .i64 j.r) := by rw [← hwB]; simp [go_sem]
  have p0_2 : wB.cell? ⟨w.heap.size, 2, none⟩ = some (.int .i64 j.c) := by rw [← hwB]; simp [go_sem]
  have p0_3 : wB.cell? ⟨w.heap.size, 3, none⟩ = some (.int .i64 j.f) := by rw [← hwB]; simp [go_sem]
  have p0_4 : wB.cell? ⟨w.heap.size, 4, none⟩ = some (.int .i64 j.l) := by rw [← hwB]; simp [go_sem]
  have p0_5 : wB.cell? ⟨w.heap.size, 5, none⟩ = some (.int .i64 j.w) := by rw [← hwB]; simp [go_sem]
  have p0_6 : wB.cell? ⟨w.heap.size, 6, none⟩ = some (.bool false) := by rw [← hwB]; simp [go_sem]
  have p0_7 : wB.cell? ⟨w.heap.size, 7, none⟩ = some (.bool false) := by rw [← hwB]; simp [go_sem]
  have p1_0 : wB.cell? ⟨w.heap.size + 1, 0, none⟩ = some (.int .i64 s.d) := by rw [← hwB]; simp [go_sem]
  have p1_1 : wB.cell? ⟨w.heap.size + 1, 1, none⟩ = some (.int .i64 s.r) := by rw [← hwB]; simp [go_sem]
  have p1_2 : wB.cell? ⟨w.heap.size + 1, 2, none⟩ = some (.int .i64 s.f) := by rw [← hwB]; simp [go_sem]
  have p1_3 : wB.cell? ⟨w.heap.size + 1, 3, none⟩ = some (.int .i64 s.t) := by rw [← hwB]; simp [go_sem]
  have p1_4 : wB.cell? ⟨w.heap.size + 1, 4, none⟩ = some (.int .i64 s.w) := by rw [← hwB]; simp [go_sem]
  have p1_5 : wB.cell? ⟨w.heap.size + 1, 5, none⟩ = some (.int .i64 s.p) := by rw [← hwB]; simp [go_sem]
  have p1_6 : wB.cell? ⟨w.heap.size + 1, 6, none⟩ = some (.bool true) := by rw [← hwB]; simp [go_sem]
  have p1_7 : wB.cell? ⟨w.heap.size + 1, 7, none⟩ = some (.bool false) := by rw [← hwB]; simp [go_sem]
  have q0 : wB.cell? ⟨w.heap.size + 2, 0, none⟩ = some (.int .i64 s.d) := by rw [← hwB]; simp [go_sem]
  rw [hwB]
  clear hwB
  refine (withinN1_any _ _ s.d _ _ q0).mono ?_
  rintro e w1 ⟨rfl, hb1⟩
  rw [H0.out]
  have p0_0 := cell_below p0_0 hb1
  have p0_1 := cell_below p0_1 hb1
  have p0_2 := cell_below p0_2 hb1
  have p0_3 := cell_below p0_3 hb1
  have p0_4 := cell_below p0_4 hb1
  have p0_5 := cell_below p0_5 hb1
  have p0_6 := cell_below p0_6 hb1
  have p0_7 := cell_below p0_7 hb1
  have p1_0 := cell_below p1_0 hb1
  have p1_1 := cell_below p1_1 hb1
  have p1_2 := cell_below p1_2 hb1
  have p1_3 := cell_below p1_3 hb1
  have p1_4 := cell_below p1_4 hb1
  have p1_5 := cell_below p1_5 hb1
  have p1_6 := cell_below p1_6 hb1
  have p1_7 := cell_below p1_7 hb1
  have hb := below_onN hb hb1 hb.size
  clear q0
  go_wp2_with fail
  refine (withinN1_any _ _ j.c _ _ (by simp [go_sem])).mono ?_
  rintro e w2 ⟨rfl, hb2⟩
  rw [H1.out]
  have p0_0 := cell_below p0_0 (box_below hb2)
  have p0_1 := cell_below p0_1 (box_below hb2)
  have p0_2 := cell_below p0_2 (box_below hb2)
  have p0_3 := cell_below p0_3 (box_below hb2)
  have p0_4 := cell_below p0_4 (box_below hb2)
  have p0_5 := cell_below p0_5 (box_below hb2)
  have p0_6 := cell_below p0_6 (box_below hb2)
  have p0_7 := cell_below p0_7 (box_below hb2)
  have p1_0 := cell_below p1_0 (box_below hb2)
  have p1_1 := cell_below p1_1 (box_below hb2)
  have p1_2 := cell_below p1_2 (box_below hb2)
  have p1_3 := cell_below p1_3 (box_below hb2)
  have p1_4 := cell_below p1_4 (box_below hb2)
  have p1_5 := cell_below p1_5 (box_below hb2)
  have p1_6 := cell_below p1_6 (box_below hb2)
  have p1_7 := cell_below p1_7 (box_below hb2)
  have hb := below_onN hb (box_below hb2) hb.size
  go_wp2_with fail
  go_ret
  exact ⟨rfl, hb⟩
set_option maxHeartbeats 1000000 in
theorem fits_5falsefalsetruetrue (j : Jo) (s : Ni) (w : World) (h0 : (j.r == s.r) = true) (h1 : (j.w == s.w) = true) (h2 : btw s.d j.f j.l = true) (h3 : btw j.c s.f s.t = true) (g0 : j.dy = false) (g1 : s.rn = false) (g2 : j.wm = true) (g3 : s.fr = true) :
    Calls Try.prog 53 #[.agg #[.int .i64 j.n, .int .i64 j.r, .int .i64 j.c, .int .i64 j.f, .int .i64 j.l, .int .i64 j.w, .bool j.dy, .bool j.wm], .agg #[.int .i64 s.d, .int .i64 s.r, .int .i64 s.f, .int .i64 s.t, .int .i64 s.w, .int .i64 s.p, .bool s.rn, .bool s.fr]] w fun e w' => e = .returned (.bool (false)) ∧ Below w.heap.size w w' := by
  have H0 := Lib.hid h2
  have H1 := Lib.hid h3
  clear h2 h3
  rw [g0, g1, g2, g3]
  clear g0 g1 g2 g3
  go_enter Try.func53, Try.ntmps53
  go_wp2_with fail
  obtain ⟨wB, hwB⟩ : ∃ wB, (((w.alloc (.cells #[.int .i64 j.n, .int .i64 j.r, .int .i64 j.c, .int .i64 j.f, .int .i64 j.l, .int .i64 j.w, .bool false, .bool true] 43)).alloc (.cells #[.int .i64 s.d, .int .i64 s.r, .int .i64 s.f, .int .i64 s.t, .int .i64 s.w, .int .i64 s.p, .bool false, .bool true] 51)).alloc (.cells #[.int .i64 s.d] 3)) = wB := ⟨_, rfl⟩
  have hb : Below w.heap.size w wB := by rw [← hwB]; exact (((Below.refl _ _).alloc (by simp <;> omega) _).alloc (by simp <;> omega) _).alloc (by simp <;> omega) _
  have hz : w.heap.size < wB.heap.size := by rw [← hwB]; simp; try omega
  have p0_0 : wB.cell? ⟨w.heap.size, 0, none⟩ = some (.int .i64 j.n) := by rw [← hwB]; simp [go_sem]
  have p0_1 : wB.cell? ⟨w.heap.size, 1, none⟩ = some (.int .i64 j.r) := by rw [← hwB]; simp [go_sem]
  have p0_2 : wB.cell? ⟨w.heap.size, 2, none⟩ = some (.int .i64 j.c) := by rw [← hwB]; simp [go_sem]
  have p0_3 : wB.cell? ⟨w.heap.size, 3, none⟩ = some (.int .i64 j.f) := by rw [← hwB]; simp [go_sem]
  have p0_4 : wB.cell? ⟨w.heap.size, 4, none⟩ = some (.int .i64 j.l) := by rw [← hwB]; simp [go_sem]
  have p0_5 : wB.cell? ⟨w.heap.size, 5, none⟩ = some (.int .i64 j.w) := by rw [← hwB]; simp [go_sem]
  have p0_6 : wB.cell? ⟨w.heap.size, 6, none⟩ = some (.bool false) := by rw [← hwB]; simp [go_sem]
  have p0_7 : wB.cell? ⟨w.heap.size, 7, none⟩ = some (.bool true) := by rw [← hwB]; simp [go_sem]
  have p1_0 : wB.cell? ⟨w.heap.size + 1, 0, none⟩ = some (.int .i64 s.d) := by rw [← hwB]; simp [go_sem]
  have p1_1 : wB.cell? ⟨w.heap.size + 1, 1, none⟩ = some (.int .i64 s.r) := by rw [← hwB]; simp [go_sem]
  have p1_2 : wB.cell? ⟨w.heap.size + 1, 2, none⟩ = some (.int .i64 s.f) := by rw [← hwB]; simp [go_sem]
  have p1_3 : wB.cell? ⟨w.heap.size + 1, 3, none⟩ = some (.int .i64 s.t) := by rw [← hwB]; simp [go_sem]
  have p1_4 : wB.cell? ⟨w.heap.size + 1, 4, none⟩ = some (.int .i64 s.w) := by rw [← hwB]; simp [go_sem]
  have p1_5 : wB.cell? ⟨w.heap.size + 1, 5, none⟩ = some (.int .i64 s.p) := by rw [← hwB]; simp [go_sem]
  have p1_6 : wB.cell? ⟨w.heap.size + 1, 6, none⟩ = some (.bool false) := by rw [← hwB]; simp [go_sem]
  have p1_7 : wB.cell? ⟨w.heap.size + 1, 7, none⟩ = some (.bool true) := by rw [← hwB]; simp [go_sem]
  have q0 : wB.cell? ⟨w.heap.size + 2, 0, none⟩ = some (.int .i64 s.d) := by rw [← hwB]; simp [go_sem]
  rw [hwB]
  clear hwB
  refine (withinN1_any _ _ s.d _ _ q0).mono ?_
  rintro e w1 ⟨rfl, hb1⟩
  rw [H0.out]
  have p0_0 := cell_below p0_0 hb1
  have p0_1 := cell_below p0_1 hb1
  have p0_2 := cell_below p0_2 hb1
  have p0_3 := cell_below p0_3 hb1
  have p0_4 := cell_below p0_4 hb1
  have p0_5 := cell_below p0_5 hb1
  have p0_6 := cell_below p0_6 hb1
  have p0_7 := cell_below p0_7 hb1
  have p1_0 := cell_below p1_0 hb1
  have p1_1 := cell_below p1_1 hb1
  have p1_2 := cell_below p1_2 hb1
  have p1_3 := cell_below p1_3 hb1
  have p1_4 := cell_below p1_4 hb1
  have p1_5 := cell_below p1_5 hb1
  have p1_6 := cell_below p1_6 hb1
  have p1_7 := cell_below p1_7 hb1
  have hb := below_onN hb hb1 hb.size
  clear q0
  go_wp2_with fail
  refine (withinN1_any _ _ j.c _ _ (by simp [go_sem])).mono ?_
  rintro e w2 ⟨rfl, hb2⟩
  rw [H1.out]
  have p0_0 := cell_below p0_0 (box_below hb2)
  have p0_1 := cell_below p0_1 (box_below hb2)
  have p0_2 := cell_below p0_2 (box_below hb2)
  have p0_3 := cell_below p0_3 (box_below hb2)
  have p0_4 := cell_below p0_4 (box_below hb2)
  have p0_5 := cell_below p0_5 (box_below hb2)
  have p0_6 := cell_below p0_6 (box_below hb2)
  have p0_7 := cell_below p0_7 (box_below hb2)
  have p1_0 := cell_below p1_0 (box_below hb2)
  have p1_1 := cell_below p1_1 (box_below hb2)
  have p1_2 := cell_below p1_2 (box_below hb2)
  have p1_3 := cell_below p1_3 (box_below hb2)
  have p1_4 := cell_below p1_4 (box_below hb2)
  have p1_5 := cell_below p1_5 (box_below hb2)
  have p1_6 := cell_below p1_6 (box_below hb2)
  have p1_7 := cell_below p1_7 (box_below hb2)
  have hb := below_onN hb (box_below hb2) hb.size
  go_wp2_with fail
  go_ret
  exact ⟨rfl, hb⟩
set_option maxHeartbeats 1000000 in
theorem fits_5falsefalsetruefalse (j : Jo) (s : Ni) (w : World) (h0 : (j.r == s.r) = true) (h1 : (j.w == s.w) = true) (h2 : btw s.d j.f j.l = true) (h3 : btw j.c s.f s.t = true) (g0 : j.dy = false) (g1 : s.rn = false) (g2 : j.wm = true) (g3 : s.fr = false) :
    Calls Try.prog 53 #[.agg #[.int .i64 j.n, .int .i64 j.r, .int .i64 j.c, .int .i64 j.f, .int .i64 j.l, .int .i64 j.w, .bool j.dy, .bool j.wm], .agg #[.int .i64 s.d, .int .i64 s.r, .int .i64 s.f, .int .i64 s.t, .int .i64 s.w, .int .i64 s.p, .bool s.rn, .bool s.fr]] w fun e w' => e = .returned (.bool (true)) ∧ Below w.heap.size w w' := by
  have H0 := Lib.hid h2
  have H1 := Lib.hid h3
  clear h2 h3
  rw [g0, g1, g2, g3]
  clear g0 g1 g2 g3
  go_enter Try.func53, Try.ntmps53
  go_wp2_with fail
  obtain ⟨wB, hwB⟩ : ∃ wB, (((w.alloc (.cells #[.int .i64 j.n, .int .i64 j.r, .int .i64 j.c, .int .i64 j.f, .int .i64 j.l, .int .i64 j.w, .bool false, .bool true] 43)).alloc (.cells #[.int .i64 s.d, .int .i64 s.r, .int .i64 s.f, .int .i64 s.t, .int .i64 s.w, .int .i64 s.p, .bool false, .bool false] 51)).alloc (.cells #[.int .i64 s.d] 3)) = wB := ⟨_, rfl⟩
  have hb : Below w.heap.size w wB := by rw [← hwB]; exact (((Below.refl _ _).alloc (by simp <;> omega) _).alloc (by simp <;> omega) _).alloc (by simp <;> omega) _
  have hz : w.heap.size < wB.heap.size := by rw [← hwB]; simp; try omega
  have p0_0 : wB.cell? ⟨w.heap.size, 0, none⟩ = some (.int .i64 j.n) := by rw [← hwB]; simp [go_sem]
  have p0_1 : wB.cell? ⟨w.heap.size, 1, none⟩ = some (.int .i64 j.r) := by rw [← hwB]; simp [go_sem]
  have p0_2 : wB.cell? ⟨w.heap.size, 2, none⟩ = some (.int .i64 j.c) := by rw [← hwB]; simp [go_sem]
  have p0_3 : wB.cell? ⟨w.heap.size, 3, none⟩ = some (.int .i64 j.f) := by rw [← hwB]; simp [go_sem]
  have p0_4 : wB.cell? ⟨w.heap.size, 4, none⟩ = some (.int .i64 j.l) := by rw [← hwB]; simp [go_sem]
  have p0_5 : wB.cell? ⟨w.heap.size, 5, none⟩ = some (.int .i64 j.w) := by rw [← hwB]; simp [go_sem]
  have p0_6 : wB.cell? ⟨w.heap.size, 6, none⟩ = some (.bool false) := by rw [← hwB]; simp [go_sem]
  have p0_7 : wB.cell? ⟨w.heap.size, 7, none⟩ = some (.bool true) := by rw [← hwB]; simp [go_sem]
  have p1_0 : wB.cell? ⟨w.heap.size + 1, 0, none⟩ = some (.int .i64 s.d) := by rw [← hwB]; simp [go_sem]
  have p1_1 : wB.cell? ⟨w.heap.size + 1, 1, none⟩ = some (.int .i64 s.r) := by rw [← hwB]; simp [go_sem]
  have p1_2 : wB.cell? ⟨w.heap.size + 1, 2, none⟩ = some (.int .i64 s.f) := by rw [← hwB]; simp [go_sem]
  have p1_3 : wB.cell? ⟨w.heap.size + 1, 3, none⟩ = some (.int .i64 s.t) := by rw [← hwB]; simp [go_sem]
  have p1_4 : wB.cell? ⟨w.heap.size + 1, 4, none⟩ = some (.int .i64 s.w) := by rw [← hwB]; simp [go_sem]
  have p1_5 : wB.cell? ⟨w.heap.size + 1, 5, none⟩ = some (.int .i64 s.p) := by rw [← hwB]; simp [go_sem]
  have p1_6 : wB.cell? ⟨w.heap.size + 1, 6, none⟩ = some (.bool false) := by rw [← hwB]; simp [go_sem]
  have p1_7 : wB.cell? ⟨w.heap.size + 1, 7, none⟩ = some (.bool false) := by rw [← hwB]; simp [go_sem]
  have q0 : wB.cell? ⟨w.heap.size + 2, 0, none⟩ = some (.int .i64 s.d) := by rw [← hwB]; simp [go_sem]
  rw [hwB]
  clear hwB
  refine (withinN1_any _ _ s.d _ _ q0).mono ?_
  rintro e w1 ⟨rfl, hb1⟩
  rw [H0.out]
  have p0_0 := cell_below p0_0 hb1
  have p0_1 := cell_below p0_1 hb1
  have p0_2 := cell_below p0_2 hb1
  have p0_3 := cell_below p0_3 hb1
  have p0_4 := cell_below p0_4 hb1
  have p0_5 := cell_below p0_5 hb1
  have p0_6 := cell_below p0_6 hb1
  have p0_7 := cell_below p0_7 hb1
  have p1_0 := cell_below p1_0 hb1
  have p1_1 := cell_below p1_1 hb1
  have p1_2 := cell_below p1_2 hb1
  have p1_3 := cell_below p1_3 hb1
  have p1_4 := cell_below p1_4 hb1
  have p1_5 := cell_below p1_5 hb1
  have p1_6 := cell_below p1_6 hb1
  have p1_7 := cell_below p1_7 hb1
  have hb := below_onN hb hb1 hb.size
  clear q0
  go_wp2_with fail
  refine (withinN1_any _ _ j.c _ _ (by simp [go_sem])).mono ?_
  rintro e w2 ⟨rfl, hb2⟩
  rw [H1.out]
  have p0_0 := cell_below p0_0 (box_below hb2)
  have p0_1 := cell_below p0_1 (box_below hb2)
  have p0_2 := cell_below p0_2 (box_below hb2)
  have p0_3 := cell_below p0_3 (box_below hb2)
  have p0_4 := cell_below p0_4 (box_below hb2)
  have p0_5 := cell_below p0_5 (box_below hb2)
  have p0_6 := cell_below p0_6 (box_below hb2)
  have p0_7 := cell_below p0_7 (box_below hb2)
  have p1_0 := cell_below p1_0 (box_below hb2)
  have p1_1 := cell_below p1_1 (box_below hb2)
  have p1_2 := cell_below p1_2 (box_below hb2)
  have p1_3 := cell_below p1_3 (box_below hb2)
  have p1_4 := cell_below p1_4 (box_below hb2)
  have p1_5 := cell_below p1_5 (box_below hb2)
  have p1_6 := cell_below p1_6 (box_below hb2)
  have p1_7 := cell_below p1_7 (box_below hb2)
  have hb := below_onN hb (box_below hb2) hb.size
  go_wp2_with fail
  go_ret
  exact ⟨rfl, hb⟩
set_option maxHeartbeats 1000000 in
theorem fits_5falsefalsefalsetrue (j : Jo) (s : Ni) (w : World) (h0 : (j.r == s.r) = true) (h1 : (j.w == s.w) = true) (h2 : btw s.d j.f j.l = true) (h3 : btw j.c s.f s.t = true) (g0 : j.dy = false) (g1 : s.rn = false) (g2 : j.wm = false) (g3 : s.fr = true) :
    Calls Try.prog 53 #[.agg #[.int .i64 j.n, .int .i64 j.r, .int .i64 j.c, .int .i64 j.f, .int .i64 j.l, .int .i64 j.w, .bool j.dy, .bool j.wm], .agg #[.int .i64 s.d, .int .i64 s.r, .int .i64 s.f, .int .i64 s.t, .int .i64 s.w, .int .i64 s.p, .bool s.rn, .bool s.fr]] w fun e w' => e = .returned (.bool (true)) ∧ Below w.heap.size w w' := by
  have H0 := Lib.hid h2
  have H1 := Lib.hid h3
  clear h2 h3
  rw [g0, g1, g2, g3]
  clear g0 g1 g2 g3
  go_enter Try.func53, Try.ntmps53
  go_wp2_with fail
  obtain ⟨wB, hwB⟩ : ∃ wB, (((w.alloc (.cells #[.int .i64 j.n, .int .i64 j.r, .int .i64 j.c, .int .i64 j.f, .int .i64 j.l, .int .i64 j.w, .bool false, .bool false] 43)).alloc (.cells #[.int .i64 s.d, .int .i64 s.r, .int .i64 s.f, .int .i64 s.t, .int .i64 s.w, .int .i64 s.p, .bool false, .bool true] 51)).alloc (.cells #[.int .i64 s.d] 3)) = wB := ⟨_, rfl⟩
  have hb : Below w.heap.size w wB := by rw [← hwB]; exact (((Below.refl _ _).alloc (by simp <;> omega) _).alloc (by simp <;> omega) _).alloc (by simp <;> omega) _
  have hz : w.heap.size < wB.heap.size := by rw [← hwB]; simp; try omega
  have p0_0 : wB.cell? ⟨w.heap.size, 0, none⟩ = some (.int .i64 j.n) := by rw [← hwB]; simp [go_sem]
  have p0_1 : wB.cell? ⟨w.heap.size, 1, none⟩ = some (.int .i64 j.r) := by rw [← hwB]; simp [go_sem]
  have p0_2 : wB.cell? ⟨w.heap.size, 2, none⟩ = some (.int .i64 j.c) := by rw [← hwB]; simp [go_sem]
  have p0_3 : wB.cell? ⟨w.heap.size, 3, none⟩ = some (.int .i64 j.f) := by rw [← hwB]; simp [go_sem]
  have p0_4 : wB.cell? ⟨w.heap.size, 4, none⟩ = some (.int .i64 j.l) := by rw [← hwB]; simp [go_sem]
  have p0_5 : wB.cell? ⟨w.heap.size, 5, none⟩ = some (.int .i64 j.w) := by rw [← hwB]; simp [go_sem]
  have p0_6 : wB.cell? ⟨w.heap.size, 6, none⟩ = some (.bool false) := by rw [← hwB]; simp [go_sem]
  have p0_7 : wB.cell? ⟨w.heap.size, 7, none⟩ = some (.bool false) := by rw [← hwB]; simp [go_sem]
  have p1_0 : wB.cell? ⟨w.heap.size + 1, 0, none⟩ = some (.int .i64 s.d) := by rw [← hwB]; simp [go_sem]
  have p1_1 : wB.cell? ⟨w.heap.size + 1, 1, none⟩ = some (.int .i64 s.r) := by rw [← hwB]; simp [go_sem]
  have p1_2 : wB.cell? ⟨w.heap.size + 1, 2, none⟩ = some (.int .i64 s.f) := by rw [← hwB]; simp [go_sem]
  have p1_3 : wB.cell? ⟨w.heap.size + 1, 3, none⟩ = some (.int .i64 s.t) := by rw [← hwB]; simp [go_sem]
  have p1_4 : wB.cell? ⟨w.heap.size + 1, 4, none⟩ = some (.int .i64 s.w) := by rw [← hwB]; simp [go_sem]
  have p1_5 : wB.cell? ⟨w.heap.size + 1, 5, none⟩ = some (.int .i64 s.p) := by rw [← hwB]; simp [go_sem]
  have p1_6 : wB.cell? ⟨w.heap.size + 1, 6, none⟩ = some (.bool false) := by rw [← hwB]; simp [go_sem]
  have p1_7 : wB.cell? ⟨w.heap.size + 1, 7, none⟩ = some (.bool true) := by rw [← hwB]; simp [go_sem]
  have q0 : wB.cell? ⟨w.heap.size + 2, 0, none⟩ = some (.int .i64 s.d) := by rw [← hwB]; simp [go_sem]
  rw [hwB]
  clear hwB
  refine (withinN1_any _ _ s.d _ _ q0).mono ?_
  rintro e w1 ⟨rfl, hb1⟩
  rw [H0.out]
  have p0_0 := cell_below p0_0 hb1
  have p0_1 := cell_below p0_1 hb1
  have p0_2 := cell_below p0_2 hb1
  have p0_3 := cell_below p0_3 hb1
  have p0_4 := cell_below p0_4 hb1
  have p0_5 := cell_below p0_5 hb1
  have p0_6 := cell_below p0_6 hb1
  have p0_7 := cell_below p0_7 hb1
  have p1_0 := cell_below p1_0 hb1
  have p1_1 := cell_below p1_1 hb1
  have p1_2 := cell_below p1_2 hb1
  have p1_3 := cell_below p1_3 hb1
  have p1_4 := cell_below p1_4 hb1
  have p1_5 := cell_below p1_5 hb1
  have p1_6 := cell_below p1_6 hb1
  have p1_7 := cell_below p1_7 hb1
  have hb := below_onN hb hb1 hb.size
  clear q0
  go_wp2_with fail
  refine (withinN1_any _ _ j.c _ _ (by simp [go_sem])).mono ?_
  rintro e w2 ⟨rfl, hb2⟩
  rw [H1.out]
  have p0_0 := cell_below p0_0 (box_below hb2)
  have p0_1 := cell_below p0_1 (box_below hb2)
  have p0_2 := cell_below p0_2 (box_below hb2)
  have p0_3 := cell_below p0_3 (box_below hb2)
  have p0_4 := cell_below p0_4 (box_below hb2)
  have p0_5 := cell_below p0_5 (box_below hb2)
  have p0_6 := cell_below p0_6 (box_below hb2)
  have p0_7 := cell_below p0_7 (box_below hb2)
  have p1_0 := cell_below p1_0 (box_below hb2)
  have p1_1 := cell_below p1_1 (box_below hb2)
  have p1_2 := cell_below p1_2 (box_below hb2)
  have p1_3 := cell_below p1_3 (box_below hb2)
  have p1_4 := cell_below p1_4 (box_below hb2)
  have p1_5 := cell_below p1_5 (box_below hb2)
  have p1_6 := cell_below p1_6 (box_below hb2)
  have p1_7 := cell_below p1_7 (box_below hb2)
  have hb := below_onN hb (box_below hb2) hb.size
  go_wp2_with fail
  go_ret
  exact ⟨rfl, hb⟩
set_option maxHeartbeats 1000000 in
theorem fits_5falsefalsefalsefalse (j : Jo) (s : Ni) (w : World) (h0 : (j.r == s.r) = true) (h1 : (j.w == s.w) = true) (h2 : btw s.d j.f j.l = true) (h3 : btw j.c s.f s.t = true) (g0 : j.dy = false) (g1 : s.rn = false) (g2 : j.wm = false) (g3 : s.fr = false) :
    Calls Try.prog 53 #[.agg #[.int .i64 j.n, .int .i64 j.r, .int .i64 j.c, .int .i64 j.f, .int .i64 j.l, .int .i64 j.w, .bool j.dy, .bool j.wm], .agg #[.int .i64 s.d, .int .i64 s.r, .int .i64 s.f, .int .i64 s.t, .int .i64 s.w, .int .i64 s.p, .bool s.rn, .bool s.fr]] w fun e w' => e = .returned (.bool (true)) ∧ Below w.heap.size w w' := by
  have H0 := Lib.hid h2
  have H1 := Lib.hid h3
  clear h2 h3
  rw [g0, g1, g2, g3]
  clear g0 g1 g2 g3
  go_enter Try.func53, Try.ntmps53
  go_wp2_with fail
  obtain ⟨wB, hwB⟩ : ∃ wB, (((w.alloc (.cells #[.int .i64 j.n, .int .i64 j.r, .int .i64 j.c, .int .i64 j.f, .int .i64 j.l, .int .i64 j.w, .bool false, .bool false] 43)).alloc (.cells #[.int .i64 s.d, .int .i64 s.r, .int .i64 s.f, .int .i64 s.t, .int .i64 s.w, .int .i64 s.p, .bool false, .bool false] 51)).alloc (.cells #[.int .i64 s.d] 3)) = wB := ⟨_, rfl⟩
  have hb : Below w.heap.size w wB := by rw [← hwB]; exact (((Below.refl _ _).alloc (by simp <;> omega) _).alloc (by simp <;> omega) _).alloc (by simp <;> omega) _
  have hz : w.heap.size < wB.heap.size := by rw [← hwB]; simp; try omega
  have p0_0 : wB.cell? ⟨w.heap.size, 0, none⟩ = some (.int .i64 j.n) := by rw [← hwB]; simp [go_sem]
  have p0_1 : wB.cell? ⟨w.heap.size, 1, none⟩ = some (.int .i64 j.r) := by rw [← hwB]; simp [go_sem]
  have p0_2 : wB.cell? ⟨w.heap.size, 2, none⟩ = some (.int .i64 j.c) := by rw [← hwB]; simp [go_sem]
  have p0_3 : wB.cell? ⟨w.heap.size, 3, none⟩ = some (.int .i64 j.f) := by rw [← hwB]; simp [go_sem]
  have p0_4 : wB.cell? ⟨w.heap.size, 4, none⟩ = some (.int .i64 j.l) := by rw [← hwB]; simp [go_sem]
  have p0_5 : wB.cell? ⟨w.heap.size, 5, none⟩ = some (.int .i64 j.w) := by rw [← hwB]; simp [go_sem]
  have p0_6 : wB.cell? ⟨w.heap.size, 6, none⟩ = some (.bool false) := by rw [← hwB]; simp [go_sem]
  have p0_7 : wB.cell? ⟨w.heap.size, 7, none⟩ = some (.bool false) := by rw [← hwB]; simp [go_sem]
  have p1_0 : wB.cell? ⟨w.heap.size + 1, 0, none⟩ = some (.int .i64 s.d) := by rw [← hwB]; simp [go_sem]
  have p1_1 : wB.cell? ⟨w.heap.size + 1, 1, none⟩ = some (.int .i64 s.r) := by rw [← hwB]; simp [go_sem]
  have p1_2 : wB.cell? ⟨w.heap.size + 1, 2, none⟩ = some (.int .i64 s.f) := by rw [← hwB]; simp [go_sem]
  have p1_3 : wB.cell? ⟨w.heap.size + 1, 3, none⟩ = some (.int .i64 s.t) := by rw [← hwB]; simp [go_sem]
  have p1_4 : wB.cell? ⟨w.heap.size + 1, 4, none⟩ = some (.int .i64 s.w) := by rw [← hwB]; simp [go_sem]
  have p1_5 : wB.cell? ⟨w.heap.size + 1, 5, none⟩ = some (.int .i64 s.p) := by rw [← hwB]; simp [go_sem]
  have p1_6 : wB.cell? ⟨w.heap.size + 1, 6, none⟩ = some (.bool false) := by rw [← hwB]; simp [go_sem]
  have p1_7 : wB.cell? ⟨w.heap.size + 1, 7, none⟩ = some (.bool false) := by rw [← hwB]; simp [go_sem]
  have q0 : wB.cell? ⟨w.heap.size + 2, 0, none⟩ = some (.int .i64 s.d) := by rw [← hwB]; simp [go_sem]
  rw [hwB]
  clear hwB
  refine (withinN1_any _ _ s.d _ _ q0).mono ?_
  rintro e w1 ⟨rfl, hb1⟩
  rw [H0.out]
  have p0_0 := cell_below p0_0 hb1
  have p0_1 := cell_below p0_1 hb1
  have p0_2 := cell_below p0_2 hb1
  have p0_3 := cell_below p0_3 hb1
  have p0_4 := cell_below p0_4 hb1
  have p0_5 := cell_below p0_5 hb1
  have p0_6 := cell_below p0_6 hb1
  have p0_7 := cell_below p0_7 hb1
  have p1_0 := cell_below p1_0 hb1
  have p1_1 := cell_below p1_1 hb1
  have p1_2 := cell_below p1_2 hb1
  have p1_3 := cell_below p1_3 hb1
  have p1_4 := cell_below p1_4 hb1
  have p1_5 := cell_below p1_5 hb1
  have p1_6 := cell_below p1_6 hb1
  have p1_7 := cell_below p1_7 hb1
  have hb := below_onN hb hb1 hb.size
  clear q0
  go_wp2_with fail
  refine (withinN1_any _ _ j.c _ _ (by simp [go_sem])).mono ?_
  rintro e w2 ⟨rfl, hb2⟩
  rw [H1.out]
  have p0_0 := cell_below p0_0 (box_below hb2)
  have p0_1 := cell_below p0_1 (box_below hb2)
  have p0_2 := cell_below p0_2 (box_below hb2)
  have p0_3 := cell_below p0_3 (box_below hb2)
  have p0_4 := cell_below p0_4 (box_below hb2)
  have p0_5 := cell_below p0_5 (box_below hb2)
  have p0_6 := cell_below p0_6 (box_below hb2)
  have p0_7 := cell_below p0_7 (box_below hb2)
  have p1_0 := cell_below p1_0 (box_below hb2)
  have p1_1 := cell_below p1_1 (box_below hb2)
  have p1_2 := cell_below p1_2 (box_below hb2)
  have p1_3 := cell_below p1_3 (box_below hb2)
  have p1_4 := cell_below p1_4 (box_below hb2)
  have p1_5 := cell_below p1_5 (box_below hb2)
  have p1_6 := cell_below p1_6 (box_below hb2)
  have p1_7 := cell_below p1_7 (box_below hb2)
  have hb := below_onN hb (box_below hb2) hb.size
  go_wp2_with fail
  go_ret
  exact ⟨rfl, hb⟩
theorem fits_r (j : Jo) (s : Ni) (w : World) :
    Calls Try.prog 53 #[.agg #[.int .i64 j.n, .int .i64 j.r, .int .i64 j.c, .int .i64 j.f, .int .i64 j.l, .int .i64 j.w, .bool j.dy, .bool j.wm], .agg #[.int .i64 s.d, .int .i64 s.r, .int .i64 s.f, .int .i64 s.t, .int .i64 s.w, .int .i64 s.p, .bool s.rn, .bool s.fr]] w fun e w' => e = .returned (.bool (fitB j s)) ∧ Below w.heap.size w w' := by
  unfold fitB
  cases h0 : (j.r == s.r) with
  | false => exact fits_0 j s w h0
  | true =>
    cases h1 : (j.w == s.w) with
    | false => exact fits_1 j s w h0 h1
    | true =>
      cases h2 : btw s.d j.f j.l with
      | false => exact fits_2 j s w h0 h1 h2
      | true =>
        cases h3 : btw j.c s.f s.t with
        | false => exact fits_3 j s w h0 h1 h2 h3
        | true =>
          cases g0 : j.dy <;> cases g1 : s.rn <;> cases g2 : j.wm <;> cases g3 : s.fr
          · have := fits_5falsefalsefalsefalse j s w h0 h1 h2 h3 g0 g1 g2 g3
            rw [g0, g1, g2, g3] at this
            exact this
          · have := fits_5falsefalsefalsetrue j s w h0 h1 h2 h3 g0 g1 g2 g3
            rw [g0, g1, g2, g3] at this
            exact this
          · have := fits_5falsefalsetruefalse j s w h0 h1 h2 h3 g0 g1 g2 g3
            rw [g0, g1, g2, g3] at this
            exact this
          · have := fits_5falsefalsetruetrue j s w h0 h1 h2 h3 g0 g1 g2 g3
            rw [g0, g1, g2, g3] at this
            exact this
          · have := fits_5falsetruefalsefalse j s w h0 h1 h2 h3 g0 g1 g2 g3
            rw [g0, g1, g2, g3] at this
            exact this
          · have := fits_5falsetruefalsetrue j s w h0 h1 h2 h3 g0 g1 g2 g3
            rw [g0, g1, g2, g3] at this
            exact this
          · have := fits_5falsetruetruefalse j s w h0 h1 h2 h3 g0 g1 g2 g3
            rw [g0, g1, g2, g3] at this
            exact this
          · have := fits_5falsetruetruetrue j s w h0 h1 h2 h3 g0 g1 g2 g3
            rw [g0, g1, g2, g3] at this
            exact this
          · have := fits_5truefalsefalsefalse j s w h0 h1 h2 h3 g0 g1 g2 g3
            rw [g0, g1, g2, g3] at this
            exact this
          · have := fits_5truefalsefalsetrue j s w h0 h1 h2 h3 g0 g1 g2 g3
            rw [g0, g1, g2, g3] at this
            exact this
          · have := fits_5truefalsetruefalse j s w h0 h1 h2 h3 g0 g1 g2 g3
            rw [g0, g1, g2, g3] at this
            exact this
          · have := fits_5truefalsetruetrue j s w h0 h1 h2 h3 g0 g1 g2 g3
            rw [g0, g1, g2, g3] at this
            exact this
          · have := fits_5truetruefalsefalse j s w h0 h1 h2 h3 g0 g1 g2 g3
            rw [g0, g1, g2, g3] at this
            exact this
          · have := fits_5truetruefalsetrue j s w h0 h1 h2 h3 g0 g1 g2 g3
            rw [g0, g1, g2, g3] at this
            exact this
          · have := fits_5truetruetruefalse j s w h0 h1 h2 h3 g0 g1 g2 g3
            rw [g0, g1, g2, g3] at this
            exact this
          · have := fits_5truetruetruetrue j s w h0 h1 h2 h3 g0 g1 g2 g3
            rw [g0, g1, g2, g3] at this
            exact this
end Go.Proofs.Ytghlhjiomebmhaa
