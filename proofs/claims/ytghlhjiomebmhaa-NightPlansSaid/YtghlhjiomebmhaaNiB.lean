/-
  Jobs and nights of package night: placeValid, jobValid, nightValid, fits. By an AI agent.
-/
import Derived.Test.YtghlhjiomebmhaaNiA
import Derived.Deep.RegionHeld3
import Derived.BigQuiet
namespace Go.Proofs.Ytghlhjiomebmhaa
set_option linter.unusedVariables false
set_option linter.unusedSimpArgs false
open Go.RowKit

/-- A job: number, road, chainage, first day, last day, crew, dry, warm. -/
structure Jo where
  n : Int
  r : Int
  c : Int
  f : Int
  l : Int
  w : Int
  dy : Bool
  wm : Bool
/-- A night: day, road, from, to, crew, places, rain, frost. -/
structure Ni where
  d : Int
  r : Int
  f : Int
  t : Int
  w : Int
  p : Int
  rn : Bool
  fr : Bool
def gj (l : List Jo) (i : Nat) : Jo := l.getD i ⟨0, 0, 0, 0, 0, 0, false, false⟩
def gn (l : List Ni) (i : Nat) : Ni := l.getD i ⟨0, 0, 0, 0, 0, 0, false, false⟩
def placeB (r c w : Int) : Bool := btw r 1 1000000 && (btw c 0 10000000 && btw w 1 9)
def jobB (s : Jo) : Bool := btw s.n 1 1000000000 && (placeB s.r s.c s.w && ((btw s.f 0 100000 && btw s.l 0 100000) && decide (s.f ≤ s.l)))
def nightB (s : Ni) : Bool := btw s.d 0 100000 && (placeB s.r s.f s.w && (btw s.t s.f 10000000 && btw s.p 0 100))
def fitB (j : Jo) (s : Ni) : Bool := (j.r == s.r) && ((j.w == s.w) && (btw s.d j.f j.l && (btw j.c s.f s.t && (!(j.dy && s.rn) && !(j.wm && s.fr)))))
set_option maxHeartbeats 1000000 in
theorem placeValid_0 (r c w0 : Int) (w : World) (h0 : btw r 1 1000000 = false) :
    Calls Try.prog 69 #[.int .i64 r, .int .i64 c, .int .i64 w0] w fun e w' => e = .returned (.bool (false)) ∧ Below w.heap.size w w' := by
  have H0 := Lib.hid h0
  clear h0
  go_enter Try.func69, Try.ntmps69
  go_wp2_with fail
  obtain ⟨wB, hwB⟩ : ∃ wB, (w.alloc (.cells #[.int .i64 r] 3)) = wB := ⟨_, rfl⟩
  have hb : Below w.heap.size w wB := by rw [← hwB]; exact (Below.refl _ _).alloc (by simp <;> omega) _
  have q0 : wB.cell? ⟨w.heap.size, 0, none⟩ = some (.int .i64 r) := by rw [← hwB]; simp [go_sem]
  rw [hwB]
  clear hwB
  refine (withinN1_any _ _ r _ _ q0).mono ?_
  rintro e w1 ⟨rfl, hb1⟩
  rw [H0.out]
  have hb := below_onN hb hb1 hb.size
  clear q0
  go_wp2_with fail
  go_ret
  exact ⟨rfl, hb⟩
set_option maxHeartbeats 1000000 in
theorem placeValid_1 (r c w0 : Int) (w : World) (h0 : btw r 1 1000000 = true) (h1 : btw c 0 10000000 = false) :
    Calls Try.prog 69 #[.int .i64 r, .int .i64 c, .int .i64 w0] w fun e w' => e = .returned (.bool (false)) ∧ Below w.heap.size w w' := by
  have H0 := Lib.hid h0
  have H1 := Lib.hid h1
  clear h0 h1
  go_enter Try.func69, Try.ntmps69
  go_wp2_with fail
  obtain ⟨wB, hwB⟩ : ∃ wB, (w.alloc (.cells #[.int .i64 r] 3)) = wB := ⟨_, rfl⟩
  have hb : Below w.heap.size w wB := by rw [← hwB]; exact (Below.refl _ _).alloc (by simp <;> omega) _
  have q0 : wB.cell? ⟨w.heap.size, 0, none⟩ = some (.int .i64 r) := by rw [← hwB]; simp [go_sem]
  rw [hwB]
  clear hwB
  refine (withinN1_any _ _ r _ _ q0).mono ?_
  rintro e w1 ⟨rfl, hb1⟩
  rw [H0.out]
  have hb := below_onN hb hb1 hb.size
  clear q0
  go_wp2_with fail
  refine (withinN1_any _ _ c _ _ (by simp [go_sem])).mono ?_
  rintro e w2 ⟨rfl, hb2⟩
  rw [H1.out]
  have hb := below_onN hb (box_below hb2) hb.size
  go_wp2_with fail
  go_ret
  exact ⟨rfl, hb⟩
set_option maxHeartbeats 1000000 in
theorem placeValid_2 (r c w0 : Int) (w : World) (h0 : btw r 1 1000000 = true) (h1 : btw c 0 10000000 = true) :
    Calls Try.prog 69 #[.int .i64 r, .int .i64 c, .int .i64 w0] w fun e w' => e = .returned (.bool (btw w0 1 9)) ∧ Below w.heap.size w w' := by
  have H0 := Lib.hid h0
  have H1 := Lib.hid h1
  have H2 := Lib.hid (rfl : btw w0 1 9 = btw w0 1 9)
  clear h0 h1
  go_enter Try.func69, Try.ntmps69
  go_wp2_with fail
  obtain ⟨wB, hwB⟩ : ∃ wB, (w.alloc (.cells #[.int .i64 r] 3)) = wB := ⟨_, rfl⟩
  have hb : Below w.heap.size w wB := by rw [← hwB]; exact (Below.refl _ _).alloc (by simp <;> omega) _
  have q0 : wB.cell? ⟨w.heap.size, 0, none⟩ = some (.int .i64 r) := by rw [← hwB]; simp [go_sem]
  rw [hwB]
  clear hwB
  refine (withinN1_any _ _ r _ _ q0).mono ?_
  rintro e w1 ⟨rfl, hb1⟩
  rw [H0.out]
  have hb := below_onN hb hb1 hb.size
  clear q0
  go_wp2_with fail
  refine (withinN1_any _ _ c _ _ (by simp [go_sem])).mono ?_
  rintro e w2 ⟨rfl, hb2⟩
  rw [H1.out]
  have hb := below_onN hb (box_below hb2) hb.size
  go_wp2_with fail
  refine (withinN1_any _ _ w0 _ _ (by simp [go_sem])).mono ?_
  rintro e w3 ⟨rfl, hb3⟩
  have hb := below_onN hb (box_below hb3) hb.size
  go_wp2_with fail
  go_ret
  exact ⟨rfl, hb⟩
theorem placeValid_r (r c w0 : Int) (w : World) :
    Calls Try.prog 69 #[.int .i64 r, .int .i64 c, .int .i64 w0] w fun e w' => e = .returned (.bool (placeB r c w0)) ∧ Below w.heap.size w w' := by
  unfold placeB
  cases h0 : btw r 1 1000000 with
  | false => exact placeValid_0 r c w0 w h0
  | true =>
    cases h1 : btw c 0 10000000 with
    | false => exact placeValid_1 r c w0 w h0 h1
    | true =>
      exact placeValid_2 r c w0 w h0 h1
theorem placeValid_v (r c w0 : Int) {v : Bool} (h : placeB r c w0 = v) (w : World) :
    Calls Try.prog 69 #[.int .i64 r, .int .i64 c, .int .i64 w0] w fun e w' => e = .returned (.bool v) ∧ Below w.heap.size w w' := by
  rw [← h]; exact placeValid_r r c w0 w
set_option maxHeartbeats 1000000 in
theorem jobValid_0 (s : Jo) (w : World) (h0 : btw s.n 1 1000000000 = false) :
    Calls Try.prog 67 #[.agg #[.int .i64 s.n, .int .i64 s.r, .int .i64 s.c, .int .i64 s.f, .int .i64 s.l, .int .i64 s.w, .bool s.dy, .bool s.wm]] w fun e w' => e = .returned (.bool (false)) ∧ Below w.heap.size w w' := by
  have H0 := Lib.hid h0
  clear h0
  go_enter Try.func67, Try.ntmps67
  go_wp2_with fail
  obtain ⟨wB, hwB⟩ : ∃ wB, ((w.alloc (.cells #[.int .i64 s.n, .int .i64 s.r, .int .i64 s.c, .int .i64 s.f, .int .i64 s.l, .int .i64 s.w, .bool s.dy, .bool s.wm] 43)).alloc (.cells #[.int .i64 s.n] 3)) = wB := ⟨_, rfl⟩
  have hb : Below w.heap.size w wB := by rw [← hwB]; exact ((Below.refl _ _).alloc (by simp <;> omega) _).alloc (by simp <;> omega) _
  have hz : w.heap.size < wB.heap.size := by rw [← hwB]; simp; try omega
  have p0_0 : wB.cell? ⟨w.heap.size, 0, none⟩ = some (.int .i64 s.n) := by rw [← hwB]; simp [go_sem]
  have p0_1 : wB.cell? ⟨w.heap.size, 1, none⟩ = some (.int .i64 s.r) := by rw [← hwB]; simp [go_sem]
  have p0_2 : wB.cell? ⟨w.heap.size, 2, none⟩ = some (.int .i64 s.c) := by rw [← hwB]; simp [go_sem]
  have p0_3 : wB.cell? ⟨w.heap.size, 3, none⟩ = some (.int .i64 s.f) := by rw [← hwB]; simp [go_sem]
  have p0_4 : wB.cell? ⟨w.heap.size, 4, none⟩ = some (.int .i64 s.l) := by rw [← hwB]; simp [go_sem]
  have p0_5 : wB.cell? ⟨w.heap.size, 5, none⟩ = some (.int .i64 s.w) := by rw [← hwB]; simp [go_sem]
  have p0_6 : wB.cell? ⟨w.heap.size, 6, none⟩ = some (.bool s.dy) := by rw [← hwB]; simp [go_sem]
  have p0_7 : wB.cell? ⟨w.heap.size, 7, none⟩ = some (.bool s.wm) := by rw [← hwB]; simp [go_sem]
  have q0 : wB.cell? ⟨w.heap.size + 1, 0, none⟩ = some (.int .i64 s.n) := by rw [← hwB]; simp [go_sem]
  rw [hwB]
  clear hwB
  refine (withinN1_any _ _ s.n _ _ q0).mono ?_
  rintro e w1 ⟨rfl, hb1⟩
  rw [H0.out]
  have p0_0 := cell_below p0_0 hb1
  have p0_1 := cell_below p0_1 hb1
  have p0_2 := cell_below p0_2 hb1
  have p0_3 := cell_below p0_3 hb1
  have p0_4 := cell_below p0_4 hb1
  have p0_5 := cell_below p0_5 hb1
  have p0_6 := cell_below p0_6 hb1
  have p0_7 := cell_below p0_7 hb1
  have hb := below_onN hb hb1 hb.size
  clear q0
  go_wp2_with fail
  go_ret
  exact ⟨rfl, hb⟩
set_option maxHeartbeats 1000000 in
theorem jobValid_1 (s : Jo) (w : World) (h0 : btw s.n 1 1000000000 = true) (h1 : placeB s.r s.c s.w = false) :
    Calls Try.prog 67 #[.agg #[.int .i64 s.n, .int .i64 s.r, .int .i64 s.c, .int .i64 s.f, .int .i64 s.l, .int .i64 s.w, .bool s.dy, .bool s.wm]] w fun e w' => e = .returned (.bool (false)) ∧ Below w.heap.size w w' := by
  have H0 := Lib.hid h0
  have HP := Lib.hid (fun W => placeValid_v s.r s.c s.w h1 W)
  clear h0 h1
  go_enter Try.func67, Try.ntmps67
  go_wp2_with fail
  obtain ⟨wB, hwB⟩ : ∃ wB, ((w.alloc (.cells #[.int .i64 s.n, .int .i64 s.r, .int .i64 s.c, .int .i64 s.f, .int .i64 s.l, .int .i64 s.w, .bool s.dy, .bool s.wm] 43)).alloc (.cells #[.int .i64 s.n] 3)) = wB := ⟨_, rfl⟩
  have hb : Below w.heap.size w wB := by rw [← hwB]; exact ((Below.refl _ _).alloc (by simp <;> omega) _).alloc (by simp <;> omega) _
  have hz : w.heap.size < wB.heap.size := by rw [← hwB]; simp; try omega
  have p0_0 : wB.cell? ⟨w.heap.size, 0, none⟩ = some (.int .i64 s.n) := by rw [← hwB]; simp [go_sem]
  have p0_1 : wB.cell? ⟨w.heap.size, 1, none⟩ = some (.int .i64 s.r) := by rw [← hwB]; simp [go_sem]
  have p0_2 : wB.cell? ⟨w.heap.size, 2, none⟩ = some (.int .i64 s.c) := by rw [← hwB]; simp [go_sem]
  have p0_3 : wB.cell? ⟨w.heap.size, 3, none⟩ = some (.int .i64 s.f) := by rw [← hwB]; simp [go_sem]
  have p0_4 : wB.cell? ⟨w.heap.size, 4, none⟩ = some (.int .i64 s.l) := by rw [← hwB]; simp [go_sem]
  have p0_5 : wB.cell? ⟨w.heap.size, 5, none⟩ = some (.int .i64 s.w) := by rw [← hwB]; simp [go_sem]
  have p0_6 : wB.cell? ⟨w.heap.size, 6, none⟩ = some (.bool s.dy) := by rw [← hwB]; simp [go_sem]
  have p0_7 : wB.cell? ⟨w.heap.size, 7, none⟩ = some (.bool s.wm) := by rw [← hwB]; simp [go_sem]
  have q0 : wB.cell? ⟨w.heap.size + 1, 0, none⟩ = some (.int .i64 s.n) := by rw [← hwB]; simp [go_sem]
  rw [hwB]
  clear hwB
  refine (withinN1_any _ _ s.n _ _ q0).mono ?_
  rintro e w1 ⟨rfl, hb1⟩
  rw [H0.out]
  have p0_0 := cell_below p0_0 hb1
  have p0_1 := cell_below p0_1 hb1
  have p0_2 := cell_below p0_2 hb1
  have p0_3 := cell_below p0_3 hb1
  have p0_4 := cell_below p0_4 hb1
  have p0_5 := cell_below p0_5 hb1
  have p0_6 := cell_below p0_6 hb1
  have p0_7 := cell_below p0_7 hb1
  have hb := below_onN hb hb1 hb.size
  clear q0
  go_wp2_with fail
  refine (HP.out _).mono ?_
  rintro e w2 ⟨rfl, hb2⟩
  have p0_0 := cell_below p0_0 hb2
  have p0_1 := cell_below p0_1 hb2
  have p0_2 := cell_below p0_2 hb2
  have p0_3 := cell_below p0_3 hb2
  have p0_4 := cell_below p0_4 hb2
  have p0_5 := cell_below p0_5 hb2
  have p0_6 := cell_below p0_6 hb2
  have p0_7 := cell_below p0_7 hb2
  have hb := below_onN hb hb2 hb.size
  go_wp2_with fail
  go_ret
  exact ⟨rfl, hb⟩
set_option maxHeartbeats 1000000 in
theorem jobValid_2 (s : Jo) (w : World) (h0 : btw s.n 1 1000000000 = true) (h1 : placeB s.r s.c s.w = true) (h2 : (btw s.f 0 100000 && btw s.l 0 100000) = false) :
    Calls Try.prog 67 #[.agg #[.int .i64 s.n, .int .i64 s.r, .int .i64 s.c, .int .i64 s.f, .int .i64 s.l, .int .i64 s.w, .bool s.dy, .bool s.wm]] w fun e w' => e = .returned (.bool (false)) ∧ Below w.heap.size w w' := by
  have H0 := Lib.hid h0
  have HP := Lib.hid (fun W => placeValid_v s.r s.c s.w h1 W)
  have H2 := Lib.hid h2
  clear h0 h1 h2
  go_enter Try.func67, Try.ntmps67
  go_wp2_with fail
  obtain ⟨wB, hwB⟩ : ∃ wB, ((w.alloc (.cells #[.int .i64 s.n, .int .i64 s.r, .int .i64 s.c, .int .i64 s.f, .int .i64 s.l, .int .i64 s.w, .bool s.dy, .bool s.wm] 43)).alloc (.cells #[.int .i64 s.n] 3)) = wB := ⟨_, rfl⟩
  have hb : Below w.heap.size w wB := by rw [← hwB]; exact ((Below.refl _ _).alloc (by simp <;> omega) _).alloc (by simp <;> omega) _
  have hz : w.heap.size < wB.heap.size := by rw [← hwB]; simp; try omega
  have p0_0 : wB.cell? ⟨w.heap.size, 0, none⟩ = some (.int .i64 s.n) := by rw [← hwB]; simp [go_sem]
  have p0_1 : wB.cell? ⟨w.heap.size, 1, none⟩ = some (.int .i64 s.r) := by rw [← hwB]; simp [go_sem]
  have p0_2 : wB.cell? ⟨w.heap.size, 2, none⟩ = some (.int .i64 s.c) := by rw [← hwB]; simp [go_sem]
  have p0_3 : wB.cell? ⟨w.heap.size, 3, none⟩ = some (.int .i64 s.f) := by rw [← hwB]; simp [go_sem]
  have p0_4 : wB.cell? ⟨w.heap.size, 4, none⟩ = some (.int .i64 s.l) := by rw [← hwB]; simp [go_sem]
  have p0_5 : wB.cell? ⟨w.heap.size, 5, none⟩ = some (.int .i64 s.w) := by rw [← hwB]; simp [go_sem]
  have p0_6 : wB.cell? ⟨w.heap.size, 6, none⟩ = some (.bool s.dy) := by rw [← hwB]; simp [go_sem]
  have p0_7 : wB.cell? ⟨w.heap.size, 7, none⟩ = some (.bool s.wm) := by rw [← hwB]; simp [go_sem]
  have q0 : wB.cell? ⟨w.heap.size + 1, 0, none⟩ = some (.int .i64 s.n) := by rw [← hwB]; simp [go_sem]
  rw [hwB]
  clear hwB
  refine (withinN1_any _ _ s.n _ _ q0).mono ?_
  rintro e w1 ⟨rfl, hb1⟩
  rw [H0.out]
  have p0_0 := cell_below p0_0 hb1
  have p0_1 := cell_below p0_1 hb1
  have p0_2 := cell_below p0_2 hb1
  have p0_3 := cell_below p0_3 hb1
  have p0_4 := cell_below p0_4 hb1
  have p0_5 := cell_below p0_5 hb1
  have p0_6 := cell_below p0_6 hb1
  have p0_7 := cell_below p0_7 hb1
  have hb := below_onN hb hb1 hb.size
  clear q0
  go_wp2_with fail
  refine (HP.out _).mono ?_
  rintro e w2 ⟨rfl, hb2⟩
  have p0_0 := cell_below p0_0 hb2
  have p0_1 := cell_below p0_1 hb2
  have p0_2 := cell_below p0_2 hb2
  have p0_3 := cell_below p0_3 hb2
  have p0_4 := cell_below p0_4 hb2
  have p0_5 := cell_below p0_5 hb2
  have p0_6 := cell_below p0_6 hb2
  have p0_7 := cell_below p0_7 hb2
  have hb := below_onN hb hb2 hb.size
  go_wp2_with fail
  refine (withinN2_any _ _ s.f s.l _ _ (by simp [go_sem]) (by simp [go_sem])).mono ?_
  rintro e w3 ⟨rfl, hb3⟩
  rw [H2.out]
  have p0_0 := cell_below p0_0 (box_below hb3)
  have p0_1 := cell_below p0_1 (box_below hb3)
  have p0_2 := cell_below p0_2 (box_below hb3)
  have p0_3 := cell_below p0_3 (box_below hb3)
  have p0_4 := cell_below p0_4 (box_below hb3)
  have p0_5 := cell_below p0_5 (box_below hb3)
  have p0_6 := cell_below p0_6 (box_below hb3)
  have p0_7 := cell_below p0_7 (box_below hb3)
  have hb := below_onN hb (box_below hb3) hb.size
  go_wp2_with fail
  go_ret
  exact ⟨rfl, hb⟩
set_option maxHeartbeats 1000000 in
theorem jobValid_3 (s : Jo) (w : World) (h0 : btw s.n 1 1000000000 = true) (h1 : placeB s.r s.c s.w = true) (h2 : (btw s.f 0 100000 && btw s.l 0 100000) = true) :
    Calls Try.prog 67 #[.agg #[.int .i64 s.n, .int .i64 s.r, .int .i64 s.c, .int .i64 s.f, .int .i64 s.l, .int .i64 s.w, .bool s.dy, .bool s.wm]] w fun e w' => e = .returned (.bool (decide (s.f ≤ s.l))) ∧ Below w.heap.size w w' := by
  have H0 := Lib.hid h0
  have HP := Lib.hid (fun W => placeValid_v s.r s.c s.w h1 W)
  have H2 := Lib.hid h2
  clear h0 h1 h2
  go_enter Try.func67, Try.ntmps67
  go_wp2_with fail
  obtain ⟨wB, hwB⟩ : ∃ wB, ((w.alloc (.cells #[.int .i64 s.n, .int .i64 s.r, .int .i64 s.c, .int .i64 s.f, .int .i64 s.l, .int .i64 s.w, .bool s.dy, .bool s.wm] 43)).alloc (.cells #[.int .i64 s.n] 3)) = wB := ⟨_, rfl⟩
  have hb : Below w.heap.size w wB := by rw [← hwB]; exact ((Below.refl _ _).alloc (by simp <;> omega) _).alloc (by simp <;> omega) _
  have hz : w.heap.size < wB.heap.size := by rw [← hwB]; simp; try omega
  have p0_0 : wB.cell? ⟨w.heap.size, 0, none⟩ = some (.int .i64 s.n) := by rw [← hwB]; simp [go_sem]
  have p0_1 : wB.cell? ⟨w.heap.size, 1, none⟩ = some (.int .i64 s.r) := by rw [← hwB]; simp [go_sem]
  have p0_2 : wB.cell? ⟨w.heap.size, 2, none⟩ = some (.int .i64 s.c) := by rw [← hwB]; simp [go_sem]
  have p0_3 : wB.cell? ⟨w.heap.size, 3, none⟩ = some (.int .i64 s.f) := by rw [← hwB]; simp [go_sem]
  have p0_4 : wB.cell? ⟨w.heap.size, 4, none⟩ = some (.int .i64 s.l) := by rw [← hwB]; simp [go_sem]
  have p0_5 : wB.cell? ⟨w.heap.size, 5, none⟩ = some (.int .i64 s.w) := by rw [← hwB]; simp [go_sem]
  have p0_6 : wB.cell? ⟨w.heap.size, 6, none⟩ = some (.bool s.dy) := by rw [← hwB]; simp [go_sem]
  have p0_7 : wB.cell? ⟨w.heap.size, 7, none⟩ = some (.bool s.wm) := by rw [← hwB]; simp [go_sem]
  have q0 : wB.cell? ⟨w.heap.size + 1, 0, none⟩ = some (.int .i64 s.n) := by rw [← hwB]; simp [go_sem]
  rw [hwB]
  clear hwB
  refine (withinN1_any _ _ s.n _ _ q0).mono ?_
  rintro e w1 ⟨rfl, hb1⟩
  rw [H0.out]
  have p0_0 := cell_below p0_0 hb1
  have p0_1 := cell_below p0_1 hb1
  have p0_2 := cell_below p0_2 hb1
  have p0_3 := cell_below p0_3 hb1
  have p0_4 := cell_below p0_4 hb1
  have p0_5 := cell_below p0_5 hb1
  have p0_6 := cell_below p0_6 hb1
  have p0_7 := cell_below p0_7 hb1
  have hb := below_onN hb hb1 hb.size
  clear q0
  go_wp2_with fail
  refine (HP.out _).mono ?_
  rintro e w2 ⟨rfl, hb2⟩
  have p0_0 := cell_below p0_0 hb2
  have p0_1 := cell_below p0_1 hb2
  have p0_2 := cell_below p0_2 hb2
  have p0_3 := cell_below p0_3 hb2
  have p0_4 := cell_below p0_4 hb2
  have p0_5 := cell_below p0_5 hb2
  have p0_6 := cell_below p0_6 hb2
  have p0_7 := cell_below p0_7 hb2
  have hb := below_onN hb hb2 hb.size
  go_wp2_with fail
  refine (withinN2_any _ _ s.f s.l _ _ (by simp [go_sem]) (by simp [go_sem])).mono ?_
  rintro e w3 ⟨rfl, hb3⟩
  rw [H2.out]
  have p0_0 := cell_below p0_0 (box_below hb3)
  have p0_1 := cell_below p0_1 (box_below hb3)
  have p0_2 := cell_below p0_2 (box_below hb3)
  have p0_3 := cell_below p0_3 (box_below hb3)
  have p0_4 := cell_below p0_4 (box_below hb3)
  have p0_5 := cell_below p0_5 (box_below hb3)
  have p0_6 := cell_below p0_6 (box_below hb3)
  have p0_7 := cell_below p0_7 (box_below hb3)
  have hb := below_onN hb (box_below hb3) hb.size
  go_wp2_with fail
  go_ret
  exact ⟨by first | rfl | simp, hb⟩
theorem jobValid_r (s : Jo) (w : World) :
    Calls Try.prog 67 #[.agg #[.int .i64 s.n, .int .i64 s.r, .int .i64 s.c, .int .i64 s.f, .int .i64 s.l, .int .i64 s.w, .bool s.dy, .bool s.wm]] w fun e w' => e = .returned (.bool (jobB s)) ∧ Below w.heap.size w w' := by
  unfold jobB
  cases h0 : btw s.n 1 1000000000 with
  | false => exact jobValid_0 s w h0
  | true =>
    cases h1 : placeB s.r s.c s.w with
    | false => exact jobValid_1 s w h0 h1
    | true =>
      cases h2 : (btw s.f 0 100000 && btw s.l 0 100000) with
      | false => exact jobValid_2 s w h0 h1 h2
      | true =>
        exact jobValid_3 s w h0 h1 h2
set_option maxHeartbeats 1000000 in
theorem nightValid_0 (s : Ni) (w : World) (h0 : btw s.d 0 100000 = false) :
    Calls Try.prog 52 #[.agg #[.int .i64 s.d, .int .i64 s.r, .int .i64 s.f, .int .i64 s.t, .int .i64 s.w, .int .i64 s.p, .bool s.rn, .bool s.fr]] w fun e w' => e = .returned (.bool (false)) ∧ Below w.heap.size w w' := by
  have H0 := Lib.hid h0
  clear h0
  go_enter Try.func52, Try.ntmps52
  go_wp2_with fail
  obtain ⟨wB, hwB⟩ : ∃ wB, ((w.alloc (.cells #[.int .i64 s.d, .int .i64 s.r, .int .i64 s.f, .int .i64 s.t, .int .i64 s.w, .int .i64 s.p, .bool s.rn, .bool s.fr] 51)).alloc (.cells #[.int .i64 s.d] 3)) = wB := ⟨_, rfl⟩
  have hb : Below w.heap.size w wB := by rw [← hwB]; exact ((Below.refl _ _).alloc (by simp <;> omega) _).alloc (by simp <;> omega) _
  have hz : w.heap.size < wB.heap.size := by rw [← hwB]; simp; try omega
  have p0_0 : wB.cell? ⟨w.heap.size, 0, none⟩ = some (.int .i64 s.d) := by rw [← hwB]; simp [go_sem]
  have p0_1 : wB.cell? ⟨w.heap.size, 1, none⟩ = some (.int .i64 s.r) := by rw [← hwB]; simp [go_sem]
  have p0_2 : wB.cell? ⟨w.heap.size, 2, none⟩ = some (.int .i64 s.f) := by rw [← hwB]; simp [go_sem]
  have p0_3 : wB.cell? ⟨w.heap.size, 3, none⟩ = some (.int .i64 s.t) := by rw [← hwB]; simp [go_sem]
  have p0_4 : wB.cell? ⟨w.heap.size, 4, none⟩ = some (.int .i64 s.w) := by rw [← hwB]; simp [go_sem]
  have p0_5 : wB.cell? ⟨w.heap.size, 5, none⟩ = some (.int .i64 s.p) := by rw [← hwB]; simp [go_sem]
  have p0_6 : wB.cell? ⟨w.heap.size, 6, none⟩ = some (.bool s.rn) := by rw [← hwB]; simp [go_sem]
  have p0_7 : wB.cell? ⟨w.heap.size, 7, none⟩ = some (.bool s.fr) := by rw [← hwB]; simp [go_sem]
  have q0 : wB.cell? ⟨w.heap.size + 1, 0, none⟩ = some (.int .i64 s.d) := by rw [← hwB]; simp [go_sem]
  rw [hwB]
  clear hwB
  refine (withinN1_any _ _ s.d _ _ q0).mono ?_
  rintro e w1 ⟨rfl, hb1⟩
  rw [H0.out]
  have p0_0 := cell_below p0_0 hb1
  have p0_1 := cell_below p0_1 hb1
  have p0_2 := cell_below p0_2 hb1
  have p0_3 := cell_below p0_3 hb1
  have p0_4 := cell_below p0_4 hb1
  have p0_5 := cell_below p0_5 hb1
  have p0_6 := cell_below p0_6 hb1
  have p0_7 := cell_below p0_7 hb1
  have hb := below_onN hb hb1 hb.size
  clear q0
  go_wp2_with fail
  go_ret
  exact ⟨rfl, hb⟩
set_option maxHeartbeats 1000000 in
theorem nightValid_1 (s : Ni) (w : World) (h0 : btw s.d 0 100000 = true) (h1 : placeB s.r s.f s.w = false) :
    Calls Try.prog 52 #[.agg #[.int .i64 s.d, .int .i64 s.r, .int .i64 s.f, .int .i64 s.t, .int .i64 s.w, .int .i64 s.p, .bool s.rn, .bool s.fr]] w fun e w' => e = .returned (.bool (false)) ∧ Below w.heap.size w w' := by
  have H0 := Lib.hid h0
  have HP := Lib.hid (fun W => placeValid_v s.r s.f s.w h1 W)
  clear h0 h1
  go_enter Try.func52, Try.ntmps52
  go_wp2_with fail
  obtain ⟨wB, hwB⟩ : ∃ wB, ((w.alloc (.cells #[.int .i64 s.d, .int .i64 s.r, .int .i64 s.f, .int .i64 s.t, .int .i64 s.w, .int .i64 s.p, .bool s.rn, .bool s.fr] 51)).alloc (.cells #[.int .i64 s.d] 3)) = wB := ⟨_, rfl⟩
  have hb : Below w.heap.size w wB := by rw [← hwB]; exact ((Below.refl _ _).alloc (by simp <;> omega) _).alloc (by simp <;> omega) _
  have hz : w.heap.size < wB.heap.size := by rw [← hwB]; simp; try omega
  have p0_0 : wB.cell? ⟨w.heap.size, 0, none⟩ = some (.int .i64 s.d) := by rw [← hwB]; simp [go_sem]
  have p0_1 : wB.cell? ⟨w.heap.size, 1, none⟩ = some (.int .i64 s.r) := by rw [← hwB]; simp [go_sem]
  have p0_2 : wB.cell? ⟨w.heap.size, 2, none⟩ = some (.int .i64 s.f) := by rw [← hwB]; simp [go_sem]
  have p0_3 : wB.cell? ⟨w.heap.size, 3, none⟩ = some (.int .i64 s.t) := by rw [← hwB]; simp [go_sem]
  have p0_4 : wB.cell? ⟨w.heap.size, 4, none⟩ = some (.int .i64 s.w) := by rw [← hwB]; simp [go_sem]
  have p0_5 : wB.cell? ⟨w.heap.size, 5, none⟩ = some (.int .i64 s.p) := by rw [← hwB]; simp [go_sem]
  have p0_6 : wB.cell? ⟨w.heap.size, 6, none⟩ = some (.bool s.rn) := by rw [← hwB]; simp [go_sem]
  have p0_7 : wB.cell? ⟨w.heap.size, 7, none⟩ = some (.bool s.fr) := by rw [← hwB]; simp [go_sem]
  have q0 : wB.cell? ⟨w.heap.size + 1, 0, none⟩ = some (.int .i64 s.d) := by rw [← hwB]; simp [go_sem]
  rw [hwB]
  clear hwB
  refine (withinN1_any _ _ s.d _ _ q0).mono ?_
  rintro e w1 ⟨rfl, hb1⟩
  rw [H0.out]
  have p0_0 := cell_below p0_0 hb1
  have p0_1 := cell_below p0_1 hb1
  have p0_2 := cell_below p0_2 hb1
  have p0_3 := cell_below p0_3 hb1
  have p0_4 := cell_below p0_4 hb1
  have p0_5 := cell_below p0_5 hb1
  have p0_6 := cell_below p0_6 hb1
  have p0_7 := cell_below p0_7 hb1
  have hb := below_onN hb hb1 hb.size
  clear q0
  go_wp2_with fail
  refine (HP.out _).mono ?_
  rintro e w2 ⟨rfl, hb2⟩
  have p0_0 := cell_below p0_0 hb2
  have p0_1 := cell_below p0_1 hb2
  have p0_2 := cell_below p0_2 hb2
  have p0_3 := cell_below p0_3 hb2
  have p0_4 := cell_below p0_4 hb2
  have p0_5 := cell_below p0_5 hb2
  have p0_6 := cell_below p0_6 hb2
  have p0_7 := cell_below p0_7 hb2
  have hb := below_onN hb hb2 hb.size
  go_wp2_with fail
  go_ret
  exact ⟨rfl, hb⟩
set_option maxHeartbeats 1000000 in
theorem nightValid_2 (s : Ni) (w : World) (h0 : btw s.d 0 100000 = true) (h1 : placeB s.r s.f s.w = true) (h2 : btw s.t s.f 10000000 = false) :
    Calls Try.prog 52 #[.agg #[.int .i64 s.d, .int .i64 s.r, .int .i64 s.f, .int .i64 s.t, .int .i64 s.w, .int .i64 s.p, .bool s.rn, .bool s.fr]] w fun e w' => e = .returned (.bool (false)) ∧ Below w.heap.size w w' := by
  have H0 := Lib.hid h0
  have HP := Lib.hid (fun W => placeValid_v s.r s.f s.w h1 W)
  have H2 := Lib.hid h2
  clear h0 h1 h2
  go_enter Try.func52, Try.ntmps52
  go_wp2_with fail
  obtain ⟨wB, hwB⟩ : ∃ wB, ((w.alloc (.cells #[.int .i64 s.d, .int .i64 s.r, .int .i64 s.f, .int .i64 s.t, .int .i64 s.w, .int .i64 s.p, .bool s.rn, .bool s.fr] 51)).alloc (.cells #[.int .i64 s.d] 3)) = wB := ⟨_, rfl⟩
  have hb : Below w.heap.size w wB := by rw [← hwB]; exact ((Below.refl _ _).alloc (by simp <;> omega) _).alloc (by simp <;> omega) _
  have hz : w.heap.size < wB.heap.size := by rw [← hwB]; simp; try omega
  have p0_0 : wB.cell? ⟨w.heap.size, 0, none⟩ = some (.int .i64 s.d) := by rw [← hwB]; simp [go_sem]
  have p0_1 : wB.cell? ⟨w.heap.size, 1, none⟩ = some (.int .i64 s.r) := by rw [← hwB]; simp [go_sem]
  have p0_2 : wB.cell? ⟨w.heap.size, 2, none⟩ = some (.int .i64 s.f) := by rw [← hwB]; simp [go_sem]
  have p0_3 : wB.cell? ⟨w.heap.size, 3, none⟩ = some (.int .i64 s.t) := by rw [← hwB]; simp [go_sem]
  have p0_4 : wB.cell? ⟨w.heap.size, 4, none⟩ = some (.int .i64 s.w) := by rw [← hwB]; simp [go_sem]
  have p0_5 : wB.cell? ⟨w.heap.size, 5, none⟩ = some (.int .i64 s.p) := by rw [← hwB]; simp [go_sem]
  have p0_6 : wB.cell? ⟨w.heap.size, 6, none⟩ = some (.bool s.rn) := by rw [← hwB]; simp [go_sem]
  have p0_7 : wB.cell? ⟨w.heap.size, 7, none⟩ = some (.bool s.fr) := by rw [← hwB]; simp [go_sem]
  have q0 : wB.cell? ⟨w.heap.size + 1, 0, none⟩ = some (.int .i64 s.d) := by rw [← hwB]; simp [go_sem]
  rw [hwB]
  clear hwB
  refine (withinN1_any _ _ s.d _ _ q0).mono ?_
  rintro e w1 ⟨rfl, hb1⟩
  rw [H0.out]
  have p0_0 := cell_below p0_0 hb1
  have p0_1 := cell_below p0_1 hb1
  have p0_2 := cell_below p0_2 hb1
  have p0_3 := cell_below p0_3 hb1
  have p0_4 := cell_below p0_4 hb1
  have p0_5 := cell_below p0_5 hb1
  have p0_6 := cell_below p0_6 hb1
  have p0_7 := cell_below p0_7 hb1
  have hb := below_onN hb hb1 hb.size
  clear q0
  go_wp2_with fail
  refine (HP.out _).mono ?_
  rintro e w2 ⟨rfl, hb2⟩
  have p0_0 := cell_below p0_0 hb2
  have p0_1 := cell_below p0_1 hb2
  have p0_2 := cell_below p0_2 hb2
  have p0_3 := cell_below p0_3 hb2
  have p0_4 := cell_below p0_4 hb2
  have p0_5 := cell_below p0_5 hb2
  have p0_6 := cell_below p0_6 hb2
  have p0_7 := cell_below p0_7 hb2
  have hb := below_onN hb hb2 hb.size
  go_wp2_with fail
  refine (withinN1_any _ _ s.t _ _ (by simp [go_sem])).mono ?_
  rintro e w3 ⟨rfl, hb3⟩
  rw [H2.out]
  have p0_0 := cell_below p0_0 (box_below hb3)
  have p0_1 := cell_below p0_1 (box_below hb3)
  have p0_2 := cell_below p0_2 (box_below hb3)
  have p0_3 := cell_below p0_3 (box_below hb3)
  have p0_4 := cell_below p0_4 (box_below hb3)
  have p0_5 := cell_below p0_5 (box_below hb3)
  have p0_6 := cell_below p0_6 (box_below hb3)
  have p0_7 := cell_below p0_7 (box_below hb3)
  have hb := below_onN hb (box_below hb3) hb.size
  go_wp2_with fail
  go_ret
  exact ⟨rfl, hb⟩
set_option maxHeartbeats 1000000 in
theorem nightValid_3 (s : Ni) (w : World) (h0 : btw s.d 0 100000 = true) (h1 : placeB s.r s.f s.w = true) (h2 : btw s.t s.f 10000000 = true) :
    Calls Try.prog 52 #[.agg #[.int .i64 s.d, .int .i64 s.r, .int .i64 s.f, .int .i64 s.t, .int .i64 s.w, .int .i64 s.p, .bool s.rn, .bool s.fr]] w fun e w' => e = .returned (.bool (btw s.p 0 100)) ∧ Below w.heap.size w w' := by
  have H0 := Lib.hid h0
  have HP := Lib.hid (fun W => placeValid_v s.r s.f s.w h1 W)
  have H2 := Lib.hid h2
  have H3 := Lib.hid (rfl : btw s.p 0 100 = btw s.p 0 100)
  clear h0 h1 h2
  go_enter Try.func52, Try.ntmps52
  go_wp2_with fail
  obtain ⟨wB, hwB⟩ : ∃ wB, ((w.alloc (.cells #[.int .i64 s.d, .int .i64 s.r, .int .i64 s.f, .int .i64 s.t, .int .i64 s.w, .int .i64 s.p, .bool s.rn, .bool s.fr] 51)).alloc (.cells #[.int .i64 s.d] 3)) = wB := ⟨_, rfl⟩
  have hb : Below w.heap.size w wB := by rw [← hwB]; exact ((Below.refl _ _).alloc (by simp <;> omega) _).alloc (by simp <;> omega) _
  have hz : w.heap.size < wB.heap.size := by rw [← hwB]; simp; try omega
  have p0_0 : wB.cell? ⟨w.heap.size, 0, none⟩ = some (.int .i64 s.d) := by rw [← hwB]; simp [go_sem]
  have p0_1 : wB.cell? ⟨w.heap.size, 1, none⟩ = some (.int .i64 s.r) := by rw [← hwB]; simp [go_sem]
  have p0_2 : wB.cell? ⟨w.heap.size, 2, none⟩ = some (.int .i64 s.f) := by rw [← hwB]; simp [go_sem]
  have p0_3 : wB.cell? ⟨w.heap.size, 3, none⟩ = some (.int .i64 s.t) := by rw [← hwB]; simp [go_sem]
  have p0_4 : wB.cell? ⟨w.heap.size, 4, none⟩ = some (.int .i64 s.w) := by rw [← hwB]; simp [go_sem]
  have p0_5 : wB.cell? ⟨w.heap.size, 5, none⟩ = some (.int .i64 s.p) := by rw [← hwB]; simp [go_sem]
  have p0_6 : wB.cell? ⟨w.heap.size, 6, none⟩ = some (.bool s.rn) := by rw [← hwB]; simp [go_sem]
  have p0_7 : wB.cell? ⟨w.heap.size, 7, none⟩ = some (.bool s.fr) := by rw [← hwB]; simp [go_sem]
  have q0 : wB.cell? ⟨w.heap.size + 1, 0, none⟩ = some (.int .i64 s.d) := by rw [← hwB]; simp [go_sem]
  rw [hwB]
  clear hwB
  refine (withinN1_any _ _ s.d _ _ q0).mono ?_
  rintro e w1 ⟨rfl, hb1⟩
  rw [H0.out]
  have p0_0 := cell_below p0_0 hb1
  have p0_1 := cell_below p0_1 hb1
  have p0_2 := cell_below p0_2 hb1
  have p0_3 := cell_below p0_3 hb1
  have p0_4 := cell_below p0_4 hb1
  have p0_5 := cell_below p0_5 hb1
  have p0_6 := cell_below p0_6 hb1
  have p0_7 := cell_below p0_7 hb1
  have hb := below_onN hb hb1 hb.size
  clear q0
  go_wp2_with fail
  refine (HP.out _).mono ?_
  rintro e w2 ⟨rfl, hb2⟩
  have p0_0 := cell_below p0_0 hb2
  have p0_1 := cell_below p0_1 hb2
  have p0_2 := cell_below p0_2 hb2
  have p0_3 := cell_below p0_3 hb2
  have p0_4 := cell_below p0_4 hb2
  have p0_5 := cell_below p0_5 hb2
  have p0_6 := cell_below p0_6 hb2
  have p0_7 := cell_below p0_7 hb2
  have hb := below_onN hb hb2 hb.size
  go_wp2_with fail
  refine (withinN1_any _ _ s.t _ _ (by simp [go_sem])).mono ?_
  rintro e w3 ⟨rfl, hb3⟩
  rw [H2.out]
  have p0_0 := cell_below p0_0 (box_below hb3)
  have p0_1 := cell_below p0_1 (box_below hb3)
  have p0_2 := cell_below p0_2 (box_below hb3)
  have p0_3 := cell_below p0_3 (box_below hb3)
  have p0_4 := cell_below p0_4 (box_below hb3)
  have p0_5 := cell_below p0_5 (box_below hb3)
  have p0_6 := cell_below p0_6 (box_below hb3)
  have p0_7 := cell_below p0_7 (box_below hb3)
  have hb := below_onN hb (box_below hb3) hb.size
  go_wp2_with fail
  refine (withinN1_any _ _ s.p _ _ (by simp [go_sem])).mono ?_
  rintro e w4 ⟨rfl, hb4⟩
  have p0_0 := cell_below p0_0 (box_below hb4)
  have p0_1 := cell_below p0_1 (box_below hb4)
  have p0_2 := cell_below p0_2 (box_below hb4)
  have p0_3 := cell_below p0_3 (box_below hb4)
  have p0_4 := cell_below p0_4 (box_below hb4)
  have p0_5 := cell_below p0_5 (box_below hb4)
  have p0_6 := cell_below p0_6 (box_below hb4)
  have p0_7 := cell_below p0_7 (box_below hb4)
  have hb := below_onN hb (box_below hb4) hb.size
  go_wp2_with fail
  go_ret
  exact ⟨rfl, hb⟩
theorem nightValid_r (s : Ni) (w : World) :
    Calls Try.prog 52 #[.agg #[.int .i64 s.d, .int .i64 s.r, .int .i64 s.f, .int .i64 s.t, .int .i64 s.w, .int .i64 s.p, .bool s.rn, .bool s.fr]] w fun e w' => e = .returned (.bool (nightB s)) ∧ Below w.heap.size w w' := by
  unfold nightB
  cases h0 : btw s.d 0 100000 with
  | false => exact nightValid_0 s w h0
  | true =>
    cases h1 : placeB s.r s.f s.w with
    | false => exact nightValid_1 s w h0 h1
    | true =>
      cases h2 : btw s.t s.f 10000000 with
      | false => exact nightValid_2 s w h0 h1 h2
      | true =>
        exact nightValid_3 s w h0 h1 h2
theorem wrongN_r (s : Ni) (w : World) :
    Calls Try.prog 51 #[.agg #[.int .i64 s.d, .int .i64 s.r, .int .i64 s.f, .int .i64 s.t, .int .i64 s.w, .int .i64 s.p, .bool s.rn, .bool s.fr]] w fun e w' => e = .returned (.bool (!(nightB s))) ∧ Below w.heap.size w w' := by
  have HV := Lib.hid (fun W => nightValid_r s W)
  generalize nightB s = v at *
  go_enter Try.func51, Try.ntmps51
  go_wp2_with fail
  have hb := (Below.refl w.heap.size w).alloc (Nat.le_refl _) (.cells #[.int .i64 s.d, .int .i64 s.r, .int .i64 s.f, .int .i64 s.t, .int .i64 s.w, .int .i64 s.p, .bool s.rn, .bool s.fr] 51)
  refine (HV.out _).mono ?_
  rintro e w1 ⟨rfl, hb1⟩
  go_wp2_with fail
  go_ret
  exact ⟨rfl, below_onN hb hb1 hb.size⟩
end Go.Proofs.Ytghlhjiomebmhaa
