/-
  The walk of the law LightBoxes: it answers true. By an AI agent.
-/
import Derived.Test.YtkddmjadilmldaaLightIr
namespace Go.Proofs.Ytkddmjadilmldaa
set_option linter.unusedVariables false
set_option linter.unusedSimpArgs false
open Go.RowKit

theorem corner_in {X Y : Nat → Int} (h : BoxOk X Y) {i : Nat} (hi : i < 4) : insP X Y (X i) (Y i) := by
  have t0 := h.2 0 (by omega)
  have t1 := h.2 1 (by omega)
  have t2 := h.2 2 (by omega)
  have t3 := h.2 3 (by omega)
  have z : ∀ j : Nat, j < 4 → j = 0 ∨ j = 1 ∨ j = 2 ∨ j = 3 := by omega
  intro j hj
  unfold turnAt at t0 t1 t2 t3
  unfold sideAt
  simp only [Nat.reduceAdd, Nat.reduceMod] at t0 t1 t2 t3
  unfold turnV at *
  rcases z i hi with rfl | rfl | rfl | rfl <;> rcases z j hj with rfl | rfl | rfl | rfl <;> simp only [Nat.reduceAdd, Nat.reduceMod] <;> grind
theorem mid_in {X Y : Nat → Int} {px py qx qy x y : Int} (hx : px + qx = 2 * x) (hy : py + qy = 2 * y) (h1 : insP X Y px py) (h2 : insP X Y qx qy) : insP X Y x y := fun j hj => turn_mid hx hy (h1 j hj) (h2 j hj)

set_option maxRecDepth 100000 in
set_option maxHeartbeats 8000000 in
theorem lightBoxes_any (x0 y0 x1 y1 x2 y2 x3 y3 m n : Int) (w : World) (hm : 0 ≤ m ∧ m ≤ 255) (hn : 0 ≤ n ∧ n ≤ 255) :
    Calls Try.prog 9 #[.agg #[.int .i64 x0, .int .i64 y0, .int .i64 x1, .int .i64 y1, .int .i64 x2, .int .i64 y2, .int .i64 x3, .int .i64 y3], .int .u8 m, .int .u8 n] w fun E w' => E = .returned (.bool true) ∧ Below w.heap.size w w' := by
  obtain ⟨m0, m1⟩ := hm
  obtain ⟨n0, n1⟩ := hn
  obtain ⟨mi, hmi⟩ : ∃ mi : Nat, m.tmod 4 = (mi : Int) := ⟨(m % 4).toNat, by rw [Int.tmod_eq_emod_of_nonneg m0]; omega⟩
  obtain ⟨ni, hni⟩ : ∃ ni : Nat, n.tmod 4 = (ni : Int) := ⟨(n % 4).toNat, by rw [Int.tmod_eq_emod_of_nonneg n0]; omega⟩
  have ml : mi < 4 := by rw [Int.tmod_eq_emod_of_nonneg m0] at hmi; omega
  have nl : ni < 4 := by rw [Int.tmod_eq_emod_of_nonneg n0] at hni; omega
  have wm : IntKind.u8.wrap (mi : Int) = (mi : Int) := by rcases (show mi = 0 ∨ mi = 1 ∨ mi = 2 ∨ mi = 3 by omega) with rfl | rfl | rfl | rfl <;> decide
  have wn : IntKind.u8.wrap (ni : Int) = (ni : Int) := by rcases (show ni = 0 ∨ ni = 1 ∨ ni = 2 ∨ ni = 3 by omega) with rfl | rfl | rfl | rfl <;> decide
  have HBX := Lib.hid (fun k hk => box_cell x0 y0 x1 y1 x2 y2 x3 y3 w 56 (k := k) hk)
  unfold boxAgg at *
  have HI := Lib.hid (fun px py => Inside_any x0 y0 x1 y1 x2 y2 x3 y3 px py)
  have HJ := Lib.hid (fun px py => RefInside_any x0 y0 x1 y1 x2 y2 x3 y3 px py)
  unfold argE at HJ
  have H1 : Hid (∀ W, Calls Try.prog 11 #[] W fun e w' => e = .returned (.bool true) ∧ Below W.heap.size W w') := Lib.hid fun W => first_any W
  have hcor : argB (pk x0 x1 x2 x3) (pk y0 y1 y2 y3) (pk x0 x1 x2 x3 mi) (pk y0 y1 y2 y3 mi) = true → (∀ j, j < 4 → colB (pk x0 x1 x2 x3 j) (pk y0 y1 y2 y3 j) = true) ∧ insB (pk x0 x1 x2 x3) (pk y0 y1 y2 y3) (pk x0 x1 x2 x3 mi) (pk y0 y1 y2 y3 mi) = true ∧ ∀ x y, pk x0 x1 x2 x3 mi + pk x0 x1 x2 x3 ni = 2 * x → pk y0 y1 y2 y3 mi + pk y0 y1 y2 y3 ni = 2 * y → argB (pk x0 x1 x2 x3) (pk y0 y1 y2 y3) x y = true ∧ insB (pk x0 x1 x2 x3) (pk y0 y1 y2 y3) x y = true := by
    intro h
    unfold argB at h
    obtain ⟨h1, h2⟩ := Bool.and_eq_true_iff.1 h
    have hb := boxB_iff.1 h1
    refine ⟨hb.1, insB_t (corner_in hb ml), fun x y ex ey => ?_⟩
    have ca := (colB_iff _ _).1 (hb.1 mi ml)
    have cb := (colB_iff _ _).1 (hb.1 ni nl)
    refine ⟨?_, insB_t (mid_in ex ey (corner_in hb ml) (corner_in hb nl))⟩
    unfold argB
    rw [h1, Bool.true_and]
    exact (colB_iff _ _).2 (by omega)
  have HCm := Lib.hid (HBX.out mi ml)
  have HCn := Lib.hid (HBX.out ni nl)
  have HIm := Lib.hid (fun W => HI.out (pk x0 x1 x2 x3 mi) (pk y0 y1 y2 y3 mi) W)
  have HJm := Lib.hid (fun W => HJ.out (pk x0 x1 x2 x3 mi) (pk y0 y1 y2 y3 mi) W)
  have HCB := Lib.hid hcor
  clear hcor
  generalize hX : pk x0 x1 x2 x3 = X at *
  generalize hY : pk y0 y1 y2 y3 = Y at *
  clear hX hY HJ
  have HLX : Hid (colB (X mi) (Y mi) = true → colB (X ni) (Y ni) = true → True) := Lib.hid fun _ _ => trivial
  have HCOL : Hid ((∀ j, j < 4 → colB (X j) (Y j) = true) → ((0 ≤ X mi ∧ X mi ≤ 10000) ∧ 0 ≤ Y mi ∧ Y mi ≤ 10000) ∧ (0 ≤ X ni ∧ X ni ≤ 10000) ∧ 0 ≤ Y ni ∧ Y ni ≤ 10000) := Lib.hid fun h => ⟨(colB_iff _ _).1 (h mi ml), (colB_iff _ _).1 (h ni nl)⟩
  clear HLX
  generalize X mi = xa at *
  generalize Y mi = ya at *
  generalize X ni = xb at *
  generalize Y ni = yb at *
  have g0 : (0 : Int) ≤ (mi : Int) := by omega
  have g1 : (mi : Int) < 4 := by omega
  have g2 : (0 : Int) ≤ (ni : Int) := by omega
  have g3 : (ni : Int) < 4 := by omega
  have c0 := HCm.out.1
  have c1 := HCm.out.2
  have c2 := HCn.out.1
  have c3 := HCn.out.2
  clear HCm HCn HBX
  go_enter Try.func9, Try.ntmps9
  go_wp2_with fail
  obtain ⟨wr, hwr⟩ : ∃ wr, w.alloc (.cells #[.int .i64 x0, .int .i64 y0, .int .i64 x1, .int .i64 y1, .int .i64 x2, .int .i64 y2, .int .i64 x3, .int .i64 y3] 56) = wr := ⟨_, rfl⟩
  rw [hwr] at c0 c1 c2 c3 ⊢
  have hsz : wr.heap.size = w.heap.size + 1 := by rw [← hwr]; simp
  have hz : w.heap.size < wr.heap.size := by omega
  have hbq : Below w.heap.size w wr := by rw [← hwr]; exact (Below.refl _ _).alloc (Nat.le_refl _) _
  have e0 : wr.cell? ⟨w.heap.size, 0, none⟩ = some (.int .i64 x0) := by rw [← hwr]; simp [go_sem]
  have e1 : wr.cell? ⟨w.heap.size, 1, none⟩ = some (.int .i64 y0) := by rw [← hwr]; simp [go_sem]
  have e2 : wr.cell? ⟨w.heap.size, 2, none⟩ = some (.int .i64 x1) := by rw [← hwr]; simp [go_sem]
  have e3 : wr.cell? ⟨w.heap.size, 3, none⟩ = some (.int .i64 y1) := by rw [← hwr]; simp [go_sem]
  have e4 : wr.cell? ⟨w.heap.size, 4, none⟩ = some (.int .i64 x2) := by rw [← hwr]; simp [go_sem]
  have e5 : wr.cell? ⟨w.heap.size, 5, none⟩ = some (.int .i64 y2) := by rw [← hwr]; simp [go_sem]
  have e6 : wr.cell? ⟨w.heap.size, 6, none⟩ = some (.int .i64 x3) := by rw [← hwr]; simp [go_sem]
  have e7 : wr.cell? ⟨w.heap.size, 7, none⟩ = some (.int .i64 y3) := by rw [← hwr]; simp [go_sem]
  clear hwr
  by_cases hA : argB X Y xa ya = true
  · obtain ⟨hcl, hin, hmid⟩ := HCB.out hA
    rw [hA, hin] at HIm
    rw [hA] at HJm
    rw [hin] at HJm
    have HMID := Lib.hid hmid
    obtain ⟨⟨⟨a0, a1⟩, a2, a3⟩, ⟨b0, b1⟩, b2, b3⟩ := HCOL.out hcl
    clear hA hcl hin hmid HCB HCOL
    have n9 : w.heap.size ≠ wr.heap.size := by omega
    have n8 : w.heap.size ≠ wr.heap.size + 1 := by omega
    have q1 : ∀ c1 o, ((wr.alloc (.cells c1 52)).drew).cell? ⟨w.heap.size, o, none⟩ = wr.cell? ⟨w.heap.size, o, none⟩ := fun c1 o => ((((Below.refl _ _).alloc (Nat.le_refl _) _ : Below wr.heap.size wr (wr.alloc (.cells c1 52))).drew).cell (p := ⟨w.heap.size, o, none⟩) hz)
    have q2 : ∀ c1 c2 o, (((wr.alloc (.cells c1 52)).alloc (.cells c2 52)).drew).cell? ⟨w.heap.size, o, none⟩ = wr.cell? ⟨w.heap.size, o, none⟩ := fun c1 c2 o => (((((Below.refl _ _).alloc (Nat.le_refl _) _ : Below wr.heap.size wr (wr.alloc (.cells c1 52))).alloc (by simp) _).drew).cell (p := ⟨w.heap.size, o, none⟩) hz)
    go_region
    all_goals first
      | (obtain ⟨wD, hwD⟩ : ∃ wD, (((wr.alloc (.cells #[.int .i64 xa, .int .i64 ya] 52)).alloc (.cells #[.int .i64 xb, .int .i64 yb] 52)).drew) = wD := ⟨_, rfl⟩
         rw [hwD]
         have hbD : Below wr.heap.size wr wD := by
           rw [← hwD]
           exact (((Below.refl _ _).alloc (Nat.le_refl _) _ : Below wr.heap.size wr (wr.alloc (.cells #[.int .i64 xa, .int .i64 ya] 52))).alloc (by simp) _).drew
         have hsD : wD.heap.size = wr.heap.size + 1 + 1 := by rw [← hwD]; simp
         have d0 : wD.cell? ⟨wr.heap.size, 0, none⟩ = some (.int .i64 xa) := by rw [← hwD]; simp [go_sem]
         have d1 : wD.cell? ⟨wr.heap.size, 1, none⟩ = some (.int .i64 ya) := by rw [← hwD]; simp [go_sem]
         have d2 : wD.cell? ⟨wr.heap.size + 1, 0, none⟩ = some (.int .i64 xb) := by rw [← hwD]; simp [go_sem]
         have d3 : wD.cell? ⟨wr.heap.size + 1, 1, none⟩ = some (.int .i64 yb) := by rw [← hwD]; simp [go_sem]
         clear hwD)
      | (obtain ⟨wD, hwD⟩ : ∃ wD, (((wr.alloc (.cells #[.int .i64 xb, .int .i64 yb] 52)).alloc (.cells #[.int .i64 xa, .int .i64 ya] 52)).drew) = wD := ⟨_, rfl⟩
         rw [hwD]
         have hbD : Below wr.heap.size wr wD := by
           rw [← hwD]
           exact (((Below.refl _ _).alloc (Nat.le_refl _) _ : Below wr.heap.size wr (wr.alloc (.cells #[.int .i64 xb, .int .i64 yb] 52))).alloc (by simp) _).drew
         have hsD : wD.heap.size = wr.heap.size + 1 + 1 := by rw [← hwD]; simp
         have d0 : wD.cell? ⟨wr.heap.size, 0, none⟩ = some (.int .i64 xb) := by rw [← hwD]; simp [go_sem]
         have d1 : wD.cell? ⟨wr.heap.size, 1, none⟩ = some (.int .i64 yb) := by rw [← hwD]; simp [go_sem]
         have d2 : wD.cell? ⟨wr.heap.size + 1, 0, none⟩ = some (.int .i64 xa) := by rw [← hwD]; simp [go_sem]
         have d3 : wD.cell? ⟨wr.heap.size + 1, 1, none⟩ = some (.int .i64 ya) := by rw [← hwD]; simp [go_sem]
         clear hwD)
    all_goals
      have e0 := (hbD.cell (p := ⟨w.heap.size, 0, none⟩) hz).trans e0
      have e1 := (hbD.cell (p := ⟨w.heap.size, 1, none⟩) hz).trans e1
      have e2 := (hbD.cell (p := ⟨w.heap.size, 2, none⟩) hz).trans e2
      have e3 := (hbD.cell (p := ⟨w.heap.size, 3, none⟩) hz).trans e3
      have e4 := (hbD.cell (p := ⟨w.heap.size, 4, none⟩) hz).trans e4
      have e5 := (hbD.cell (p := ⟨w.heap.size, 5, none⟩) hz).trans e5
      have e6 := (hbD.cell (p := ⟨w.heap.size, 6, none⟩) hz).trans e6
      have e7 := (hbD.cell (p := ⟨w.heap.size, 7, none⟩) hz).trans e7
      clear n9 n8 q1 q2 c0 c1 c2 c3
      rw [hsz] at d0 d1 d2 d3
      have hy1 : w.heap.size < wD.heap.size := by omega
      have hy2 : w.heap.size + 1 < wD.heap.size := by omega
      have hy3 : w.heap.size + 1 + 1 < wD.heap.size := by omega
      have hbw := hbq.trans (hbD.mono hbq.size)
      go_wp2_with fail
      refine (HIm.out _).mono ?_
      rintro E w1 ⟨rfl, hb1⟩
      obtain ⟨hc1, hf1⟩ := bcell hb1
      go_wp2_with fail
      refine (HJm.out _).mono ?_
      rintro E w2 ⟨rfl, hb2⟩
      have hb2 := hb1.trans (hb2.mono hb1.size)
      clear hc1 hf1
      obtain ⟨hc2, hf2⟩ := bcell hb2
      by_cases hp : (xa + xb) % 2 = 0 ∧ (ya + yb) % 2 = 0
      · obtain ⟨hp1, hp2⟩ := hp
        have t1 : (xa + xb).tmod 2 = 0 := by rw [Int.tmod_eq_emod_of_nonneg (by omega)]; exact hp1
        have t2 : (ya + yb).tmod 2 = 0 := by rw [Int.tmod_eq_emod_of_nonneg (by omega)]; exact hp2
        have u1 : (xa + xb).tdiv 2 = (xa + xb) / 2 := by rw [Int.tdiv_eq_ediv_of_nonneg (by omega)]
        have u2 : (ya + yb).tdiv 2 = (ya + yb) / 2 := by rw [Int.tdiv_eq_ediv_of_nonneg (by omega)]
        have HM : Hid (∀ W, Calls Try.prog 23 #[.agg #[.int .i64 x0, .int .i64 y0, .int .i64 x1, .int .i64 y1, .int .i64 x2, .int .i64 y2, .int .i64 x3, .int .i64 y3], .agg #[.int .i64 ((xa + xb) / 2), .int .i64 ((ya + yb) / 2)]] W fun e w' => e = .returned (.tuple #[.bool true, .int .i64 0]) ∧ Below W.heap.size W w') := Lib.hid fun W => by
          have hm := HMID.out ((xa + xb) / 2) ((ya + yb) / 2) (by omega) (by omega)
          have h := HI.out ((xa + xb) / 2) ((ya + yb) / 2) W
          rw [hm.1, hm.2] at h
          exact h
        have bx1 : 0 ≤ (xa + xb) / 2 := by omega
        have bx2 : (xa + xb) / 2 ≤ 10000 := by omega
        have by1 : 0 ≤ (ya + yb) / 2 := by omega
        have by2 : (ya + yb) / 2 ≤ 10000 := by omega
        have wx : IntKind.i64.wrap ((xa + xb) / 2) = (xa + xb) / 2 := IntWalk.i64_in _ (by omega)
        have wy : IntKind.i64.wrap ((ya + yb) / 2) = (ya + yb) / 2 := IntWalk.i64_in _ (by omega)
        have ws : IntKind.i64.wrap (xa + xb) = xa + xb := IntWalk.i64_in _ (by omega)
        have wt : IntKind.i64.wrap (ya + yb) = ya + yb := IntWalk.i64_in _ (by omega)
        obtain ⟨xm, hxm⟩ : ∃ xm, (xa + xb) / 2 = xm := ⟨_, rfl⟩
        obtain ⟨ym, hym⟩ : ∃ ym, (ya + yb) / 2 = ym := ⟨_, rfl⟩
        rw [hxm] at bx1 bx2 wx u1 HM
        rw [hym] at by1 by2 wy u2 HM
        clear HMID HI
        go_wp2_with fail
        refine (HM.out _).mono ?_
        rintro E w3 ⟨rfl, hb3⟩
        have hb3 := hb2.trans (hb3.mono hb2.size)
        clear hc2 hf2
        obtain ⟨hc3, hf3⟩ := bcell hb3
        go_wp2_with fail
        refine (H1.out _).mono ?_
        rintro E w4 ⟨rfl, hb4⟩
        have hb4 := hb3.trans (hb4.mono hb3.size)
        obtain ⟨hc4, hf4⟩ := bcell hb4
        go_wp2_with fail
        go_ret
        exact ⟨rfl, hbw.trans (hb4.mono hbw.size)⟩
      · by_cases hp1 : (xa + xb) % 2 = 0
        · have t1 : (xa + xb).tmod 2 = 0 := by rw [Int.tmod_eq_emod_of_nonneg (by omega)]; exact hp1
          have t2 : (ya + yb).tmod 2 = 1 := by rw [Int.tmod_eq_emod_of_nonneg (by omega)]; omega
          have ws : IntKind.i64.wrap (xa + xb) = xa + xb := IntWalk.i64_in _ (by omega)
          have wt : IntKind.i64.wrap (ya + yb) = ya + yb := IntWalk.i64_in _ (by omega)
          have hp2 : (ya + yb) % 2 = 1 := by omega
          clear hp HMID HI
          go_wp2_with fail
          refine (H1.out _).mono ?_
          rintro E w4 ⟨rfl, hb4⟩
          have hb4 := hb2.trans (hb4.mono hb2.size)
          obtain ⟨hc4, hf4⟩ := bcell hb4
          go_wp2_with fail
          go_ret
          exact ⟨rfl, hbw.trans (hb4.mono hbw.size)⟩
        · have t1 : (xa + xb).tmod 2 = 1 := by rw [Int.tmod_eq_emod_of_nonneg (by omega)]; omega
          have ws : IntKind.i64.wrap (xa + xb) = xa + xb := IntWalk.i64_in _ (by omega)
          have hp1 : (xa + xb) % 2 = 1 := by omega
          clear hp HMID HI
          go_wp2_with fail
          refine (H1.out _).mono ?_
          rintro E w4 ⟨rfl, hb4⟩
          have hb4 := hb2.trans (hb4.mono hb2.size)
          obtain ⟨hc4, hf4⟩ := bcell hb4
          go_wp2_with fail
          go_ret
          exact ⟨rfl, hbw.trans (hb4.mono hbw.size)⟩
  · have hA : argB X Y xa ya = false := by simpa using hA
    rw [hA] at HIm HJm
    clear hA HCB HCOL HI
    have n9 : w.heap.size ≠ wr.heap.size := by omega
    have n8 : w.heap.size ≠ wr.heap.size + 1 := by omega
    have q1 : ∀ c1 o, ((wr.alloc (.cells c1 52)).drew).cell? ⟨w.heap.size, o, none⟩ = wr.cell? ⟨w.heap.size, o, none⟩ := fun c1 o => ((((Below.refl _ _).alloc (Nat.le_refl _) _ : Below wr.heap.size wr (wr.alloc (.cells c1 52))).drew).cell (p := ⟨w.heap.size, o, none⟩) hz)
    have q2 : ∀ c1 c2 o, (((wr.alloc (.cells c1 52)).alloc (.cells c2 52)).drew).cell? ⟨w.heap.size, o, none⟩ = wr.cell? ⟨w.heap.size, o, none⟩ := fun c1 c2 o => (((((Below.refl _ _).alloc (Nat.le_refl _) _ : Below wr.heap.size wr (wr.alloc (.cells c1 52))).alloc (by simp) _).drew).cell (p := ⟨w.heap.size, o, none⟩) hz)
    go_region
    all_goals first
      | (obtain ⟨wD, hwD⟩ : ∃ wD, (((wr.alloc (.cells #[.int .i64 xa, .int .i64 ya] 52)).alloc (.cells #[.int .i64 xb, .int .i64 yb] 52)).drew) = wD := ⟨_, rfl⟩
         rw [hwD]
         have hbD : Below wr.heap.size wr wD := by
           rw [← hwD]
           exact (((Below.refl _ _).alloc (Nat.le_refl _) _ : Below wr.heap.size wr (wr.alloc (.cells #[.int .i64 xa, .int .i64 ya] 52))).alloc (by simp) _).drew
         have hsD : wD.heap.size = wr.heap.size + 1 + 1 := by rw [← hwD]; simp
         have d0 : wD.cell? ⟨wr.heap.size, 0, none⟩ = some (.int .i64 xa) := by rw [← hwD]; simp [go_sem]
         have d1 : wD.cell? ⟨wr.heap.size, 1, none⟩ = some (.int .i64 ya) := by rw [← hwD]; simp [go_sem]
         have d2 : wD.cell? ⟨wr.heap.size + 1, 0, none⟩ = some (.int .i64 xb) := by rw [← hwD]; simp [go_sem]
         have d3 : wD.cell? ⟨wr.heap.size + 1, 1, none⟩ = some (.int .i64 yb) := by rw [← hwD]; simp [go_sem]
         clear hwD)
      | (obtain ⟨wD, hwD⟩ : ∃ wD, (((wr.alloc (.cells #[.int .i64 xb, .int .i64 yb] 52)).alloc (.cells #[.int .i64 xa, .int .i64 ya] 52)).drew) = wD := ⟨_, rfl⟩
         rw [hwD]
         have hbD : Below wr.heap.size wr wD := by
           rw [← hwD]
           exact (((Below.refl _ _).alloc (Nat.le_refl _) _ : Below wr.heap.size wr (wr.alloc (.cells #[.int .i64 xb, .int .i64 yb] 52))).alloc (by simp) _).drew
         have hsD : wD.heap.size = wr.heap.size + 1 + 1 := by rw [← hwD]; simp
         have d0 : wD.cell? ⟨wr.heap.size, 0, none⟩ = some (.int .i64 xb) := by rw [← hwD]; simp [go_sem]
         have d1 : wD.cell? ⟨wr.heap.size, 1, none⟩ = some (.int .i64 yb) := by rw [← hwD]; simp [go_sem]
         have d2 : wD.cell? ⟨wr.heap.size + 1, 0, none⟩ = some (.int .i64 xa) := by rw [← hwD]; simp [go_sem]
         have d3 : wD.cell? ⟨wr.heap.size + 1, 1, none⟩ = some (.int .i64 ya) := by rw [← hwD]; simp [go_sem]
         clear hwD)
    all_goals
      have e0 := (hbD.cell (p := ⟨w.heap.size, 0, none⟩) hz).trans e0
      have e1 := (hbD.cell (p := ⟨w.heap.size, 1, none⟩) hz).trans e1
      have e2 := (hbD.cell (p := ⟨w.heap.size, 2, none⟩) hz).trans e2
      have e3 := (hbD.cell (p := ⟨w.heap.size, 3, none⟩) hz).trans e3
      have e4 := (hbD.cell (p := ⟨w.heap.size, 4, none⟩) hz).trans e4
      have e5 := (hbD.cell (p := ⟨w.heap.size, 5, none⟩) hz).trans e5
      have e6 := (hbD.cell (p := ⟨w.heap.size, 6, none⟩) hz).trans e6
      have e7 := (hbD.cell (p := ⟨w.heap.size, 7, none⟩) hz).trans e7
      clear n9 n8 q1 q2 c0 c1 c2 c3
      rw [hsz] at d0 d1 d2 d3
      have hy1 : w.heap.size < wD.heap.size := by omega
      have hy2 : w.heap.size + 1 < wD.heap.size := by omega
      have hy3 : w.heap.size + 1 + 1 < wD.heap.size := by omega
      have hbw := hbq.trans (hbD.mono hbq.size)
      go_wp2_with fail
      refine (HIm.out _).mono ?_
      rintro E w1 ⟨rfl, hb1⟩
      obtain ⟨hc1, hf1⟩ := bcell hb1
      go_wp2_with fail
      refine (HJm.out _).mono ?_
      rintro E w2 ⟨rfl, hb2⟩
      have hb2 := hb1.trans (hb2.mono hb1.size)
      clear hc1 hf1
      obtain ⟨hc2, hf2⟩ := bcell hb2
      go_wp2_with fail
      refine (H1.out _).mono ?_
      rintro E w3 ⟨rfl, hb3⟩
      have hb3 := hb2.trans (hb3.mono hb2.size)
      clear hc2 hf2
      obtain ⟨hc3, hf3⟩ := bcell hb3
      go_wp2_with fail
      go_ret
      exact ⟨rfl, hbw.trans (hb3.mono hbw.size)⟩
end Go.Proofs.Ytkddmjadilmldaa
