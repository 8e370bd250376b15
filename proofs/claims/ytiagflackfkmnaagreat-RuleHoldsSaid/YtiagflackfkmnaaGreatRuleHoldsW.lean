/-
  The law RuleHolds. By an AI agent.
-/
import Derived.Test.YtiagflackfkmnaaGreatRuX
import Derived.Test.YtiagflackfkmnaaGreatRuHv
import Derived.Test.YtiagflackfkmnaaGreatRuHe
import Derived.Deep.RegionHeld3
import Derived.Deep.DeepCutAuto
import Derived.BigQuiet
import Derived.BigRegion
import Derived.StillTailTactics
import Derived.Deep.AppendLies
namespace Go.Proofs.YtiagflackfkmnaaGreat
set_option linter.unusedVariables false
set_option linter.unusedSimpArgs false
open Go.RowKit

set_option maxRecDepth 100000 in
set_option maxHeartbeats 1000000 in
theorem topic_r (n : Int) (w : World) : Calls Tryz.prog 23 #[.int .i64 n] w fun e w' => e = .returned (.bool (topB n)) ∧ w = w' := by
  by_cases h1 : n = 1
  · subst h1
    go_enter Tryz.func23, Tryz.ntmps23
    go_wp2_with fail
    go_ret
    exact ⟨rfl, rfl⟩
  · have d1 : (n == 1) = false := beq_false_of_ne h1
    have hr : Hid (topB n = (n == 2)) := Lib.hid (by unfold topB; rw [d1, Bool.false_or])
    clear h1
    go_enter Tryz.func23, Tryz.ntmps23
    go_wp2_with fail
    go_ret
    exact ⟨by rw [hr.out] <;> rfl, rfl⟩
set_option linter.unnecessarySimpa false
set_option maxRecDepth 100000 in
set_option maxHeartbeats 4000000 in
theorem ruleHolds_any (L : Int) (a : Option Addr) (js : List Int) (ca : Nat) (aa : Option Addr) (l : List Sgn) (cl : Nat) (ae : Option Addr) (q : List Edc) (cq : Nat) (q0 q1 q2 q3 : Int) (w : World) (hI : IntsS w a js) (hA : SgnS w aa l) (hE : EdS w ae q) : Calls Tryz.prog 4 #[.agg #[.int .i64 L, .slice a js.length ca, .slice aa l.length cl, .slice ae q.length cq, .int .i64 q0, .int .i64 q1, .int .i64 q2, .int .i64 q3]] w fun e w' => e = .returned (.bool true) ∧ Below w.heap.size w w' := by
  have HH := Lib.hid (fun W (hW : Below w.heap.size w W) => Heavy_any L a js ca aa l cl ae q cq q0 q1 q2 q3 W (hI.below hW) (hA.below hW) (hE.below hW))
  have hrr : (btw q0 0 10000000 && dirB q1 && topB q2 && btw q3 0 (L - 1)) = (btw q0 0 10000000 && dirB q1 && topB q2 && decide (0 ≤ q3) && decide (q3 < L)) := by
    have : btw q3 0 (L - 1) = (decide (0 ≤ q3) && decide (q3 < L)) := by
      unfold btw
      have : decide (q3 ≤ L - 1) = decide (q3 < L) := by rw [Bool.eq_iff_iff, decide_eq_true_eq, decide_eq_true_eq]; omega
      rw [this]
    rw [this, Bool.and_assoc (btw q0 0 10000000 && dirB q1 && topB q2)]
  obtain ⟨r, hr⟩ : ∃ r, r = (btw q0 0 10000000 && dirB q1 && topB q2 && btw q3 0 (L - 1)) := ⟨_, rfl⟩
  have HP := Lib.hid (fun W (hW : Below w.heap.size w W) => Holds_any L a js ca aa l cl q0 q1 q2 q3 (edcsB L js q) r hr W (hI.below hW) (hA.below hW))
  have HM := Lib.hid (fun W (hW : Below w.heap.size w W) => Must_any L a js ca ae q cq q0 q1 q2 q3 (sgnsB L js l) r hr W (hI.below hW) (hE.below hW))
  have HW1 := Lib.hid (fun W (hW : Below w.heap.size w W) => why_r L a js ca aa l cl ae q cq q0 q1 q2 q3 true false r W (hI.below hW) (hA.below hW) (hE.below hW))
  have HW2 := Lib.hid (fun W (hW : Below w.heap.size w W) => why_r L a js ca aa l cl ae q cq q0 q1 q2 q3 false true r W (hI.below hW) (hA.below hW) (hE.below hW))
  have HE1 : Hid (whyK (lineB L js) true (sgnsB L js l) false (edcsB L js q) r = 0 → ∀ W, Below w.heap.size w W → Calls Tryz.prog 24 #[.agg #[.int .i64 L, .slice a js.length ca], .slice aa l.length cl, .int .i64 q0, .int .i64 q1, .int .i64 q2, .int .i64 q3] W fun e w' => e = .returned (.int .i64 (hldV L js l q0 q1 q2 q3)) ∧ Below W.heap.size W w') := Lib.hid fun h W hW => by
    by_cases hV : lstE L js l [] = 0
    · rw [(lst_s L js l true _ _).2 hV] at h
      cases hx : r with
      | false => rw [hx, if_pos rfl] at h; cases h
      | true =>
        rw [hx] at hr
        have hr := hr.symm
        simp only [Bool.and_eq_true] at hr
        exact refHolds_r L a js ca aa l cl q0 q1 q2 q3 hV hr.1.2 hr.2 W (hI.below hW) (hA.below hW)
    · rw [(lst_s L js l true _ _).1 hV] at h; exact absurd h hV
  have HRM := Lib.hid (fun W (hW : Below w.heap.size w W) => refMust_r ae q cq q0 q2 q1 q3 W (hE.below hW))
  have HRr := Lib.hid (hr.trans hrr)
  generalize hldV L js l q0 q1 q2 q3 = VH at *
  generalize mustV q q0 q2 q1 q3 = VM at *
  clear hr hrr
  generalize whyK (lineB L js) true (sgnsB L js l) false (edcsB L js q) r = E1 at *
  generalize whyK (lineB L js) false (sgnsB L js l) true (edcsB L js q) r = E2 at *
  obtain ⟨V1, hV1⟩ : ∃ V1, (if E1 = 0 then VH else 0) = V1 := ⟨_, rfl⟩
  obtain ⟨V2, hV2⟩ : ∃ V2, (if E2 = 0 then VM else 0) = V2 := ⟨_, rfl⟩
  rw [hV1] at HP
  rw [hV2] at HM
  have HV1 := Lib.hid hV1
  have HV2 := Lib.hid hV2
  clear hV1 hV2
  clear hI hA hE
  go_enter Tryz.func4, Tryz.ntmps4
  go_wp2_with fail
  obtain ⟨wB, hwB⟩ : ∃ wB, w.alloc (.cells #[.int .i64 L, .slice a js.length ca, .slice aa l.length cl, .slice ae q.length cq, .int .i64 q0, .int .i64 q1, .int .i64 q2, .int .i64 q3] 28) = wB := ⟨_, rfl⟩
  have hb : Below w.heap.size w wB := by rw [← hwB]; exact (Below.refl _ _).alloc (Nat.le_refl _) _
  have p0 : wB.cell? ⟨w.heap.size, 0, none⟩ = some (.int .i64 L) := by rw [← hwB]; simp [go_sem]
  have p1 : wB.cell? ⟨w.heap.size, 1, none⟩ = some (.slice a js.length ca) := by rw [← hwB]; simp [go_sem]
  have p2 : wB.cell? ⟨w.heap.size, 2, none⟩ = some (.slice aa l.length cl) := by rw [← hwB]; simp [go_sem]
  have p3 : wB.cell? ⟨w.heap.size, 3, none⟩ = some (.slice ae q.length cq) := by rw [← hwB]; simp [go_sem]
  have p4 : wB.cell? ⟨w.heap.size, 4, none⟩ = some (.int .i64 q0) := by rw [← hwB]; simp [go_sem]
  have p5 : wB.cell? ⟨w.heap.size, 5, none⟩ = some (.int .i64 q1) := by rw [← hwB]; simp [go_sem]
  have p6 : wB.cell? ⟨w.heap.size, 6, none⟩ = some (.int .i64 q2) := by rw [← hwB]; simp [go_sem]
  have p7 : wB.cell? ⟨w.heap.size, 7, none⟩ = some (.int .i64 q3) := by rw [← hwB]; simp [go_sem]
  rw [hwB]
  clear hwB
  refine (HH.out _ hb).mono ?_
  rintro e wX ⟨bv, hHv, rfl, hb1⟩
  replace p0 := cell_below p0 hb1
  replace p1 := cell_below p1 hb1
  replace p2 := cell_below p2 hb1
  replace p3 := cell_below p3 hb1
  replace p4 := cell_below p4 hb1
  replace p5 := cell_below p5 hb1
  replace p6 := cell_below p6 hb1
  replace p7 := cell_below p7 hb1
  have hbw := hb.trans (hb1.mono hb.size)
  clear HH hb1
  cases bv with
  | true =>
    clear HP HM HW1 HW2 HE1 HRM HRr HV1 HV2 V1 V2 hHv
    go_wp2_with (go_at_call 12; refine (first_any _).mono ?_; rintro e w9 ⟨rfl, hb9⟩)
    go_ret
    exact ⟨rfl, hbw.trans (hb9.mono hbw.size)⟩
  | false =>
    have HHv := Lib.hid (hHv rfl)
    have hz := block_lt p0
    have Z0 := Lib.hid p0
    have Z1 := Lib.hid p1
    have Z2 := Lib.hid p2
    have Z3 := Lib.hid p3
    have Z4 := Lib.hid p4
    have Z5 := Lib.hid p5
    have Z6 := Lib.hid p6
    have Z7 := Lib.hid p7
    have HBW := Lib.hid hbw
    clear p0 p1 p2 p3 p4 p5 p6 p7 hb hbw hHv
    have hbw := HBW.out
    have p0 := Z0.out
    have p1 := Z1.out
    have p2 := Z2.out
    have p3 := Z3.out
    have p4 := Z4.out
    have p5 := Z5.out
    have p6 := Z6.out
    have p7 := Z7.out
    clear Z0 Z1 Z2 Z3 Z4 Z5 Z6 Z7
    go_upto_region 5 with (first | (go_at_call 21; refine (HP.out _ hbw).mono ?_; rintro e w9 ⟨rfl, hb9⟩; replace hbw := hbw.trans (hb9.mono hbw.size); replace p0 := cell_below p0 hb9; replace p1 := cell_below p1 hb9; replace p2 := cell_below p2 hb9; replace p3 := cell_below p3 hb9; replace p4 := cell_below p4 hb9; replace p5 := cell_below p5 hb9; replace p6 := cell_below p6 hb9; replace p7 := cell_below p7 hb9; clear hb9) | (go_at_call 22; refine (HM.out _ hbw).mono ?_; rintro e w9 ⟨rfl, hb9⟩; replace hbw := hbw.trans (hb9.mono hbw.size); replace p0 := cell_below p0 hb9; replace p1 := cell_below p1 hb9; replace p2 := cell_below p2 hb9; replace p3 := cell_below p3 hb9; replace p4 := cell_below p4 hb9; replace p5 := cell_below p5 hb9; replace p6 := cell_below p6 hb9; replace p7 := cell_below p7 hb9; clear hb9))
    obtain ⟨wY, rfl⟩ : ∃ wY : World, wY = w9 := ⟨_, rfl⟩
    clear HP HM
    have K0 := Lib.hid (fun W => hour_r q0 W)
    have K1 := Lib.hid (fun W => way_r q1 W)
    have K2 := Lib.hid (fun W => topic_r q2 W)
    generalize btw q0 0 10000000 = b0 at *
    generalize dirB q1 = b1 at *
    generalize topB q2 = b2 at *
    go_cut [7] (fun v wx => wY = wx ∧ v = .bool r)
    case first =>
      cases b0 with
      | false =>
        go_wp2_with (first | (go_at_call 17; refine (K0.out _).mono ?_; rintro e w9 ⟨rfl, rfl⟩) | (go_at_call 18; refine (K1.out _).mono ?_; rintro e w9 ⟨rfl, rfl⟩) | (go_at_call 23; refine (K2.out _).mono ?_; rintro e w9 ⟨rfl, rfl⟩))
        go_meet
        exact ⟨rfl, by rw [HRr.out] <;> first | rfl | (simp only [d1, d2]; rfl) | (simp only [d1]; rfl) | simp [d1, d2] | simp [d1] | simp⟩
      | true =>
        cases b1 with
        | false =>
          go_wp2_with (first | (go_at_call 17; refine (K0.out _).mono ?_; rintro e w9 ⟨rfl, rfl⟩) | (go_at_call 18; refine (K1.out _).mono ?_; rintro e w9 ⟨rfl, rfl⟩) | (go_at_call 23; refine (K2.out _).mono ?_; rintro e w9 ⟨rfl, rfl⟩))
          go_meet
          exact ⟨rfl, by rw [HRr.out] <;> first | rfl | (simp only [d1, d2]; rfl) | (simp only [d1]; rfl) | simp [d1, d2] | simp [d1] | simp⟩
        | true =>
          cases b2 with
          | false =>
            go_wp2_with (first | (go_at_call 17; refine (K0.out _).mono ?_; rintro e w9 ⟨rfl, rfl⟩) | (go_at_call 18; refine (K1.out _).mono ?_; rintro e w9 ⟨rfl, rfl⟩) | (go_at_call 23; refine (K2.out _).mono ?_; rintro e w9 ⟨rfl, rfl⟩))
            go_meet
            exact ⟨rfl, by rw [HRr.out] <;> first | rfl | (simp only [d1, d2]; rfl) | (simp only [d1]; rfl) | simp [d1, d2] | simp [d1] | simp⟩
          | true =>
            by_cases z1 : 0 ≤ q3
            · have d1 : decide (0 ≤ q3) = true := decide_eq_true z1
              by_cases z2 : q3 < L
              · have d2 : decide (q3 < L) = true := decide_eq_true z2
                go_wp2_with (first | (go_at_call 17; refine (K0.out _).mono ?_; rintro e w9 ⟨rfl, rfl⟩) | (go_at_call 18; refine (K1.out _).mono ?_; rintro e w9 ⟨rfl, rfl⟩) | (go_at_call 23; refine (K2.out _).mono ?_; rintro e w9 ⟨rfl, rfl⟩))
                go_meet
                exact ⟨rfl, by rw [HRr.out] <;> first | rfl | (simp only [d1, d2]; rfl) | (simp only [d1]; rfl) | simp [d1, d2] | simp [d1] | simp⟩
              · have d2 : decide (q3 < L) = false := decide_eq_false z2
                go_wp2_with (first | (go_at_call 17; refine (K0.out _).mono ?_; rintro e w9 ⟨rfl, rfl⟩) | (go_at_call 18; refine (K1.out _).mono ?_; rintro e w9 ⟨rfl, rfl⟩) | (go_at_call 23; refine (K2.out _).mono ?_; rintro e w9 ⟨rfl, rfl⟩))
                go_meet
                exact ⟨rfl, by rw [HRr.out] <;> first | rfl | (simp only [d1, d2]; rfl) | (simp only [d1]; rfl) | simp [d1, d2] | simp [d1] | simp⟩
            · have d1 : decide (0 ≤ q3) = false := decide_eq_false z1
              go_wp2_with (first | (go_at_call 17; refine (K0.out _).mono ?_; rintro e w9 ⟨rfl, rfl⟩) | (go_at_call 18; refine (K1.out _).mono ?_; rintro e w9 ⟨rfl, rfl⟩) | (go_at_call 23; refine (K2.out _).mono ?_; rintro e w9 ⟨rfl, rfl⟩))
              go_meet
              exact ⟨rfl, by rw [HRr.out] <;> first | rfl | (simp only [d1, d2]; rfl) | (simp only [d1]; rfl) | simp [d1, d2] | simp [d1] | simp⟩
    case rest =>
      obtain ⟨rfl, rfl⟩ := hcut
      clear K0 K1 K2 HRr
      have hzz := block_lt p0
      have Y0 := Lib.hid p0
      have Y1 := Lib.hid p1
      have Y2 := Lib.hid p2
      have Y3 := Lib.hid p3
      have Y4 := Lib.hid p4
      have Y5 := Lib.hid p5
      have Y6 := Lib.hid p6
      have Y7 := Lib.hid p7
      have HBY := Lib.hid hbw
      have HWX := Lib.hid (fun W (hW : Below wY.heap.size wY W) => HW1.out W (HBY.out.trans (hW.mono HBY.out.size)))
      have HWX2 := Lib.hid (fun W (hW : Below wY.heap.size wY W) => HW2.out W (HBY.out.trans (hW.mono HBY.out.size)))
      clear HW1 HW2 hbw
      have hB : Below wY.heap.size wY wY := Below.refl _ _
      go_wp2_with fail
      go_region_held3 (fun w' => w'.cell? ⟨w.heap.size, 0, none⟩ = some (.int .i64 L) ∧ w'.cell? ⟨w.heap.size, 1, none⟩ = some (.slice a js.length ca) ∧ w'.cell? ⟨w.heap.size, 2, none⟩ = some (.slice aa l.length cl) ∧ w'.cell? ⟨w.heap.size, 3, none⟩ = some (.slice ae q.length cq) ∧ w'.cell? ⟨w.heap.size, 4, none⟩ = some (.int .i64 q0) ∧ w'.cell? ⟨w.heap.size, 5, none⟩ = some (.int .i64 q1) ∧ w'.cell? ⟨w.heap.size, 6, none⟩ = some (.int .i64 q2) ∧ w'.cell? ⟨w.heap.size, 7, none⟩ = some (.int .i64 q3)) (go_keep)
        (first
          | (go_at_call 16
             first | (with_reducible refine Calls.mono (HWX.out _ (show Below wY.heap.size wY _ by first | exact hB | exact hB.drew)) ?_) | (with_reducible refine Calls.mono (HWX2.out _ (show Below wY.heap.size wY _ by first | exact hB | exact hB.drew)) ?_)
             rintro e w9 ⟨rfl, hb9⟩
             replace hB : Below wY.heap.size wY w9 := (show Below wY.heap.size wY _ by first | exact hB | exact hB.drew).trans (hb9.mono (by have := hB.size; first | exact this | (simp; exact this)))
             have p0 := (hB.cell (p := ⟨w.heap.size, 0, none⟩) hzz).trans Y0.out
             have p1 := (hB.cell (p := ⟨w.heap.size, 1, none⟩) hzz).trans Y1.out
             have p2 := (hB.cell (p := ⟨w.heap.size, 2, none⟩) hzz).trans Y2.out
             have p3 := (hB.cell (p := ⟨w.heap.size, 3, none⟩) hzz).trans Y3.out
             have p4 := (hB.cell (p := ⟨w.heap.size, 4, none⟩) hzz).trans Y4.out
             have p5 := (hB.cell (p := ⟨w.heap.size, 5, none⟩) hzz).trans Y5.out
             have p6 := (hB.cell (p := ⟨w.heap.size, 6, none⟩) hzz).trans Y6.out
             have p7 := (hB.cell (p := ⟨w.heap.size, 7, none⟩) hzz).trans Y7.out
             skip))
      all_goals
        have hbw := HBY.out.trans (hB.mono HBY.out.size)
        by_cases hE1 : E1 = 0
        · by_cases hE2 : E2 = 0
          · skip
            obtain rfl : V1 = VH := by rw [← HV1.out, if_pos hE1]
            subst hE1
            obtain rfl : V2 = VM := by rw [← HV2.out, if_pos hE2]
            subst hE2
            clear HV1 HV2
            have v1 : (V1 == V1) = true := by simp
            have v2 : (V2 == V2) = true := by simp
            go_wp2_with (first | (go_at_call 24; refine (HE1.out rfl _ hbw).mono ?_; rintro e w9 ⟨rfl, hb9⟩; replace hbw := hbw.trans (hb9.mono hbw.size); replace p0 := cell_below p0 hb9; replace p1 := cell_below p1 hb9; replace p2 := cell_below p2 hb9; replace p3 := cell_below p3 hb9; replace p4 := cell_below p4 hb9; replace p5 := cell_below p5 hb9; replace p6 := cell_below p6 hb9; replace p7 := cell_below p7 hb9; clear hb9) | (go_at_call 25; refine (HRM.out _ hbw).mono ?_; rintro e w9 ⟨rfl, hb9⟩; replace hbw := hbw.trans (hb9.mono hbw.size); replace p0 := cell_below p0 hb9; replace p1 := cell_below p1 hb9; replace p2 := cell_below p2 hb9; replace p3 := cell_below p3 hb9; replace p4 := cell_below p4 hb9; replace p5 := cell_below p5 hb9; replace p6 := cell_below p6 hb9; replace p7 := cell_below p7 hb9; clear hb9) | (go_at_call 12; refine (first_any _).mono ?_; rintro e w9 ⟨rfl, hb9⟩))
            go_ret
            exact ⟨rfl, hbw.trans (hb9.mono hbw.size)⟩
          · skip
            obtain rfl : V1 = VH := by rw [← HV1.out, if_pos hE1]
            subst hE1
            obtain rfl : V2 = 0 := by rw [← HV2.out, if_neg hE2]
            have d2 : (E2 == 0) = false := beq_false_of_ne hE2
            have n2 : (E2 != E2) = false := by simp
            clear HV1 HV2
            have v1 : (V1 == V1) = true := by simp
            go_wp2_with (first | (go_at_call 24; refine (HE1.out rfl _ hbw).mono ?_; rintro e w9 ⟨rfl, hb9⟩; replace hbw := hbw.trans (hb9.mono hbw.size); replace p0 := cell_below p0 hb9; replace p1 := cell_below p1 hb9; replace p2 := cell_below p2 hb9; replace p3 := cell_below p3 hb9; replace p4 := cell_below p4 hb9; replace p5 := cell_below p5 hb9; replace p6 := cell_below p6 hb9; replace p7 := cell_below p7 hb9; clear hb9) | (go_at_call 12; refine (first_any _).mono ?_; rintro e w9 ⟨rfl, hb9⟩))
            go_ret
            exact ⟨rfl, hbw.trans (hb9.mono hbw.size)⟩
        · by_cases hE2 : E2 = 0
          · skip
            obtain rfl : V1 = 0 := by rw [← HV1.out, if_neg hE1]
            have d1 : (E1 == 0) = false := beq_false_of_ne hE1
            have n1 : (E1 != E1) = false := by simp
            obtain rfl : V2 = VM := by rw [← HV2.out, if_pos hE2]
            subst hE2
            clear HV1 HV2
            have v2 : (V2 == V2) = true := by simp
            go_wp2_with (first | (go_at_call 25; refine (HRM.out _ hbw).mono ?_; rintro e w9 ⟨rfl, hb9⟩; replace hbw := hbw.trans (hb9.mono hbw.size); replace p0 := cell_below p0 hb9; replace p1 := cell_below p1 hb9; replace p2 := cell_below p2 hb9; replace p3 := cell_below p3 hb9; replace p4 := cell_below p4 hb9; replace p5 := cell_below p5 hb9; replace p6 := cell_below p6 hb9; replace p7 := cell_below p7 hb9; clear hb9) | (go_at_call 12; refine (first_any _).mono ?_; rintro e w9 ⟨rfl, hb9⟩))
            go_ret
            exact ⟨rfl, hbw.trans (hb9.mono hbw.size)⟩
          · skip
            obtain rfl : V1 = 0 := by rw [← HV1.out, if_neg hE1]
            have d1 : (E1 == 0) = false := beq_false_of_ne hE1
            have n1 : (E1 != E1) = false := by simp
            obtain rfl : V2 = 0 := by rw [← HV2.out, if_neg hE2]
            have d2 : (E2 == 0) = false := beq_false_of_ne hE2
            have n2 : (E2 != E2) = false := by simp
            clear HV1 HV2
            go_wp2_with (first | (go_at_call 12; refine (first_any _).mono ?_; rintro e w9 ⟨rfl, hb9⟩))
            go_ret
            exact ⟨rfl, hbw.trans (hb9.mono hbw.size)⟩
end Go.Proofs.YtiagflackfkmnaaGreat
