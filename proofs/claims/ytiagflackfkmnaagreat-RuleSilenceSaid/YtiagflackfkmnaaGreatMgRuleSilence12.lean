/-
  The law RuleHolds. By an AI agent.; The law's right. By an AI agent.; Lists of signs made of others: what speaks, what is covered, what plays no part. By an AI agent.; Rows of one's own side by side: append of one element to one of them leaves the others. By an AI agent.
-/
import Derived.Test.YtiagflackfkmnaaGreatMgRuleSilence7
import Derived.Test.YtiagflackfkmnaaGreatMgRuleSilence10
import Derived.Test.YtiagflackfkmnaaGreatMgRuleSilence11
import Derived.Deep.RegionHeld3
import Derived.Deep.DeepCutAuto
import Derived.BigQuiet
import Derived.BigRegion
import Derived.StillTailTactics
import Derived.Deep.AppendLies
import Derived.Below

namespace Go.Proofs.YtiagflackfkmnaaGreat
set_option linter.unusedVariables false
set_option linter.unusedSimpArgs false
open Go.RowKit

set_option maxRecDepth 100000 in
set_option maxHeartbeats 1000000 in
theorem topic_r (n : Int) (w : World) : Calls Tryz.prog 23 #[.int .i64 n] w fun e w' => e = .returned (.bool (topB n)) ∧ w = w' := by
  by_cases h1 : n = 1
  · subst h1
    go_enter Tryz.func23, Tryz.ntmps23
    go_wp2_with fail
    go_ret
    exact ⟨rfl, rfl⟩
  · have d1 : (n == 1) = false := beq_false_of_ne h1
    have hr : Hid (topB n = (n == 2)) := Lib.hid (by unfold topB; rw [d1, Bool.false_or])
    clear h1
    go_enter Tryz.func23, Tryz.ntmps23
    go_wp2_with fail
    go_ret
    exact ⟨by rw [hr.out] <;> rfl, rfl⟩
set_option linter.unnecessarySimpa false
set_option maxRecDepth 100000 in
set_option maxHeartbeats 4000000 in
theorem ruleHolds_any (L : Int) (a : Option Addr) (js : List Int) (ca : Nat) (aa : Option Addr) (l : List Sgn) (cl : Nat) (ae : Option Addr) (q : List Edc) (cq : Nat) (q0 q1 q2 q3 : Int) (w : World) (hI : IntsS w a js) (hA : SgnS w aa l) (hE : EdS w ae q) : Calls Tryz.prog 4 #[.agg #[.int .i64 L, .slice a js.length ca, .slice aa l.length cl, .slice ae q.length cq, .int .i64 q0, .int .i64 q1, .int .i64 q2, .int .i64 q3]] w fun e w' => e = .returned (.bool true) ∧ Below w.heap.size w w' := by
  have HH := Lib.hid (fun W (hW : Below w.heap.size w W) => Heavy_any L a js ca aa l cl ae q cq q0 q1 q2 q3 W (hI.below hW) (hA.below hW) (hE.below hW))
  have hrr : (btw q0 0 10000000 && dirB q1 && topB q2 && btw q3 0 (L - 1)) = (btw q0 0 10000000 && dirB q1 && topB q2 && decide (0 ≤ q3) && decide (q3 < L)) := by
    have : btw q3 0 (L - 1) = (decide (0 ≤ q3) && decide (q3 < L)) := by
      unfold btw
      have : decide (q3 ≤ L - 1) = decide (q3 < L) := by rw [Bool.eq_iff_iff, decide_eq_true_eq, decide_eq_true_eq]; omega
      rw [this]
    rw [this, Bool.and_assoc (btw q0 0 10000000 && dirB q1 && topB q2)]
  obtain ⟨r, hr⟩ : ∃ r, r = (btw q0 0 10000000 && dirB q1 && topB q2 && btw q3 0 (L - 1)) := ⟨_, rfl⟩
  have HP := Lib.hid (fun W (hW : Below w.heap.size w W) => Holds_any L a js ca aa l cl q0 q1 q2 q3 (edcsB L js q) r hr W (hI.below hW) (hA.below hW))
  have HM := Lib.hid (fun W (hW : Below w.heap.size w W) => Must_any L a js ca ae q cq q0 q1 q2 q3 (sgnsB L js l) r hr W (hI.below hW) (hE.below hW))
  have HW1 := Lib.hid (fun W (hW : Below w.heap.size w W) => why_r L a js ca aa l cl ae q cq q0 q1 q2 q3 true false r W (hI.below hW) (hA.below hW) (hE.below hW))
  have HW2 := Lib.hid (fun W (hW : Below w.heap.size w W) => why_r L a js ca aa l cl ae q cq q0 q1 q2 q3 false true r W (hI.below hW) (hA.below hW) (hE.below hW))
  have HE1 : Hid (whyK (lineB L js) true (sgnsB L js l) false (edcsB L js q) r = 0 → ∀ W, Below w.heap.size w W → Calls Tryz.prog 24 #[.agg #[.int .i64 L, .slice a js.length ca], .slice aa l.length cl, .int .i64 q0, .int .i64 q1, .int .i64 q2, .int .i64 q3] W fun e w' => e = .returned (.int .i64 (hldV L js l q0 q1 q2 q3)) ∧ Below W.heap.size W w') := Lib.hid fun h W hW => by
    by_cases hV : lstE L js l [] = 0
    · rw [(lst_s L js l true _ _).2 hV] at h
      cases hx : r with
      | false => rw [hx, if_pos rfl] at h; cases h
      | true =>
        rw [hx] at hr
        have hr := hr.symm
        simp only [Bool.and_eq_true] at hr
        exact refHolds_r L a js ca aa l cl q0 q1 q2 q3 hV hr.1.2 hr.2 W (hI.below hW) (hA.below hW)
    · rw [(lst_s L js l true _ _).1 hV] at h; exact absurd h hV
  have HRM := Lib.hid (fun W (hW : Below w.heap.size w W) => refMust_r ae q cq q0 q2 q1 q3 W (hE.below hW))
  have HRr := Lib.hid (hr.trans hrr)
  generalize hldV L js l q0 q1 q2 q3 = VH at *
  generalize mustV q q0 q2 q1 q3 = VM at *
  clear hr hrr
  generalize whyK (lineB L js) true (sgnsB L js l) false (edcsB L js q) r = E1 at *
  generalize whyK (lineB L js) false (sgnsB L js l) true (edcsB L js q) r = E2 at *
  obtain ⟨V1, hV1⟩ : ∃ V1, (if E1 = 0 then VH else 0) = V1 := ⟨_, rfl⟩
  obtain ⟨V2, hV2⟩ : ∃ V2, (if E2 = 0 then VM else 0) = V2 := ⟨_, rfl⟩
  rw [hV1] at HP
  rw [hV2] at HM
  have HV1 := Lib.hid hV1
  have HV2 := Lib.hid hV2
  clear hV1 hV2
  clear hI hA hE
  go_enter Tryz.func4, Tryz.ntmps4
  go_wp2_with fail
  obtain ⟨wB, hwB⟩ : ∃ wB, w.alloc (.cells #[.int .i64 L, .slice a js.length ca, .slice aa l.length cl, .slice ae q.length cq, .int .i64 q0, .int .i64 q1, .int .i64 q2, .int .i64 q3] 28) = wB := ⟨_, rfl⟩
  have hb : Below w.heap.size w wB := by rw [← hwB]; exact (Below.refl _ _).alloc (Nat.le_refl _) _
  have p0 : wB.cell? ⟨w.heap.size, 0, none⟩ = some (.int .i64 L) := by rw [← hwB]; simp [go_sem]
  have p1 : wB.cell? ⟨w.heap.size, 1, none⟩ = some (.slice a js.length ca) := by rw [← hwB]; simp [go_sem]
  have p2 : wB.cell? ⟨w.heap.size, 2, none⟩ = some (.slice aa l.length cl) := by rw [← hwB]; simp [go_sem]
  have p3 : wB.cell? ⟨w.heap.size, 3, none⟩ = some (.slice ae q.length cq) := by rw [← hwB]; simp [go_sem]
  have p4 : wB.cell? ⟨w.heap.size, 4, none⟩ = some (.int .i64 q0) := by rw [← hwB]; simp [go_sem]
  have p5 : wB.cell? ⟨w.heap.size, 5, none⟩ = some (.int .i64 q1) := by rw [← hwB]; simp [go_sem]
  have p6 : wB.cell? ⟨w.heap.size, 6, none⟩ = some (.int .i64 q2) := by rw [← hwB]; simp [go_sem]
  have p7 : wB.cell? ⟨w.heap.size, 7, none⟩ = some (.int .i64 q3) := by rw [← hwB]; simp [go_sem]
  rw [hwB]
  clear hwB
  refine (HH.out _ hb).mono ?_
  rintro e wX ⟨bv, hHv, rfl, hb1⟩
  replace p0 := cell_below p0 hb1
  replace p1 := cell_below p1 hb1
  replace p2 := cell_below p2 hb1
  replace p3 := cell_below p3 hb1
  replace p4 := cell_below p4 hb1
  replace p5 := cell_below p5 hb1
  replace p6 := cell_below p6 hb1
  replace p7 := cell_below p7 hb1
  have hbw := hb.trans (hb1.mono hb.size)
  clear HH hb1
  cases bv with
  | true =>
    clear HP HM HW1 HW2 HE1 HRM HRr HV1 HV2 V1 V2 hHv
    go_wp2_with (go_at_call 12; refine (first_any _).mono ?_; rintro e w9 ⟨rfl, hb9⟩)
    go_ret
    exact ⟨rfl, hbw.trans (hb9.mono hbw.size)⟩
  | false =>
    have HHv := Lib.hid (hHv rfl)
    have hz := block_lt p0
    have Z0 := Lib.hid p0
    have Z1 := Lib.hid p1
    have Z2 := Lib.hid p2
    have Z3 := Lib.hid p3
    have Z4 := Lib.hid p4
    have Z5 := Lib.hid p5
    have Z6 := Lib.hid p6
    have Z7 := Lib.hid p7
    have HBW := Lib.hid hbw
    clear p0 p1 p2 p3 p4 p5 p6 p7 hb hbw hHv
    have hbw := HBW.out
    have p0 := Z0.out
    have p1 := Z1.out
    have p2 := Z2.out
    have p3 := Z3.out
    have p4 := Z4.out
    have p5 := Z5.out
    have p6 := Z6.out
    have p7 := Z7.out
    clear Z0 Z1 Z2 Z3 Z4 Z5 Z6 Z7
    go_upto_region 5 with (first | (go_at_call 21; refine (HP.out _ hbw).mono ?_; rintro e w9 ⟨rfl, hb9⟩; replace hbw := hbw.trans (hb9.mono hbw.size); replace p0 := cell_below p0 hb9; replace p1 := cell_below p1 hb9; replace p2 := cell_below p2 hb9; replace p3 := cell_below p3 hb9; replace p4 := cell_below p4 hb9; replace p5 := cell_below p5 hb9; replace p6 := cell_below p6 hb9; replace p7 := cell_below p7 hb9; clear hb9) | (go_at_call 22; refine (HM.out _ hbw).mono ?_; rintro e w9 ⟨rfl, hb9⟩; replace hbw := hbw.trans (hb9.mono hbw.size); replace p0 := cell_below p0 hb9; replace p1 := cell_below p1 hb9; replace p2 := cell_below p2 hb9; replace p3 := cell_below p3 hb9; replace p4 := cell_below p4 hb9; replace p5 := cell_below p5 hb9; replace p6 := cell_below p6 hb9; replace p7 := cell_below p7 hb9; clear hb9))
    obtain ⟨wY, rfl⟩ : ∃ wY : World, wY = w9 := ⟨_, rfl⟩
    clear HP HM
    have K0 := Lib.hid (fun W => hour_r q0 W)
    have K1 := Lib.hid (fun W => way_r q1 W)
    have K2 := Lib.hid (fun W => topic_r q2 W)
    generalize btw q0 0 10000000 = b0 at *
    generalize dirB q1 = b1 at *
    generalize topB q2 = b2 at *
    go_cut [7] (fun v wx => wY = wx ∧ v = .bool r)
    case first =>
      cases b0 with
      | false =>
        go_wp2_with (first | (go_at_call 17; refine (K0.out _).mono ?_; rintro e w9 ⟨rfl, rfl⟩) | (go_at_call 18; refine (K1.out _).mono ?_; rintro e w9 ⟨rfl, rfl⟩) | (go_at_call 23; refine (K2.out _).mono ?_; rintro e w9 ⟨rfl, rfl⟩))
        go_meet
        exact ⟨rfl, by rw [HRr.out] <;> first | rfl | (simp only [d1, d2]; rfl) | (simp only [d1]; rfl) | simp [d1, d2] | simp [d1] | simp⟩
      | true =>
        cases b1 with
        | false =>
          go_wp2_with (first | (go_at_call 17; refine (K0.out _).mono ?_; rintro e w9 ⟨rfl, rfl⟩) | (go_at_call 18; refine (K1.out _).mono ?_; rintro e w9 ⟨rfl, rfl⟩) | (go_at_call 23; refine (K2.out _).mono ?_; rintro e w9 ⟨rfl, rfl⟩))
          go_meet
          exact ⟨rfl, by rw [HRr.out] <;> first | rfl | (simp only [d1, d2]; rfl) | (simp only [d1]; rfl) | simp [d1, d2] | simp [d1] | simp⟩
        | true =>
          cases b2 with
          | false =>
            go_wp2_with (first | (go_at_call 17; refine (K0.out _).mono ?_; rintro e w9 ⟨rfl, rfl⟩) | (go_at_call 18; refine (K1.out _).mono ?_; rintro e w9 ⟨rfl, rfl⟩) | (go_at_call 23; refine (K2.out _).mono ?_; rintro e w9 ⟨rfl, rfl⟩))
            go_meet
            exact ⟨rfl, by rw [HRr.out] <;> first | rfl | (simp only [d1, d2]; rfl) | (simp only [d1]; rfl) | simp [d1, d2] | simp [d1] | simp⟩
          | true =>
            by_cases z1 : 0 ≤ q3
            · have d1 : decide (0 ≤ q3) = true := decide_eq_true z1
              by_cases z2 : q3 < L
              · have d2 : decide (q3 < L) = true := decide_eq_true z2
                go_wp2_with (first | (go_at_call 17; refine (K0.out _).mono ?_; rintro e w9 ⟨rfl, rfl⟩) | (go_at_call 18; refine (K1.out _).mono ?_; rintro e w9 ⟨rfl, rfl⟩) | (go_at_call 23; refine (K2.out _).mono ?_; rintro e w9 ⟨rfl, rfl⟩))
                go_meet
                exact ⟨rfl, by rw [HRr.out] <;> first | rfl | (simp only [d1, d2]; rfl) | (simp only [d1]; rfl) | simp [d1, d2] | simp [d1] | simp⟩
              · have d2 : decide (q3 < L) = false := decide_eq_false z2
                go_wp2_with (first | (go_at_call 17; refine (K0.out _).mono ?_; rintro e w9 ⟨rfl, rfl⟩) | (go_at_call 18; refine (K1.out _).mono ?_; rintro e w9 ⟨rfl, rfl⟩) | (go_at_call 23; refine (K2.out _).mono ?_; rintro e w9 ⟨rfl, rfl⟩))
                go_meet
                exact ⟨rfl, by rw [HRr.out] <;> first | rfl | (simp only [d1, d2]; rfl) | (simp only [d1]; rfl) | simp [d1, d2] | simp [d1] | simp⟩
            · have d1 : decide (0 ≤ q3) = false := decide_eq_false z1
              go_wp2_with (first | (go_at_call 17; refine (K0.out _).mono ?_; rintro e w9 ⟨rfl, rfl⟩) | (go_at_call 18; refine (K1.out _).mono ?_; rintro e w9 ⟨rfl, rfl⟩) | (go_at_call 23; refine (K2.out _).mono ?_; rintro e w9 ⟨rfl, rfl⟩))
              go_meet
              exact ⟨rfl, by rw [HRr.out] <;> first | rfl | (simp only [d1, d2]; rfl) | (simp only [d1]; rfl) | simp [d1, d2] | simp [d1] | simp⟩
    case rest =>
      obtain ⟨rfl, rfl⟩ := hcut
      clear K0 K1 K2 HRr
      have hzz := block_lt p0
      have Y0 := Lib.hid p0
      have Y1 := Lib.hid p1
      have Y2 := Lib.hid p2
      have Y3 := Lib.hid p3
      have Y4 := Lib.hid p4
      have Y5 := Lib.hid p5
      have Y6 := Lib.hid p6
      have Y7 := Lib.hid p7
      have HBY := Lib.hid hbw
      have HWX := Lib.hid (fun W (hW : Below wY.heap.size wY W) => HW1.out W (HBY.out.trans (hW.mono HBY.out.size)))
      have HWX2 := Lib.hid (fun W (hW : Below wY.heap.size wY W) => HW2.out W (HBY.out.trans (hW.mono HBY.out.size)))
      clear HW1 HW2 hbw
      have hB : Below wY.heap.size wY wY := Below.refl _ _
      go_wp2_with fail
      go_region_held3 (fun w' => w'.cell? ⟨w.heap.size, 0, none⟩ = some (.int .i64 L) ∧ w'.cell? ⟨w.heap.size, 1, none⟩ = some (.slice a js.length ca) ∧ w'.cell? ⟨w.heap.size, 2, none⟩ = some (.slice aa l.length cl) ∧ w'.cell? ⟨w.heap.size, 3, none⟩ = some (.slice ae q.length cq) ∧ w'.cell? ⟨w.heap.size, 4, none⟩ = some (.int .i64 q0) ∧ w'.cell? ⟨w.heap.size, 5, none⟩ = some (.int .i64 q1) ∧ w'.cell? ⟨w.heap.size, 6, none⟩ = some (.int .i64 q2) ∧ w'.cell? ⟨w.heap.size, 7, none⟩ = some (.int .i64 q3)) (go_keep)
        (first
          | (go_at_call 16
             first | (with_reducible refine Calls.mono (HWX.out _ (show Below wY.heap.size wY _ by first | exact hB | exact hB.drew)) ?_) | (with_reducible refine Calls.mono (HWX2.out _ (show Below wY.heap.size wY _ by first | exact hB | exact hB.drew)) ?_)
             rintro e w9 ⟨rfl, hb9⟩
             replace hB : Below wY.heap.size wY w9 := (show Below wY.heap.size wY _ by first | exact hB | exact hB.drew).trans (hb9.mono (by have := hB.size; first | exact this | (simp; exact this)))
             have p0 := (hB.cell (p := ⟨w.heap.size, 0, none⟩) hzz).trans Y0.out
             have p1 := (hB.cell (p := ⟨w.heap.size, 1, none⟩) hzz).trans Y1.out
             have p2 := (hB.cell (p := ⟨w.heap.size, 2, none⟩) hzz).trans Y2.out
             have p3 := (hB.cell (p := ⟨w.heap.size, 3, none⟩) hzz).trans Y3.out
             have p4 := (hB.cell (p := ⟨w.heap.size, 4, none⟩) hzz).trans Y4.out
             have p5 := (hB.cell (p := ⟨w.heap.size, 5, none⟩) hzz).trans Y5.out
             have p6 := (hB.cell (p := ⟨w.heap.size, 6, none⟩) hzz).trans Y6.out
             have p7 := (hB.cell (p := ⟨w.heap.size, 7, none⟩) hzz).trans Y7.out
             skip))
      all_goals
        have hbw := HBY.out.trans (hB.mono HBY.out.size)
        by_cases hE1 : E1 = 0
        · by_cases hE2 : E2 = 0
          · skip
            obtain rfl : V1 = VH := by rw [← HV1.out, if_pos hE1]
            subst hE1
            obtain rfl : V2 = VM := by rw [← HV2.out, if_pos hE2]
            subst hE2
            clear HV1 HV2
            have v1 : (V1 == V1) = true := by simp
            have v2 : (V2 == V2) = true := by simp
            go_wp2_with (first | (go_at_call 24; refine (HE1.out rfl _ hbw).mono ?_; rintro e w9 ⟨rfl, hb9⟩; replace hbw := hbw.trans (hb9.mono hbw.size); replace p0 := cell_below p0 hb9; replace p1 := cell_below p1 hb9; replace p2 := cell_below p2 hb9; replace p3 := cell_below p3 hb9; replace p4 := cell_below p4 hb9; replace p5 := cell_below p5 hb9; replace p6 := cell_below p6 hb9; replace p7 := cell_below p7 hb9; clear hb9) | (go_at_call 25; refine (HRM.out _ hbw).mono ?_; rintro e w9 ⟨rfl, hb9⟩; replace hbw := hbw.trans (hb9.mono hbw.size); replace p0 := cell_below p0 hb9; replace p1 := cell_below p1 hb9; replace p2 := cell_below p2 hb9; replace p3 := cell_below p3 hb9; replace p4 := cell_below p4 hb9; replace p5 := cell_below p5 hb9; replace p6 := cell_below p6 hb9; replace p7 := cell_below p7 hb9; clear hb9) | (go_at_call 12; refine (first_any _).mono ?_; rintro e w9 ⟨rfl, hb9⟩))
            go_ret
            exact ⟨rfl, hbw.trans (hb9.mono hbw.size)⟩
          · skip
            obtain rfl : V1 = VH := by rw [← HV1.out, if_pos hE1]
            subst hE1
            obtain rfl : V2 = 0 := by rw [← HV2.out, if_neg hE2]
            have d2 : (E2 == 0) = false := beq_false_of_ne hE2
            have n2 : (E2 != E2) = false := by simp
            clear HV1 HV2
            have v1 : (V1 == V1) = true := by simp
            go_wp2_with (first | (go_at_call 24; refine (HE1.out rfl _ hbw).mono ?_; rintro e w9 ⟨rfl, hb9⟩; replace hbw := hbw.trans (hb9.mono hbw.size); replace p0 := cell_below p0 hb9; replace p1 := cell_below p1 hb9; replace p2 := cell_below p2 hb9; replace p3 := cell_below p3 hb9; replace p4 := cell_below p4 hb9; replace p5 := cell_below p5 hb9; replace p6 := cell_below p6 hb9; replace p7 := cell_below p7 hb9; clear hb9) | (go_at_call 12; refine (first_any _).mono ?_; rintro e w9 ⟨rfl, hb9⟩))
            go_ret
            exact ⟨rfl, hbw.trans (hb9.mono hbw.size)⟩
        · by_cases hE2 : E2 = 0
          · skip
            obtain rfl : V1 = 0 := by rw [← HV1.out, if_neg hE1]
            have d1 : (E1 == 0) = false := beq_false_of_ne hE1
            have n1 : (E1 != E1) = false := by simp
            obtain rfl : V2 = VM := by rw [← HV2.out, if_pos hE2]
            subst hE2
            clear HV1 HV2
            have v2 : (V2 == V2) = true := by simp
            go_wp2_with (first | (go_at_call 25; refine (HRM.out _ hbw).mono ?_; rintro e w9 ⟨rfl, hb9⟩; replace hbw := hbw.trans (hb9.mono hbw.size); replace p0 := cell_below p0 hb9; replace p1 := cell_below p1 hb9; replace p2 := cell_below p2 hb9; replace p3 := cell_below p3 hb9; replace p4 := cell_below p4 hb9; replace p5 := cell_below p5 hb9; replace p6 := cell_below p6 hb9; replace p7 := cell_below p7 hb9; clear hb9) | (go_at_call 12; refine (first_any _).mono ?_; rintro e w9 ⟨rfl, hb9⟩))
            go_ret
            exact ⟨rfl, hbw.trans (hb9.mono hbw.size)⟩
          · skip
            obtain rfl : V1 = 0 := by rw [← HV1.out, if_neg hE1]
            have d1 : (E1 == 0) = false := beq_false_of_ne hE1
            have n1 : (E1 != E1) = false := by simp
            obtain rfl : V2 = 0 := by rw [← HV2.out, if_neg hE2]
            have d2 : (E2 == 0) = false := beq_false_of_ne hE2
            have n2 : (E2 != E2) = false := by simp
            clear HV1 HV2
            go_wp2_with (first | (go_at_call 12; refine (first_any _).mono ?_; rintro e w9 ⟨rfl, hb9⟩))
            go_ret
            exact ⟨rfl, hbw.trans (hb9.mono hbw.size)⟩
end Go.Proofs.YtiagflackfkmnaaGreat

namespace Go.Proofs.YtiagflackfkmnaaGreat
set_option linter.unusedVariables false
set_option linter.unusedSimpArgs false
open Go.RowKit

/-- right says whether an ask has valid parts. -/
def RgtE (L : Int) (js : List Int) (l : List Sgn) (q : List Edc) (q0 q1 q2 : Int) (w : World) (e : Ending) (w' : World) : Prop :=
  ∃ b : Bool, (b = true → lstE L js l q = 0 ∧ L ≤ 200 ∧ btw q0 0 10000000 = true ∧ dirB q1 = true ∧ topB q2 = true) ∧ e = .returned (.bool b) ∧ Below w.heap.size w w'
theorem lst_zero {L : Int} {js : List Int} {l : List Sgn} {q : List Edc} (h1 : sgnsB L js l = true) (h2 : edcsB L js q = true) : lstE L js l q = 0 := by
  unfold lstE
  rw [sgns_line h1, h1, h2]
  rfl
/-- The metre of an ask, within its line. -/
theorem metre_u (L q3 : Int) (h1 : 1 ≤ L) (h2 : L ≤ 200) : ∃ U M : Int, IntKind.u64.wrap q3 = U ∧ U.tmod L = M ∧ 0 ≤ M ∧ M < L ∧ IntKind.u64.wrap L = L ∧ wrap64 M = M ∧ btw M 0 (L - 1) = true := by
  have hw : ∀ x : Int, IntKind.u64.wrap x = x % 18446744073709551616 := fun x => by
    unfold IntKind.wrap
    simp [IntKind.signed, IntKind.bits]
  have hU : 0 ≤ IntKind.u64.wrap q3 := by rw [hw]; exact Int.emod_nonneg _ (by decide)
  have hM0 : 0 ≤ (IntKind.u64.wrap q3).tmod L := Int.tmod_nonneg _ hU
  have hM1 : (IntKind.u64.wrap q3).tmod L < L := Int.tmod_lt_of_pos _ (by omega)
  refine ⟨_, _, rfl, rfl, hM0, hM1, by rw [hw]; omega, ?_, ?_⟩
  · unfold wrap64; omega
  · unfold btw; rw [decide_eq_true hM0, decide_eq_true (by omega)]; rfl
set_option linter.unnecessarySimpa false
set_option maxRecDepth 100000 in
set_option maxHeartbeats 4000000 in
theorem right_r (L : Int) (a : Option Addr) (js : List Int) (ca : Nat) (aa : Option Addr) (l : List Sgn) (cl : Nat) (ae : Option Addr) (q : List Edc) (cq : Nat) (q0 q1 q2 q3 : Int) (w : World) (hI : IntsS w a js) (hA : SgnS w aa l) (hE : EdS w ae q) : Calls Tryz.prog 39 #[.agg #[.int .i64 L, .slice a js.length ca, .slice aa l.length cl, .slice ae q.length cq, .int .i64 q0, .int .i64 q1, .int .i64 q2, .int .i64 q3]] w (RgtE L js l q q0 q1 q2 w) := by
  have HH := Lib.hid (fun W (hW : Below w.heap.size w W) => Heavy_any L a js ca aa l cl ae q cq q0 q1 q2 q3 W (hI.below hW) (hA.below hW) (hE.below hW))
  have HS := Lib.hid (fun W (hW : Below w.heap.size w W) => refValidSigns_r L a js ca aa l cl W (hI.below hW) (hA.below hW))
  have HE := Lib.hid (fun W (hW : Below w.heap.size w W) => refValidEdicts_r L a js ca ae q cq W (hI.below hW) (hE.below hW))
  have K0 := Lib.hid (fun W => hour_r q0 W)
  have K1 := Lib.hid (fun W => way_r q1 W)
  have K2 := Lib.hid (fun W => topic_r q2 W)
  clear hI hA hE
  obtain ⟨s1, h⟩ : ∃ s1, sgnsB L js l = s1 := ⟨_, rfl⟩
  rw [h] at HS
  have HS1 := Lib.hid h
  clear h
  obtain ⟨s2, h⟩ : ∃ s2, edcsB L js q = s2 := ⟨_, rfl⟩
  rw [h] at HE
  have HS2 := Lib.hid h
  clear h
  obtain ⟨s3, h⟩ : ∃ s3, btw q0 0 10000000 = s3 := ⟨_, rfl⟩
  rw [h] at K0
  have HS3 := Lib.hid h
  clear h
  obtain ⟨s4, h⟩ : ∃ s4, dirB q1 = s4 := ⟨_, rfl⟩
  rw [h] at K1
  have HS4 := Lib.hid h
  clear h
  obtain ⟨s5, h⟩ : ∃ s5, topB q2 = s5 := ⟨_, rfl⟩
  rw [h] at K2
  have HS5 := Lib.hid h
  clear h
  go_enter Tryz.func39, Tryz.ntmps39
  go_wp2_with fail
  obtain ⟨wB, hwB⟩ : ∃ wB, w.alloc (.cells #[.int .i64 L, .slice a js.length ca, .slice aa l.length cl, .slice ae q.length cq, .int .i64 q0, .int .i64 q1, .int .i64 q2, .int .i64 q3] 28) = wB := ⟨_, rfl⟩
  have hb : Below w.heap.size w wB := by rw [← hwB]; exact (Below.refl _ _).alloc (Nat.le_refl _) _
  have p0 : wB.cell? ⟨w.heap.size, 0, none⟩ = some (.int .i64 L) := by rw [← hwB]; simp [go_sem]
  have p1 : wB.cell? ⟨w.heap.size, 1, none⟩ = some (.slice a js.length ca) := by rw [← hwB]; simp [go_sem]
  have p2 : wB.cell? ⟨w.heap.size, 2, none⟩ = some (.slice aa l.length cl) := by rw [← hwB]; simp [go_sem]
  have p3 : wB.cell? ⟨w.heap.size, 3, none⟩ = some (.slice ae q.length cq) := by rw [← hwB]; simp [go_sem]
  have p4 : wB.cell? ⟨w.heap.size, 4, none⟩ = some (.int .i64 q0) := by rw [← hwB]; simp [go_sem]
  have p5 : wB.cell? ⟨w.heap.size, 5, none⟩ = some (.int .i64 q1) := by rw [← hwB]; simp [go_sem]
  have p6 : wB.cell? ⟨w.heap.size, 6, none⟩ = some (.int .i64 q2) := by rw [← hwB]; simp [go_sem]
  have p7 : wB.cell? ⟨w.heap.size, 7, none⟩ = some (.int .i64 q3) := by rw [← hwB]; simp [go_sem]
  rw [hwB]
  clear hwB
  refine (HH.out _ hb).mono ?_
  rintro e wX ⟨bv, hHv, rfl, hb1⟩
  replace p0 := cell_below p0 hb1
  replace p1 := cell_below p1 hb1
  replace p2 := cell_below p2 hb1
  replace p3 := cell_below p3 hb1
  replace p4 := cell_below p4 hb1
  replace p5 := cell_below p5 hb1
  replace p6 := cell_below p6 hb1
  replace p7 := cell_below p7 hb1
  have hbw := hb.trans (hb1.mono hb.size)
  clear HH hb1 hHv
  cases bv with
  | true =>
    go_wp2_with fail
    go_ret
    exact ⟨false, (fun h => by cases h), rfl, hbw⟩
  | false =>
    cases s1 with
    | false =>
      go_wp2_with (first | (go_at_call 48; refine (HS.out _ hbw).mono ?_; rintro e w9 ⟨rfl, hb9⟩; replace hbw := hbw.trans (hb9.mono hbw.size); replace p0 := cell_below p0 hb9; replace p1 := cell_below p1 hb9; replace p2 := cell_below p2 hb9; replace p3 := cell_below p3 hb9; replace p4 := cell_below p4 hb9; replace p5 := cell_below p5 hb9; replace p6 := cell_below p6 hb9; replace p7 := cell_below p7 hb9; clear hb9) | (go_at_call 49; refine (HE.out _ hbw).mono ?_; rintro e w9 ⟨rfl, hb9⟩; replace hbw := hbw.trans (hb9.mono hbw.size); replace p0 := cell_below p0 hb9; replace p1 := cell_below p1 hb9; replace p2 := cell_below p2 hb9; replace p3 := cell_below p3 hb9; replace p4 := cell_below p4 hb9; replace p5 := cell_below p5 hb9; replace p6 := cell_below p6 hb9; replace p7 := cell_below p7 hb9; clear hb9) | (go_at_call 17; refine (K0.out _).mono ?_; rintro e w9 ⟨rfl, rfl⟩) | (go_at_call 18; refine (K1.out _).mono ?_; rintro e w9 ⟨rfl, rfl⟩) | (go_at_call 23; refine (K2.out _).mono ?_; rintro e w9 ⟨rfl, rfl⟩))
      go_ret
      exact ⟨false, (fun h => by cases h), rfl, hbw⟩
    | true =>
      cases s2 with
      | false =>
        go_wp2_with (first | (go_at_call 48; refine (HS.out _ hbw).mono ?_; rintro e w9 ⟨rfl, hb9⟩; replace hbw := hbw.trans (hb9.mono hbw.size); replace p0 := cell_below p0 hb9; replace p1 := cell_below p1 hb9; replace p2 := cell_below p2 hb9; replace p3 := cell_below p3 hb9; replace p4 := cell_below p4 hb9; replace p5 := cell_below p5 hb9; replace p6 := cell_below p6 hb9; replace p7 := cell_below p7 hb9; clear hb9) | (go_at_call 49; refine (HE.out _ hbw).mono ?_; rintro e w9 ⟨rfl, hb9⟩; replace hbw := hbw.trans (hb9.mono hbw.size); replace p0 := cell_below p0 hb9; replace p1 := cell_below p1 hb9; replace p2 := cell_below p2 hb9; replace p3 := cell_below p3 hb9; replace p4 := cell_below p4 hb9; replace p5 := cell_below p5 hb9; replace p6 := cell_below p6 hb9; replace p7 := cell_below p7 hb9; clear hb9) | (go_at_call 17; refine (K0.out _).mono ?_; rintro e w9 ⟨rfl, rfl⟩) | (go_at_call 18; refine (K1.out _).mono ?_; rintro e w9 ⟨rfl, rfl⟩) | (go_at_call 23; refine (K2.out _).mono ?_; rintro e w9 ⟨rfl, rfl⟩))
        go_ret
        exact ⟨false, (fun h => by cases h), rfl, hbw⟩
      | true =>
        by_cases h2 : L ≤ 200
        · have d2 : decide (L ≤ 200) = true := decide_eq_true h2
          cases s3 with
          | false =>
            go_wp2_with (first | (go_at_call 48; refine (HS.out _ hbw).mono ?_; rintro e w9 ⟨rfl, hb9⟩; replace hbw := hbw.trans (hb9.mono hbw.size); replace p0 := cell_below p0 hb9; replace p1 := cell_below p1 hb9; replace p2 := cell_below p2 hb9; replace p3 := cell_below p3 hb9; replace p4 := cell_below p4 hb9; replace p5 := cell_below p5 hb9; replace p6 := cell_below p6 hb9; replace p7 := cell_below p7 hb9; clear hb9) | (go_at_call 49; refine (HE.out _ hbw).mono ?_; rintro e w9 ⟨rfl, hb9⟩; replace hbw := hbw.trans (hb9.mono hbw.size); replace p0 := cell_below p0 hb9; replace p1 := cell_below p1 hb9; replace p2 := cell_below p2 hb9; replace p3 := cell_below p3 hb9; replace p4 := cell_below p4 hb9; replace p5 := cell_below p5 hb9; replace p6 := cell_below p6 hb9; replace p7 := cell_below p7 hb9; clear hb9) | (go_at_call 17; refine (K0.out _).mono ?_; rintro e w9 ⟨rfl, rfl⟩) | (go_at_call 18; refine (K1.out _).mono ?_; rintro e w9 ⟨rfl, rfl⟩) | (go_at_call 23; refine (K2.out _).mono ?_; rintro e w9 ⟨rfl, rfl⟩))
            go_ret
            exact ⟨false, (fun h => by cases h), rfl, hbw⟩
          | true =>
            cases s4 with
            | false =>
              go_wp2_with (first | (go_at_call 48; refine (HS.out _ hbw).mono ?_; rintro e w9 ⟨rfl, hb9⟩; replace hbw := hbw.trans (hb9.mono hbw.size); replace p0 := cell_below p0 hb9; replace p1 := cell_below p1 hb9; replace p2 := cell_below p2 hb9; replace p3 := cell_below p3 hb9; replace p4 := cell_below p4 hb9; replace p5 := cell_below p5 hb9; replace p6 := cell_below p6 hb9; replace p7 := cell_below p7 hb9; clear hb9) | (go_at_call 49; refine (HE.out _ hbw).mono ?_; rintro e w9 ⟨rfl, hb9⟩; replace hbw := hbw.trans (hb9.mono hbw.size); replace p0 := cell_below p0 hb9; replace p1 := cell_below p1 hb9; replace p2 := cell_below p2 hb9; replace p3 := cell_below p3 hb9; replace p4 := cell_below p4 hb9; replace p5 := cell_below p5 hb9; replace p6 := cell_below p6 hb9; replace p7 := cell_below p7 hb9; clear hb9) | (go_at_call 17; refine (K0.out _).mono ?_; rintro e w9 ⟨rfl, rfl⟩) | (go_at_call 18; refine (K1.out _).mono ?_; rintro e w9 ⟨rfl, rfl⟩) | (go_at_call 23; refine (K2.out _).mono ?_; rintro e w9 ⟨rfl, rfl⟩))
              go_ret
              exact ⟨false, (fun h => by cases h), rfl, hbw⟩
            | true =>
              cases s5 with
              | false =>
                go_wp2_with (first | (go_at_call 48; refine (HS.out _ hbw).mono ?_; rintro e w9 ⟨rfl, hb9⟩; replace hbw := hbw.trans (hb9.mono hbw.size); replace p0 := cell_below p0 hb9; replace p1 := cell_below p1 hb9; replace p2 := cell_below p2 hb9; replace p3 := cell_below p3 hb9; replace p4 := cell_below p4 hb9; replace p5 := cell_below p5 hb9; replace p6 := cell_below p6 hb9; replace p7 := cell_below p7 hb9; clear hb9) | (go_at_call 49; refine (HE.out _ hbw).mono ?_; rintro e w9 ⟨rfl, hb9⟩; replace hbw := hbw.trans (hb9.mono hbw.size); replace p0 := cell_below p0 hb9; replace p1 := cell_below p1 hb9; replace p2 := cell_below p2 hb9; replace p3 := cell_below p3 hb9; replace p4 := cell_below p4 hb9; replace p5 := cell_below p5 hb9; replace p6 := cell_below p6 hb9; replace p7 := cell_below p7 hb9; clear hb9) | (go_at_call 17; refine (K0.out _).mono ?_; rintro e w9 ⟨rfl, rfl⟩) | (go_at_call 18; refine (K1.out _).mono ?_; rintro e w9 ⟨rfl, rfl⟩) | (go_at_call 23; refine (K2.out _).mono ?_; rintro e w9 ⟨rfl, rfl⟩))
                go_ret
                exact ⟨false, (fun h => by cases h), rfl, hbw⟩
              | true =>
                go_wp2_with (first | (go_at_call 48; refine (HS.out _ hbw).mono ?_; rintro e w9 ⟨rfl, hb9⟩; replace hbw := hbw.trans (hb9.mono hbw.size); replace p0 := cell_below p0 hb9; replace p1 := cell_below p1 hb9; replace p2 := cell_below p2 hb9; replace p3 := cell_below p3 hb9; replace p4 := cell_below p4 hb9; replace p5 := cell_below p5 hb9; replace p6 := cell_below p6 hb9; replace p7 := cell_below p7 hb9; clear hb9) | (go_at_call 49; refine (HE.out _ hbw).mono ?_; rintro e w9 ⟨rfl, hb9⟩; replace hbw := hbw.trans (hb9.mono hbw.size); replace p0 := cell_below p0 hb9; replace p1 := cell_below p1 hb9; replace p2 := cell_below p2 hb9; replace p3 := cell_below p3 hb9; replace p4 := cell_below p4 hb9; replace p5 := cell_below p5 hb9; replace p6 := cell_below p6 hb9; replace p7 := cell_below p7 hb9; clear hb9) | (go_at_call 17; refine (K0.out _).mono ?_; rintro e w9 ⟨rfl, rfl⟩) | (go_at_call 18; refine (K1.out _).mono ?_; rintro e w9 ⟨rfl, rfl⟩) | (go_at_call 23; refine (K2.out _).mono ?_; rintro e w9 ⟨rfl, rfl⟩))
                go_ret
                exact ⟨true, fun _ => ⟨lst_zero HS1.out HS2.out, h2, HS3.out, HS4.out, HS5.out⟩, rfl, hbw⟩
        · have d2 : decide (L ≤ 200) = false := decide_eq_false h2
          go_wp2_with (first | (go_at_call 48; refine (HS.out _ hbw).mono ?_; rintro e w9 ⟨rfl, hb9⟩; replace hbw := hbw.trans (hb9.mono hbw.size); replace p0 := cell_below p0 hb9; replace p1 := cell_below p1 hb9; replace p2 := cell_below p2 hb9; replace p3 := cell_below p3 hb9; replace p4 := cell_below p4 hb9; replace p5 := cell_below p5 hb9; replace p6 := cell_below p6 hb9; replace p7 := cell_below p7 hb9; clear hb9) | (go_at_call 49; refine (HE.out _ hbw).mono ?_; rintro e w9 ⟨rfl, hb9⟩; replace hbw := hbw.trans (hb9.mono hbw.size); replace p0 := cell_below p0 hb9; replace p1 := cell_below p1 hb9; replace p2 := cell_below p2 hb9; replace p3 := cell_below p3 hb9; replace p4 := cell_below p4 hb9; replace p5 := cell_below p5 hb9; replace p6 := cell_below p6 hb9; replace p7 := cell_below p7 hb9; clear hb9) | (go_at_call 17; refine (K0.out _).mono ?_; rintro e w9 ⟨rfl, rfl⟩) | (go_at_call 18; refine (K1.out _).mono ?_; rintro e w9 ⟨rfl, rfl⟩) | (go_at_call 23; refine (K2.out _).mono ?_; rintro e w9 ⟨rfl, rfl⟩))
          go_ret
          exact ⟨false, (fun h => by cases h), rfl, hbw⟩
end Go.Proofs.YtiagflackfkmnaaGreat

namespace Go.Proofs.YtiagflackfkmnaaGreat
set_option linter.unusedVariables false
set_option linter.unusedSimpArgs false
open Go.RowKit

/-- One sign more in a row. -/
def stepI (L dir h : Int) (r : List Sgn) (x : Sgn) : List Sgn :=
  if selB dir h x = true then r.take (plcS L dir x r r.length) ++ x :: r.drop (plcS L dir x r r.length) else r
theorem insR_step (L dir h : Int) (l : List Sgn) (k : Nat) : insR L dir h l (k + 1) = stepI L dir h (insR L dir h l k) (gs l k) := rfl
theorem insR_congr {L dir h : Int} {l l' : List Sgn} : ∀ k, (∀ j, j < k → gs l j = gs l' j) → insR L dir h l k = insR L dir h l' k
  | 0, _ => rfl
  | k + 1, e => by
    rw [insR_step, insR_step, insR_congr k (fun j hj => e j (by omega)), e k (by omega)]
def insA (L dir h : Int) (l : List Sgn) : List Sgn := insR L dir h l l.length
theorem gs_left {l t : List Sgn} {j : Nat} (h : j < l.length) : gs (l ++ t) j = gs l j := by
  rw [gs_at _ (by simp; omega), gs_at _ h, List.getElem_append_left h]
theorem gs_snoc (l : List Sgn) (x : Sgn) : gs (l ++ [x]) l.length = x := by
  rw [gs_at _ (by simp)]
  simp
theorem insA_snoc (L dir h : Int) (l : List Sgn) (x : Sgn) : insA L dir h (l ++ [x]) = stepI L dir h (insA L dir h l) x := by
  unfold insA
  rw [List.length_append, List.length_singleton, insR_step, gs_snoc, insR_congr l.length fun j hj => gs_left hj]
theorem selR_congr {dir h : Int} {l l' : List Sgn} : ∀ k, (∀ j, j < k → gs l j = gs l' j) → selR dir h l k = selR dir h l' k
  | 0, _ => rfl
  | k + 1, e => by rw [selR, selR, selR_congr k (fun j hj => e j (by omega)), e k (by omega)]
theorem take_snoc (l : List Sgn) {k : Nat} (hk : k < l.length) : l.take (k + 1) = l.take k ++ [gs l k] := by
  rw [List.take_succ_eq_append_getElem hk, gs_at _ hk]
theorem selR_take (dir h : Int) (l : List Sgn) : ∀ k, k ≤ l.length → selR dir h l k = (l.take k).filter (fun x => selB dir h x)
  | 0, _ => rfl
  | k + 1, hk => by
    rw [selR, selR_take dir h l k (by omega), take_snoc l (by omega), List.filter_append]
    by_cases hx : selB dir h (gs l k) = true
    · rw [if_pos hx]; simp [hx]
    · rw [if_neg hx]; simp [hx]
theorem selR_filter (dir h : Int) (l : List Sgn) : selR dir h l l.length = l.filter (fun x => selB dir h x) := by
  rw [selR_take dir h l l.length (Nat.le_refl _), List.take_length]
theorem insA_perm (L dir h : Int) (l : List Sgn) : (insA L dir h l).Perm (l.filter (fun x => selB dir h x)) := by
  rw [← selR_filter]
  exact insR_perm L dir h l l.length
theorem sel_spk {dir h : Int} {x : Sgn} (hx : spkB x h = false) : selB dir h x = false := by unfold selB; rw [hx, Bool.and_false]
/-- Valid signs, as a list. -/
theorem sgns_iff (L : Int) (js : List Int) (l : List Sgn) : sgnsB L js l = true ↔ lineB L js = true ∧ l.length ≤ 100 ∧ (∀ x, x ∈ l → (btw x.n 1 1000000000 = true ∧ sgnB L x = true)) ∧ (l.map (·.n)).Nodup := by
  have hat : ∀ x, x ∈ l → ∃ k, k < l.length ∧ gs l k = x := fun x hx => by
    obtain ⟨k, hk, e⟩ := List.getElem_of_mem hx
    exact ⟨k, hk, by rw [gs_at _ hk, e]⟩
  constructor
  · intro h
    refine ⟨sgns_line h, ?_, fun x hx => ?_, ?_⟩
    · by_cases h9 : 100 < l.length
      · rw [s_bad9 h9] at h; cases h
      · omega
    · obtain ⟨k, hk, rfl⟩ := hat x hx
      constructor
      · cases e : btw (gs l k).n 1 1000000000 with
        | true => rfl
        | false => rw [s_bad1 hk e] at h; cases h
      · cases e : sgnB L (gs l k) with
        | true => rfl
        | false => rw [s_bad2 hk e] at h; cases h
    · rw [List.nodup_iff_pairwise_ne, List.pairwise_iff_getElem]
      intro i j hi hj hij e
      rw [List.getElem_map, List.getElem_map] at e
      have hi : i < l.length := by simpa using hi
      have hj : j < l.length := by simpa using hj
      rw [← gs_at _ hi, ← gs_at _ hj] at e
      rw [s_bad3 hj hij e] at h; cases h
  · rintro ⟨h0, h9, h, hn⟩
    refine s_end h0 h9 fun k hk => ?_
    have hm : gs l k ∈ l := by rw [gs_at _ hk]; exact List.getElem_mem hk
    refine ⟨(h _ hm).1, (h _ hm).2, fun j hj e => ?_⟩
    rw [List.nodup_iff_pairwise_ne, List.pairwise_iff_getElem] at hn
    refine hn j k (by simpa using (by omega : j < l.length)) (by simpa using hk) hj ?_
    rw [List.getElem_map, List.getElem_map, ← gs_at _ (by omega : j < l.length), ← gs_at _ hk]
    exact e
theorem lst_iff (L : Int) (js : List Int) (l : List Sgn) : lstE L js l [] = 0 ↔ sgnsB L js l = true := by
  constructor
  · intro h; exact lst_sgns h
  · intro h
    unfold lstE
    rw [sgns_line h, h, edcs_nil, sgns_line h]
    rfl
theorem sgns_sub {L : Int} {js : List Int} {l t : List Sgn} (h : sgnsB L js l = true) (hs : t.Sublist l) : sgnsB L js t = true := by
  rw [sgns_iff] at h ⊢
  exact ⟨h.1, Nat.le_trans hs.length_le h.2.1, fun x hx => h.2.2.1 x (hs.mem hx), h.2.2.2.sublist (hs.map _)⟩
/-- The signs that speak, of the first k. -/
def spkL (h : Int) (l : List Sgn) : Nat → List Sgn
  | 0 => []
  | k + 1 => if spkB (gs l k) h = true then spkL h l k ++ [gs l k] else spkL h l k
theorem spk_ins (L dir h : Int) (l : List Sgn) : ∀ k, insA L dir h (spkL h l k) = insR L dir h l k
  | 0 => rfl
  | k + 1 => by
    have ih := spk_ins L dir h l k
    rw [spkL, insR_step, ← ih]
    by_cases hx : spkB (gs l k) h = true
    · rw [if_pos hx, insA_snoc]
    · rw [if_neg hx, stepI, sel_spk (by simpa using hx), if_neg (by decide)]
theorem spk_sub (h : Int) (l : List Sgn) : ∀ k, k ≤ l.length → (spkL h l k).Sublist (l.take k)
  | 0, _ => List.Sublist.slnil
  | k + 1, hk => by
    have ih := spk_sub h l k (by omega)
    rw [spkL, take_snoc l (by omega)]
    split
    · exact ih.append (List.Sublist.refl _)
    · exact ih.trans (List.sublist_append_left _ _)
/-- A sign that a cover silences over all its hours. -/
def cvr (x : Sgn) : Sgn := { x with cv := [(x.up, x.dn)] }
theorem cvr_spk (x : Sgn) (h : Int) : spkB (cvr x) h = false := by
  unfold spkB cvr
  simp only [List.length_singleton, anyK, covH, gp, List.getD_cons_zero, Bool.or_false]
  by_cases h1 : x.up ≤ h <;> by_cases h2 : h < x.dn <;> simp [h1, h2]
/-- All of the first k but number z; and all, number z covered. -/
def othL (z : Nat) (l : List Sgn) : Nat → List Sgn
  | 0 => []
  | k + 1 => if k = z then othL z l k else othL z l k ++ [gs l k]
def covL (z : Nat) (l : List Sgn) : Nat → List Sgn
  | 0 => []
  | k + 1 => covL z l k ++ [if k = z then cvr (gs l k) else gs l k]
theorem oth_cov (L dir h : Int) (z : Nat) (l : List Sgn) : ∀ k, insA L dir h (othL z l k) = insA L dir h (covL z l k)
  | 0 => rfl
  | k + 1 => by
    have ih := oth_cov L dir h z l k
    rw [othL, covL, insA_snoc, ← ih]
    by_cases hz : k = z
    · rw [if_pos hz, if_pos hz, stepI, sel_spk (cvr_spk _ _), if_neg (by decide)]
    · rw [if_neg hz, if_neg hz, insA_snoc]
theorem oth_sub (z : Nat) (l : List Sgn) : ∀ k, k ≤ l.length → (othL z l k).Sublist (l.take k)
  | 0, _ => List.Sublist.slnil
  | k + 1, hk => by
    have ih := oth_sub z l k (by omega)
    rw [othL, take_snoc l (by omega)]
    split
    · exact ih.trans (List.sublist_append_left _ _)
    · exact ih.append (List.Sublist.refl _)
theorem cov_n (z : Nat) (l : List Sgn) : ∀ k, k ≤ l.length → (covL z l k).map (·.n) = (l.take k).map (·.n)
  | 0, _ => rfl
  | k + 1, hk => by
    have ih := cov_n z l k (by omega)
    rw [covL, take_snoc l (by omega), List.map_append, List.map_append, ih]
    congr 1
    simp only [List.map_cons, List.map_nil]
    split <;> rfl
theorem cov_mem {z : Nat} {l : List Sgn} {x : Sgn} : ∀ {k}, k ≤ l.length → x ∈ covL z l k → ∃ y, y ∈ l ∧ (x = y ∨ x = cvr y)
  | 0, _, hx => by simp [covL] at hx
  | k + 1, hk, hx => by
    rw [covL, List.mem_append, List.mem_singleton] at hx
    rcases hx with hx | hx
    · exact cov_mem (by omega) hx
    · refine ⟨gs l k, by rw [gs_at _ (by omega)]; exact List.getElem_mem _, ?_⟩
      split at hx
      · exact .inr hx
      · exact .inl hx
theorem cvr_good {L : Int} {x : Sgn} (h : sgnB L x = true) : sgnB L (cvr x) = true := by
  unfold sgnB at *
  simp only [Bool.and_eq_true] at h ⊢
  refine ⟨⟨h.1.1, rfl⟩, ?_⟩
  have ht := h.1.1.2
  unfold covB cvr
  simp only [List.length_singleton, anyK, gp, List.getD_cons_zero, Bool.or_false]
  rw [ht]; rfl
theorem cov_good {L : Int} {js : List Int} {z : Nat} {l : List Sgn} (h : sgnsB L js l = true) : sgnsB L js (covL z l l.length) = true := by
  rw [sgns_iff] at h ⊢
  have hn := cov_n z l l.length (Nat.le_refl _)
  rw [List.take_length] at hn
  refine ⟨h.1, ?_, fun x hx => ?_, by rw [hn]; exact h.2.2.2⟩
  · have := congrArg List.length hn
    simp only [List.length_map] at this
    omega
  · obtain ⟨y, hy, e | e⟩ := cov_mem (Nat.le_refl _) hx
    · rw [e]; exact h.2.2.1 y hy
    · rw [e]; exact ⟨(h.2.2.1 y hy).1, cvr_good (h.2.2.1 y hy).2⟩
/-- All but plates of the first k; and these but warnings and repeats. -/
def allL (l : List Sgn) : Nat → List Sgn
  | 0 => []
  | k + 1 => if (gs l k).k = 7 then allL l k else allL l k ++ [gs l k]
def keepB (x : Sgn) : Bool := !(x.k == 8) && !(x.k == 6)
def somL (l : List Sgn) : Nat → List Sgn
  | 0 => []
  | k + 1 => if (gs l k).k = 7 then somL l k else if (gs l k).k = 8 then somL l k else if (gs l k).k = 6 then somL l k else somL l k ++ [gs l k]
theorem som_filter (l : List Sgn) : ∀ k, somL l k = (allL l k).filter keepB
  | 0 => rfl
  | k + 1 => by
    have ih := som_filter l k
    rw [somL, allL]
    split
    · exact ih
    · rw [List.filter_append, ← ih]
      split
      next h => simp [keepB, h]
      next h8 =>
        split
        next h => simp [keepB, h]
        next h6 =>
          have : keepB (gs l k) = true := by unfold keepB; simp [h8, h6]
          rw [List.filter_cons_of_pos this]; rfl
theorem all_sub (l : List Sgn) : ∀ k, k ≤ l.length → (allL l k).Sublist (l.take k)
  | 0, _ => List.Sublist.slnil
  | k + 1, hk => by
    have ih := all_sub l k (by omega)
    rw [allL, take_snoc l (by omega)]
    split
    · exact ih.trans (List.sublist_append_left _ _)
    · exact ih.append (List.Sublist.refl _)
theorem all_kind {l : List Sgn} {x : Sgn} : ∀ {k}, x ∈ allL l k → x.k ≠ 7
  | 0, hx => by simp [allL] at hx
  | k + 1, hx => by
    rw [allL] at hx
    split at hx
    · exact all_kind hx
    next h7 =>
      rw [List.mem_append, List.mem_singleton] at hx
      rcases hx with hx | hx
      · exact all_kind hx
      · rw [hx]; exact h7
theorem insA_sorted {L dir h : Int} {l : List Sgn} (hn : (l.map (·.n)).Nodup) : (insA L dir h l).Pairwise (ahS L dir) := by
  refine insR_sorted (fun i j hij hj e => ?_) _ (Nat.le_refl _)
  rw [List.nodup_iff_pairwise_ne, List.pairwise_iff_getElem] at hn
  refine hn i j (by simpa using (by omega : i < l.length)) (by simpa using hj) hij ?_
  rw [List.getElem_map, List.getElem_map, ← gs_at _ (by omega : i < l.length), ← gs_at _ hj]
  exact e
theorem insA_filter {L dir h : Int} {l : List Sgn} (p : Sgn → Bool) (hn : (l.map (·.n)).Nodup) : insA L dir h (l.filter p) = (insA L dir h l).filter p := by
  refine ord_unique (insA_sorted (hn.sublist (List.filter_sublist.map _))) ((insA_sorted hn).sublist List.filter_sublist) ?_
  refine (insA_perm L dir h _).trans ?_
  refine List.Perm.trans ?_ ((insA_perm L dir h l).filter p).symm
  rw [List.filter_filter, List.filter_filter]
  refine List.Perm.of_eq (List.filter_congr fun x _ => Bool.and_comm _ _)
theorem keep_top {x : Sgn} (t : Int) (h : keepB x = false) : endB x.k t = false ∧ topK x.k = 0 := by
  unfold keepB at h
  have : x.k = 8 ∨ x.k = 6 := by
    by_cases h8 : x.k = 8
    · exact .inl h8
    · by_cases h6 : x.k = 6
      · exact .inr h6
      · simp [h8, h6] at h
  rcases this with e | e <;> rw [e] <;> exact ⟨rfl, rfl⟩
theorem plt_no {L dir k : Int} {s : Sgn} {r : List Sgn} (h : ∀ x, x ∈ r → x.k ≠ 7) : pltB L dir k s r.head? = false := by
  cases r with
  | nil => rfl
  | cons y r =>
    have := h y (by simp)
    simp [pltB, this]
theorem hS_far {L : Int} {js : List Int} {dir t k : Int} : ∀ (r : List Sgn) (v : Int), (∀ x, x ∈ r → k < dstK L dir x.c) → hS L js dir t k r v = v
  | [], _, _ => rfl
  | x :: r, v, h => by rw [hS, if_pos (h x (by simp))]
theorem hS_keep {L : Int} {js : List Int} {dir t k : Int} (ht : t ≠ 0) : ∀ (r : List Sgn) (v : Int), (∀ x, x ∈ r → x.k ≠ 7) → r.Pairwise (ahS L dir) → hS L js dir t k (r.filter keepB) v = hS L js dir t k r v
  | [], _, _, _ => rfl
  | x :: r, v, h7, hp => by
    have hp2 := List.pairwise_cons.1 hp
    have ih := fun v => hS_keep (js := js) (k := k) ht r v (fun y hy => h7 y (by simp [hy])) hp2.2
    have hd : ∀ y, y ∈ r → dstK L dir x.c ≤ dstK L dir y.c := fun y hy => by
      have := hp2.1 y hy
      unfold ahS at this
      omega
    by_cases hk : k < dstK L dir x.c
    · rw [hS, if_pos hk]
      refine hS_far _ _ fun y hy => ?_
      have hy := (List.mem_filter.1 hy).1
      rw [List.mem_cons] at hy
      rcases hy with rfl | hy
      · exact hk
      · have := hd y hy; omega
    · by_cases hx : keepB x = true
      · rw [List.filter_cons_of_pos hx, hS, hS, if_neg hk, if_neg hk, ih]
        congr 1
        unfold stpS shutB
        rw [plt_no (r := r) (fun y hy => h7 y (List.mem_cons_of_mem _ hy)), plt_no (r := r.filter keepB) (fun y hy => h7 y (List.mem_cons_of_mem _ (List.mem_filter.1 hy).1))]
      · have hx : keepB x = false := by simpa using hx
        obtain ⟨h1, h2⟩ := keep_top t hx
        rw [List.filter_cons_of_neg (by rw [hx]; decide), ih, hS, if_neg hk]
        congr 1
        unfold stpS
        rw [h1, h2, if_neg (by decide), if_neg (Ne.symm ht)]
theorem hld_som {L : Int} {js : List Int} {l : List Sgn} {h dir t m : Int} (ht : t ≠ 0) (hs : sgnsB L js l = true) : hldV L js (somL l l.length) h dir t m = hldV L js (allL l l.length) h dir t m := by
  have hn := ((sgns_iff L js l).1 hs).2.2.2
  have hsub := all_sub l l.length (Nat.le_refl _)
  rw [List.take_length] at hsub
  have hn2 : ((allL l l.length).map (·.n)).Nodup := hn.sublist (hsub.map _)
  show hS L js dir t (begK L dir m) (insA L dir h (somL l l.length)) 0 = hS L js dir t (begK L dir m) (insA L dir h (allL l l.length)) 0
  rw [som_filter, insA_filter keepB hn2]
  refine hS_keep ht _ _ (fun x hx => ?_) (insA_sorted hn2)
  have := (insA_perm L dir h (allL l l.length)).mem_iff.1 hx
  exact all_kind (List.mem_filter.1 this).1
theorem hld_spk (L : Int) (js : List Int) (l : List Sgn) (h dir t m : Int) : hldV L js (spkL h l l.length) h dir t m = hldV L js l h dir t m := by
  show hS L js dir t (begK L dir m) (insA L dir h (spkL h l l.length)) 0 = _
  rw [spk_ins]; rfl
theorem hld_oth (L : Int) (js : List Int) (l : List Sgn) (z : Nat) (h dir t m : Int) : hldV L js (covL z l l.length) h dir t m = hldV L js (othL z l l.length) h dir t m := by
  show hS L js dir t (begK L dir m) (insA L dir h (covL z l l.length)) 0 = hS L js dir t (begK L dir m) (insA L dir h (othL z l l.length)) 0
  rw [oth_cov]
theorem spk_good {L : Int} {js : List Int} {l : List Sgn} (h : Int) (hs : sgnsB L js l = true) : sgnsB L js (spkL h l l.length) = true := sgns_sub hs (by have := spk_sub h l l.length (Nat.le_refl _); rwa [List.take_length] at this)
theorem oth_good {L : Int} {js : List Int} {l : List Sgn} (z : Nat) (hs : sgnsB L js l = true) : sgnsB L js (othL z l l.length) = true := sgns_sub hs (by have := oth_sub z l l.length (Nat.le_refl _); rwa [List.take_length] at this)
theorem all_good {L : Int} {js : List Int} {l : List Sgn} (hs : sgnsB L js l = true) : sgnsB L js (allL l l.length) = true := sgns_sub hs (by have := all_sub l l.length (Nat.le_refl _); rwa [List.take_length] at this)
theorem som_good {L : Int} {js : List Int} {l : List Sgn} (hs : sgnsB L js l = true) : sgnsB L js (somL l l.length) = true := by
  rw [som_filter]
  exact sgns_sub (all_good hs) List.filter_sublist
end Go.Proofs.YtiagflackfkmnaaGreat

namespace Go.Proofs.YtiagflackfkmnaaGreat
set_option linter.unusedVariables false
set_option linter.unusedSimpArgs false
open Go.RowKit

theorem allocOld (w : World) (o : Obj) {r : Nat} (h : r < w.heap.size) : (w.alloc o).heap[r]? = w.heap[r]? := by
  first | exact heap_alloc_old w o h | exact heap_alloc_old w o _ h
/-- Two rows lie apart. -/
def apB (av a2 : Option Addr) : Prop := ∀ x y, av = some x → a2 = some y → x.block ≠ y.block
theorem apB.symm {av a2 : Option Addr} (h : apB av a2) : apB a2 av := fun x y hx hy e => h y x hy hx e.symm
theorem apB_none (a2 : Option Addr) : apB none a2 := fun x y hx _ => by cases hx
theorem apB_none2 (a2 : Option Addr) : apB a2 none := fun x y _ hy => by cases hy
/-- What an append leaves: every older block but that of the row; the row's new block is none of them. -/
def KpB (w w' : World) (av : Option Addr) (g : Nat) : Prop := ∀ B, B < w.heap.size → (∀ x, av = some x → x.block ≠ B) → w'.heap[B]? = w.heap[B]? ∧ g ≠ B
theorem own_lt {w : World} {B : Nat} {T : TypeId} {K : Nat} {av : Option Addr} {n c m : Nat} {xs : List Value} (h : w.ownsRow B T K (.slice av n c) m xs) : ∀ x, av = some x → x.off = 0 ∧ B ≤ x.block ∧ x.block < w.heap.size := by
  intro x hx
  rcases h.2 with ⟨h1, _⟩ | ⟨g2, c3, cur, h1, h2, h3, _⟩
  · injection h1 with h1 _ _
    rw [hx] at h1; cases h1
  · injection h1 with h1 _ _
    rw [hx] at h1
    injection h1 with h1
    subst h1
    refine ⟨rfl, h2, ?_⟩
    apply Nat.lt_of_not_le
    intro hle
    rw [Array.getElem?_eq_none hle] at h3
    cases h3
theorem own_kept {w w' : World} {B : Nat} {T : TypeId} {K : Nat} {av a2 : Option Addr} {n c m g : Nat} {xs : List Value} (h : w.ownsRow B T K (.slice a2 n c) m xs) (hk : KpB w w' av g) (ha : apB av a2) :
    w'.ownsRow B T K (.slice a2 n c) m xs ∧ apB (some ⟨g, 0, none⟩) a2 := by
  refine ⟨⟨h.1, ?_⟩, fun x y hx hy => ?_⟩
  · rcases h.2 with h1 | ⟨g2, c3, cur, h1, h2, h3, h4⟩
    · exact .inl h1
    · refine .inr ⟨g2, c3, cur, h1, h2, ?_, h4⟩
      have e : a2 = some ⟨g2, 0, none⟩ := by injection h1
      have hl := (own_lt h _ e).2.2
      exact (hk g2 hl fun x hx => ha x _ hx e).1.trans h3
  · injection hx with hx
    subst hx
    exact (hk y.block (own_lt h y hy).2.2 fun x hx => ha x y hx hy).2
/-- append of one new element to a row of one's own, in a region that is not drawn. -/
theorem app_lit {P : Program} {W : World} {ops : Array Oper} {rest : List Oper} {o : Oper} {a : Act} {Q : Exit → Act → World → Prop} (hgd : o.guard = none) (s x : Operand) (t : TypeId)
    (ho : o.op = .call { callee := .builtin .append, args := #[s, x], argTypes := #[t, t] })
    (B : Nat) (T : TypeId) (i : TypeInfo) (z : Value) (K bytes : Nat) (ht : P.underlying t = some (.slice T)) (hi : P.info? T = some i) (hz : i.zero = some z)
    (hsize : i.size = K) (hby : i.bytes = bytes) (hzs : z.cells.size = K) (hK : 0 < K) (hbb : bytes ≤ 1000)
    (av : Option Addr) (n cv : Nat) (xs : List Value) (hs : a.eval s = .slice av n cv) (hR : W.ownsRow B T K (.slice av n cv) n xs)
    (cs : Array Value) (hcs : cs.size = K) (h1 : ∀ u ∈ cs.toList, u.oneCell' = true) (hx : a.eval x = .slice (some ⟨W.heap.size, 0, none⟩) 1 1)
    (hB : B ≤ W.heap.size) (hn : n ≤ 1000)
    (h : ∀ g cap w', w'.ownsRow B T K (.slice (some ⟨g, 0, none⟩) (n + 1) cap) (n + 1) (xs ++ cs.toList) → KpB W w' av g → g < w'.heap.size →
      (∀ w0 : World, B = w0.heap.size → Below w0.heap.size w0 W → Below w0.heap.size w0 w') → wpList P ops Q rest (a.put o.dst (.slice (some ⟨g, 0, none⟩) (n + 1) cap)) w') :
    wpList P ops Q (o :: rest) a (W.alloc (.cells cs T)) := by
  refine wpList_append_lies (W.alloc (.cells cs T)) hgd s x t ho B T i z K bytes ht hi hz hsize hby hzs hK (.slice av n cv) n xs hs (hR.alloc _) ⟨W.heap.size, 0, none⟩ 1 1 cs.toList hx
    (by rw [Array.length_toList, hcs, Nat.one_mul]) (World.news_of_block (heap_alloc_new W _)) h1 (by decide) (by unfold maxLen; omega) ?_ (by simp; omega) _ rfl ?_
  · have := Nat.mul_le_mul (show n + 1 ≤ 1001 by omega) hbb; omega
  · intro g cap w' hown hgrow hat hlt
    refine h g cap w' hown (fun B' hB' hne => ⟨?_, ?_⟩) hlt fun w0 hw0 hb => ?_
    · refine (hgrow.block B' (by simp; omega) fun e => ?_).trans (allocOld W _ hB')
      cases av with
      | none => simp [Value.ownBlock] at e
      | some y => simp [Value.ownBlock] at e; exact hne y rfl e.symm
    · rcases hat with h9 | h9
      · cases av with
        | none => simp [Value.ownBlock] at h9
        | some y => simp [Value.ownBlock] at h9; rw [← h9]; exact hne y rfl
      · intro e; rw [h9] at e; simp at e; omega
    · subst hw0
      refine (hb.alloc hB _).grown hgrow (by simp; omega) fun k hk => ?_
      cases av with
      | none => simp [Value.ownBlock] at hk
      | some y =>
        simp [Value.ownBlock] at hk
        rw [← hk]
        exact (own_lt hR y rfl).2.1
end Go.Proofs.YtiagflackfkmnaaGreat
