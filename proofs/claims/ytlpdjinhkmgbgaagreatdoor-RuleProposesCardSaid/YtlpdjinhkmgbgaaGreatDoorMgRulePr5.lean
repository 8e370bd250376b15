/-
  The law RuleProposes. By an AI agent.
-/
import Derived.Test.YtlpdjinhkmgbgaaGreatDoorMgRulePr3
import Derived.Test.YtlpdjinhkmgbgaaGreatDoorMgRulePr4
import Derived.Test.YtlpdjinhkmgbgaaGreatDoorMgRulePr2
import Derived.Deep.RegionHeld3
import Derived.Deep.DeepCutAuto
import Derived.BigQuiet
import Derived.BigRegion
import Derived.StillTailTactics
import Derived.Deep.AppendLies

namespace Go.Proofs.YtlpdjinhkmgbgaaGreatDoor
set_option linter.unusedVariables false
set_option linter.unusedSimpArgs false
open Go.RowKit

theorem sameSigns0_r (b : Option Addr) (c : Nat) (w : World) (h : SgnS w b []) : Calls Tryz.prog 16 #[.slice b 0 c, .slice none 0 0] w fun e w' => e = .returned (.bool true) ∧ Below w.heap.size w w' := sameSigns_r b none [] c 0 (fun s hs => by cases hs) w h (sg_nil w)
set_option linter.unnecessarySimpa false
set_option maxRecDepth 100000 in
set_option maxHeartbeats 4000000 in
theorem ruleProposes_any (L : Int) (a : Option Addr) (js : List Int) (ca : Nat) (aa : Option Addr) (l : List Sgn) (cl : Nat) (ae : Option Addr) (q : List Edc) (cq : Nat) (q0 q1 q2 q3 : Int) (w : World) (hI : IntsS w a js) (hA : SgnS w aa l) (hE : EdS w ae q) (hG : WayTab w) : Calls Tryz.prog 4 #[.agg #[.int .i64 L, .slice a js.length ca, .slice aa l.length cl, .slice ae q.length cq, .int .i64 q0, .int .i64 q1, .int .i64 q2, .int .i64 q3]] w fun e w' => e = .returned (.bool true) ∧ Below w.heap.size w w' := by
  have HH := Lib.hid (fun W (hW : Below w.heap.size w W) => Heavy_any L a js ca aa l cl ae q cq q0 q1 q2 q3 W (hI.below hW) (hA.below hW) (hE.below hW))
  have HP := Lib.hid (fun W (hW : Below w.heap.size w W) => Propose_any L a js ca ae q cq q0 (sgnsB L js l) W (hG.below hW) (hI.below hW) (hE.below hW))
  have HW := Lib.hid (fun W (hW : Below w.heap.size w W) r => why_r L a js ca aa l cl ae q cq q0 q1 q2 q3 false true r W (hI.below hW) (hA.below hW) (hE.below hW))
  have HR : Hid (whyK (lineB L js) false (sgnsB L js l) true (edcsB L js q) (btw q0 0 10000000) = 0 → ∀ W, Below w.heap.size w W → Calls Tryz.prog 15 #[.agg #[.int .i64 L, .slice a js.length ca], .slice ae q.length cq, .int .i64 q0] W (fun e w' => ∃ b c, e = .returned (.tuple #[.slice b (numS 0 (prpK L js q q0 4)).length c, .bool (decide ((prpK L js q q0 4).length ≤ 100))]) ∧ SgnS w' b (numS 0 (prpK L js q q0 4)) ∧ Below W.heap.size W w')) := Lib.hid fun h W hW => by
    by_cases hV : lstE L js [] q = 0
    · have h9 := (lst_e L js q (sgnsB L js l) (btw q0 0 10000000)).2 hV
      cases hx : btw q0 0 10000000 with
      | false => rw [hx] at h h9; rw [h9] at h; exact absurd h (by decide)
      | true =>
        have hIW := hI.below hW
        have hEW := hE.below hW
        obtain ⟨hl0, hl1, hl2⟩ := lst_line hV
        obtain ⟨N, hN⟩ : ∃ N : Nat, L = N := ⟨L.toNat, by omega⟩
        subst hN
        exact refPropose_r N a js ca ae q cq q0 hV hx W hIW hEW
    · rw [(lst_e L js q (sgnsB L js l) _).1 hV] at h; exact absurd h hV
  have HH1 := Lib.hid (fun W => hour_r q0 W)
  have HCv : Hid (∀ s, s ∈ numS 0 (prpK L js q q0 4) → s.cv = []) := Lib.hid (numS_cv _ 0 (prp_cv 4))
  have HOk : Hid ((decide ((prpK L js q q0 4).length ≤ 100) = true → prpR L js q q0 = numS 0 (prpK L js q q0 4) ∧ prpE L js q q0 = 0) ∧ (decide ((prpK L js q q0 4).length ≤ 100) = false → prpR L js q q0 = [] ∧ prpE L js q q0 = 2)) := Lib.hid ⟨fun h => by
      have h := of_decide_eq_true h
      unfold prpR prpE
      exact ⟨by rw [if_pos h], by rw [if_pos h]⟩, fun h => by
      have h := of_decide_eq_false h
      unfold prpR prpE
      exact ⟨by rw [if_neg h], by rw [if_neg h]⟩⟩
  generalize btw q0 0 10000000 = bh at *
  have HW2 := Lib.hid (fun W (hW : Below w.heap.size w W) => HW.out W hW bh)
  clear HW hG
  generalize whyK (lineB L js) false (sgnsB L js l) true (edcsB L js q) bh = E at *
  generalize decide ((prpK L js q q0 4).length ≤ 100) = ok at *
  generalize numS 0 (prpK L js q q0 4) = NS at *
  generalize prpR L js q q0 = PR at *
  generalize prpE L js q q0 = PE at *
  obtain ⟨RV, hRV⟩ : ∃ RV, (if E = 0 then PR else []) = RV := ⟨_, rfl⟩
  obtain ⟨EV, hEV⟩ : ∃ EV, (if E = 0 then PE else E) = EV := ⟨_, rfl⟩
  rw [hRV, hEV] at HP
  have HV1 := Lib.hid hRV
  have HV2 := Lib.hid hEV
  clear hRV hEV
  clear hI hA hE
  go_enter Tryz.func4, Tryz.ntmps4
  go_wp2_with fail
  obtain ⟨wB, hwB⟩ : ∃ wB, w.alloc (.cells #[.int .i64 L, .slice a js.length ca, .slice aa l.length cl, .slice ae q.length cq, .int .i64 q0, .int .i64 q1, .int .i64 q2, .int .i64 q3] 28) = wB := ⟨_, rfl⟩
  have hb : Below w.heap.size w wB := by rw [← hwB]; exact (Below.refl _ _).alloc (Nat.le_refl _) _
  have p0 : wB.cell? ⟨w.heap.size, 0, none⟩ = some (.int .i64 L) := by rw [← hwB]; simp [go_sem]
  have p1 : wB.cell? ⟨w.heap.size, 1, none⟩ = some (.slice a js.length ca) := by rw [← hwB]; simp [go_sem]
  have p2 : wB.cell? ⟨w.heap.size, 2, none⟩ = some (.slice aa l.length cl) := by rw [← hwB]; simp [go_sem]
  have p3 : wB.cell? ⟨w.heap.size, 3, none⟩ = some (.slice ae q.length cq) := by rw [← hwB]; simp [go_sem]
  have p4 : wB.cell? ⟨w.heap.size, 4, none⟩ = some (.int .i64 q0) := by rw [← hwB]; simp [go_sem]
  have p5 : wB.cell? ⟨w.heap.size, 5, none⟩ = some (.int .i64 q1) := by rw [← hwB]; simp [go_sem]
  have p6 : wB.cell? ⟨w.heap.size, 6, none⟩ = some (.int .i64 q2) := by rw [← hwB]; simp [go_sem]
  have p7 : wB.cell? ⟨w.heap.size, 7, none⟩ = some (.int .i64 q3) := by rw [← hwB]; simp [go_sem]
  rw [hwB]
  clear hwB
  refine (HH.out _ hb).mono ?_
  rintro e wX ⟨bv, hHv, rfl, hb1⟩
  replace p0 := cell_below p0 hb1
  replace p1 := cell_below p1 hb1
  replace p2 := cell_below p2 hb1
  replace p3 := cell_below p3 hb1
  replace p4 := cell_below p4 hb1
  replace p5 := cell_below p5 hb1
  replace p6 := cell_below p6 hb1
  replace p7 := cell_below p7 hb1
  have hbw := hb.trans (hb1.mono hb.size)
  clear HH hb1
  cases bv with
  | true =>
    clear HP HW2 HR HH1 HCv HOk HV1 HV2 hHv
    go_wp2_with (go_at_call 8; refine (first_any _).mono ?_; rintro e w9 ⟨rfl, hb9⟩)
    go_ret
    exact ⟨rfl, hbw.trans (hb9.mono hbw.size)⟩
  | false =>
    have HHv := Lib.hid (hHv rfl)
    have hz := block_lt p0
    have Z0 := Lib.hid p0
    have Z1 := Lib.hid p1
    have Z2 := Lib.hid p2
    have Z3 := Lib.hid p3
    have Z4 := Lib.hid p4
    have Z5 := Lib.hid p5
    have Z6 := Lib.hid p6
    have Z7 := Lib.hid p7
    have HBW := Lib.hid hbw
    clear p0 p1 p2 p3 p4 p5 p6 p7 hb hbw hHv
    have hbw := HBW.out
    clear HHv
    have p0 := Z0.out
    have p1 := Z1.out
    have p2 := Z2.out
    have p3 := Z3.out
    have p4 := Z4.out
    have p5 := Z5.out
    have p6 := Z6.out
    have p7 := Z7.out
    clear Z0 Z1 Z2 Z3 Z4 Z5 Z6 Z7
    go_upto_region 4 with (go_at_call 14; refine (HP.out _ hbw).mono ?_; rintro e w9 ⟨b1, c1, rfl, hT1, hb9⟩; have HT1 := Lib.hid hT1; clear hT1; replace hbw := hbw.trans (hb9.mono hbw.size); replace p0 := cell_below p0 hb9; replace p1 := cell_below p1 hb9; replace p2 := cell_below p2 hb9; replace p3 := cell_below p3 hb9; replace p4 := cell_below p4 hb9; replace p5 := cell_below p5 hb9; replace p6 := cell_below p6 hb9; replace p7 := cell_below p7 hb9; clear hb9)
    obtain ⟨wY, rfl⟩ : ∃ wY : World, wY = w9 := ⟨_, rfl⟩
    clear HP
    have hzz := block_lt p0
    have Y0 := Lib.hid p0
    have Y1 := Lib.hid p1
    have Y2 := Lib.hid p2
    have Y3 := Lib.hid p3
    have Y4 := Lib.hid p4
    have Y5 := Lib.hid p5
    have Y6 := Lib.hid p6
    have Y7 := Lib.hid p7
    have HBY := Lib.hid hbw
    have HWX := Lib.hid (fun W (hW : Below wY.heap.size wY W) => HW2.out W (HBY.out.trans (hW.mono HBY.out.size)))
    clear HW2 hbw
    have hB : Below wY.heap.size wY wY := Below.refl _ _
    go_region_held3 (fun w' => w'.cell? ⟨w.heap.size, 0, none⟩ = some (.int .i64 L) ∧ w'.cell? ⟨w.heap.size, 1, none⟩ = some (.slice a js.length ca) ∧ w'.cell? ⟨w.heap.size, 2, none⟩ = some (.slice aa l.length cl) ∧ w'.cell? ⟨w.heap.size, 3, none⟩ = some (.slice ae q.length cq) ∧ w'.cell? ⟨w.heap.size, 4, none⟩ = some (.int .i64 q0) ∧ w'.cell? ⟨w.heap.size, 5, none⟩ = some (.int .i64 q1) ∧ w'.cell? ⟨w.heap.size, 6, none⟩ = some (.int .i64 q2) ∧ w'.cell? ⟨w.heap.size, 7, none⟩ = some (.int .i64 q3)) (go_keep)
      (first
        | (go_at_call 11
           refine (HH1.out _).mono ?_
           rintro e w9 ⟨rfl, rfl⟩
           skip)
        | (go_at_call 10
           refine (HWX.out _ (show Below wY.heap.size wY _ by first | exact hB | exact hB.drew)).mono ?_
           rintro e w9 ⟨rfl, hb9⟩
           replace hB : Below wY.heap.size wY w9 := (show Below wY.heap.size wY _ by first | exact hB | exact hB.drew).trans (hb9.mono (by have := hB.size; first | exact this | (simp; exact this)))
           have p0 := (hB.cell (p := ⟨w.heap.size, 0, none⟩) hzz).trans Y0.out
           have p1 := (hB.cell (p := ⟨w.heap.size, 1, none⟩) hzz).trans Y1.out
           have p2 := (hB.cell (p := ⟨w.heap.size, 2, none⟩) hzz).trans Y2.out
           have p3 := (hB.cell (p := ⟨w.heap.size, 3, none⟩) hzz).trans Y3.out
           have p4 := (hB.cell (p := ⟨w.heap.size, 4, none⟩) hzz).trans Y4.out
           have p5 := (hB.cell (p := ⟨w.heap.size, 5, none⟩) hzz).trans Y5.out
           have p6 := (hB.cell (p := ⟨w.heap.size, 6, none⟩) hzz).trans Y6.out
           have p7 := (hB.cell (p := ⟨w.heap.size, 7, none⟩) hzz).trans Y7.out
           skip))
    all_goals
      have hbw := HBY.out.trans (hB.mono HBY.out.size)
      replace HT1 := Lib.hid (HT1.out.below hB)
      by_cases hE : E = 0
      · have e1 : RV = PR := by rw [← HV1.out, if_pos hE]
        have e2 : EV = PE := by rw [← HV2.out, if_pos hE]
        subst hE
        subst e1 e2
        clear HV1 HV2
        cases ok with
        | true =>
          obtain ⟨f1, f2⟩ := HOk.out.1 rfl
          subst f1 f2
          clear HOk
          go_wp2_with (first | (go_at_call 15; refine (HR.out (by trivial) _ hbw).mono ?_; rintro e w9 ⟨b3, c3, rfl, hT3, hb9⟩; have HT3 := Lib.hid hT3; clear hT3; replace hbw := hbw.trans (hb9.mono hbw.size); replace HT1 := Lib.hid (HT1.out.below hb9); clear hb9) | (go_at_call 16; refine (sameSigns_r _ _ _ _ _ HCv.out _ HT1.out HT3.out).mono ?_; rintro e w9 ⟨rfl, hb9⟩; replace hbw := hbw.trans (hb9.mono hbw.size); clear hb9) | (go_at_call 8; refine (first_any _).mono ?_; rintro e w9 ⟨rfl, hb9⟩))
          go_ret
          exact ⟨rfl, hbw.trans (hb9.mono hbw.size)⟩
        | false =>
          obtain ⟨f1, f2⟩ := HOk.out.2 rfl
          subst f1 f2
          clear HOk
          go_wp2_with (first | (go_at_call 15; refine (HR.out (by trivial) _ hbw).mono ?_; rintro e w9 ⟨b3, c3, rfl, hT3, hb9⟩; have HT3 := Lib.hid hT3; clear hT3; replace hbw := hbw.trans (hb9.mono hbw.size); replace HT1 := Lib.hid (HT1.out.below hb9); clear hb9) | (go_at_call 16; refine (sameSigns0_r _ _ _ HT1.out).mono ?_; rintro e w9 ⟨rfl, hb9⟩; replace hbw := hbw.trans (hb9.mono hbw.size); clear hb9) | (go_at_call 8; refine (first_any _).mono ?_; rintro e w9 ⟨rfl, hb9⟩))
          go_ret
          exact ⟨rfl, hbw.trans (hb9.mono hbw.size)⟩
      · have e1 : RV = [] := by rw [← HV1.out, if_neg hE]
        have e2 : EV = E := by rw [← HV2.out, if_neg hE]
        subst e1 e2
        have d1 : (EV == 0) = false := beq_false_of_ne hE
        have d2 : (EV == EV) = true := by simp
        clear HV1 HV2 hE HOk HR HCv
        go_wp2_with (first | (go_at_call 16; refine (sameSigns0_r _ _ _ HT1.out).mono ?_; rintro e w9 ⟨rfl, hb9⟩; replace hbw := hbw.trans (hb9.mono hbw.size); clear hb9) | (go_at_call 8; refine (first_any _).mono ?_; rintro e w9 ⟨rfl, hb9⟩))
        go_ret
        exact ⟨rfl, hbw.trans (hb9.mono hbw.size)⟩
end Go.Proofs.YtlpdjinhkmgbgaaGreatDoor
