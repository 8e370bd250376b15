/-
  The law's right. By an AI agent.; The reference's Propose. By an AI agent.
-/
import Derived.Test.YtneafbhiencjlaaGreatDoorMgRuleProposed7
import Derived.Test.YtneafbhiencjlaaGreatDoorMgRuleProposed8
import Derived.Test.YtneafbhiencjlaaGreatDoorMgRuleProposed13
import Derived.Deep.RegionHeld3
import Derived.Deep.DeepCutAuto
import Derived.BigQuiet
import Derived.BigRegion
import Derived.StillTailTactics
import Derived.Deep.AppendLies

namespace Go.Proofs.YtneafbhiencjlaaGreatDoor
set_option linter.unusedVariables false
set_option linter.unusedSimpArgs false
open Go.RowKit

/-- right says whether an ask has valid parts. -/
def RgtE (L : Int) (js : List Int) (l : List Sgn) (q : List Edc) (q0 q1 q2 : Int) (w : World) (e : Ending) (w' : World) : Prop :=
  ∃ b : Bool, (b = true → lstE L js l q = 0 ∧ L ≤ 200 ∧ btw q0 0 10000000 = true ∧ dirB q1 = true ∧ topB q2 = true) ∧ e = .returned (.bool b) ∧ Below w.heap.size w w'
theorem lst_zero {L : Int} {js : List Int} {l : List Sgn} {q : List Edc} (h1 : sgnsB L js l = true) (h2 : edcsB L js q = true) : lstE L js l q = 0 := by
  unfold lstE
  rw [sgns_line h1, h1, h2]
  rfl
set_option linter.unnecessarySimpa false
set_option maxRecDepth 100000 in
set_option maxHeartbeats 4000000 in
theorem right_r (L : Int) (a : Option Addr) (js : List Int) (ca : Nat) (aa : Option Addr) (l : List Sgn) (cl : Nat) (ae : Option Addr) (q : List Edc) (cq : Nat) (q0 q1 q2 q3 : Int) (w : World) (hI : IntsS w a js) (hA : SgnS w aa l) (hE : EdS w ae q) : Calls Tryz.prog 6 #[.agg #[.int .i64 L, .slice a js.length ca, .slice aa l.length cl, .slice ae q.length cq, .int .i64 q0, .int .i64 q1, .int .i64 q2, .int .i64 q3]] w (RgtE L js l q q0 q1 q2 w) := by
  have HH := Lib.hid (fun W (hW : Below w.heap.size w W) => Heavy_any L a js ca aa l cl ae q cq q0 q1 q2 q3 W (hI.below hW) (hA.below hW) (hE.below hW))
  have HS := Lib.hid (fun W (hW : Below w.heap.size w W) => refValidSigns_r L a js ca aa l cl W (hI.below hW) (hA.below hW))
  have HE := Lib.hid (fun W (hW : Below w.heap.size w W) => refValidEdicts_r L a js ca ae q cq W (hI.below hW) (hE.below hW))
  have K0 := Lib.hid (fun W => hour_r q0 W)
  have K1 := Lib.hid (fun W => way_r q1 W)
  have K2 := Lib.hid (fun W => topic_r q2 W)
  clear hI hA hE
  obtain ⟨s1, h⟩ : ∃ s1, sgnsB L js l = s1 := ⟨_, rfl⟩
  rw [h] at HS
  have HS1 := Lib.hid h
  clear h
  obtain ⟨s2, h⟩ : ∃ s2, edcsB L js q = s2 := ⟨_, rfl⟩
  rw [h] at HE
  have HS2 := Lib.hid h
  clear h
  obtain ⟨s3, h⟩ : ∃ s3, btw q0 0 10000000 = s3 := ⟨_, rfl⟩
  rw [h] at K0
  have HS3 := Lib.hid h
  clear h
  obtain ⟨s4, h⟩ : ∃ s4, dirB q1 = s4 := ⟨_, rfl⟩
  rw [h] at K1
  have HS4 := Lib.hid h
  clear h
  obtain ⟨s5, h⟩ : ∃ s5, topB q2 = s5 := ⟨_, rfl⟩
  rw [h] at K2
  have HS5 := Lib.hid h
  clear h
  go_enter Tryz.func6, Tryz.ntmps6
  go_wp2_with fail
  obtain ⟨wB, hwB⟩ : ∃ wB, w.alloc (.cells #[.int .i64 L, .slice a js.length ca, .slice aa l.length cl, .slice ae q.length cq, .int .i64 q0, .int .i64 q1, .int .i64 q2, .int .i64 q3] 28) = wB := ⟨_, rfl⟩
  have hb : Below w.heap.size w wB := by rw [← hwB]; exact (Below.refl _ _).alloc (Nat.le_refl _) _
  have p0 : wB.cell? ⟨w.heap.size, 0, none⟩ = some (.int .i64 L) := by rw [← hwB]; simp [go_sem]
  have p1 : wB.cell? ⟨w.heap.size, 1, none⟩ = some (.slice a js.length ca) := by rw [← hwB]; simp [go_sem]
  have p2 : wB.cell? ⟨w.heap.size, 2, none⟩ = some (.slice aa l.length cl) := by rw [← hwB]; simp [go_sem]
  have p3 : wB.cell? ⟨w.heap.size, 3, none⟩ = some (.slice ae q.length cq) := by rw [← hwB]; simp [go_sem]
  have p4 : wB.cell? ⟨w.heap.size, 4, none⟩ = some (.int .i64 q0) := by rw [← hwB]; simp [go_sem]
  have p5 : wB.cell? ⟨w.heap.size, 5, none⟩ = some (.int .i64 q1) := by rw [← hwB]; simp [go_sem]
  have p6 : wB.cell? ⟨w.heap.size, 6, none⟩ = some (.int .i64 q2) := by rw [← hwB]; simp [go_sem]
  have p7 : wB.cell? ⟨w.heap.size, 7, none⟩ = some (.int .i64 q3) := by rw [← hwB]; simp [go_sem]
  rw [hwB]
  clear hwB
  refine (HH.out _ hb).mono ?_
  rintro e wX ⟨bv, hHv, rfl, hb1⟩
  replace p0 := cell_below p0 hb1
  replace p1 := cell_below p1 hb1
  replace p2 := cell_below p2 hb1
  replace p3 := cell_below p3 hb1
  replace p4 := cell_below p4 hb1
  replace p5 := cell_below p5 hb1
  replace p6 := cell_below p6 hb1
  replace p7 := cell_below p7 hb1
  have hbw := hb.trans (hb1.mono hb.size)
  clear HH hb1 hHv
  cases bv with
  | true =>
    go_wp2_with fail
    go_ret
    exact ⟨false, (fun h => by cases h), rfl, hbw⟩
  | false =>
    cases s1 with
    | false =>
      go_wp2_with (first | (go_at_call 19; refine (HS.out _ hbw).mono ?_; rintro e w9 ⟨rfl, hb9⟩; replace hbw := hbw.trans (hb9.mono hbw.size); replace p0 := cell_below p0 hb9; replace p1 := cell_below p1 hb9; replace p2 := cell_below p2 hb9; replace p3 := cell_below p3 hb9; replace p4 := cell_below p4 hb9; replace p5 := cell_below p5 hb9; replace p6 := cell_below p6 hb9; replace p7 := cell_below p7 hb9; clear hb9) | (go_at_call 20; refine (HE.out _ hbw).mono ?_; rintro e w9 ⟨rfl, hb9⟩; replace hbw := hbw.trans (hb9.mono hbw.size); replace p0 := cell_below p0 hb9; replace p1 := cell_below p1 hb9; replace p2 := cell_below p2 hb9; replace p3 := cell_below p3 hb9; replace p4 := cell_below p4 hb9; replace p5 := cell_below p5 hb9; replace p6 := cell_below p6 hb9; replace p7 := cell_below p7 hb9; clear hb9) | (go_at_call 15; refine (K0.out _).mono ?_; rintro e w9 ⟨rfl, rfl⟩) | (go_at_call 21; refine (K1.out _).mono ?_; rintro e w9 ⟨rfl, rfl⟩) | (go_at_call 22; refine (K2.out _).mono ?_; rintro e w9 ⟨rfl, rfl⟩))
      go_ret
      exact ⟨false, (fun h => by cases h), rfl, hbw⟩
    | true =>
      cases s2 with
      | false =>
        go_wp2_with (first | (go_at_call 19; refine (HS.out _ hbw).mono ?_; rintro e w9 ⟨rfl, hb9⟩; replace hbw := hbw.trans (hb9.mono hbw.size); replace p0 := cell_below p0 hb9; replace p1 := cell_below p1 hb9; replace p2 := cell_below p2 hb9; replace p3 := cell_below p3 hb9; replace p4 := cell_below p4 hb9; replace p5 := cell_below p5 hb9; replace p6 := cell_below p6 hb9; replace p7 := cell_below p7 hb9; clear hb9) | (go_at_call 20; refine (HE.out _ hbw).mono ?_; rintro e w9 ⟨rfl, hb9⟩; replace hbw := hbw.trans (hb9.mono hbw.size); replace p0 := cell_below p0 hb9; replace p1 := cell_below p1 hb9; replace p2 := cell_below p2 hb9; replace p3 := cell_below p3 hb9; replace p4 := cell_below p4 hb9; replace p5 := cell_below p5 hb9; replace p6 := cell_below p6 hb9; replace p7 := cell_below p7 hb9; clear hb9) | (go_at_call 15; refine (K0.out _).mono ?_; rintro e w9 ⟨rfl, rfl⟩) | (go_at_call 21; refine (K1.out _).mono ?_; rintro e w9 ⟨rfl, rfl⟩) | (go_at_call 22; refine (K2.out _).mono ?_; rintro e w9 ⟨rfl, rfl⟩))
        go_ret
        exact ⟨false, (fun h => by cases h), rfl, hbw⟩
      | true =>
        by_cases h2 : L ≤ 200
        · have d2 : decide (L ≤ 200) = true := decide_eq_true h2
          cases s3 with
          | false =>
            go_wp2_with (first | (go_at_call 19; refine (HS.out _ hbw).mono ?_; rintro e w9 ⟨rfl, hb9⟩; replace hbw := hbw.trans (hb9.mono hbw.size); replace p0 := cell_below p0 hb9; replace p1 := cell_below p1 hb9; replace p2 := cell_below p2 hb9; replace p3 := cell_below p3 hb9; replace p4 := cell_below p4 hb9; replace p5 := cell_below p5 hb9; replace p6 := cell_below p6 hb9; replace p7 := cell_below p7 hb9; clear hb9) | (go_at_call 20; refine (HE.out _ hbw).mono ?_; rintro e w9 ⟨rfl, hb9⟩; replace hbw := hbw.trans (hb9.mono hbw.size); replace p0 := cell_below p0 hb9; replace p1 := cell_below p1 hb9; replace p2 := cell_below p2 hb9; replace p3 := cell_below p3 hb9; replace p4 := cell_below p4 hb9; replace p5 := cell_below p5 hb9; replace p6 := cell_below p6 hb9; replace p7 := cell_below p7 hb9; clear hb9) | (go_at_call 15; refine (K0.out _).mono ?_; rintro e w9 ⟨rfl, rfl⟩) | (go_at_call 21; refine (K1.out _).mono ?_; rintro e w9 ⟨rfl, rfl⟩) | (go_at_call 22; refine (K2.out _).mono ?_; rintro e w9 ⟨rfl, rfl⟩))
            go_ret
            exact ⟨false, (fun h => by cases h), rfl, hbw⟩
          | true =>
            cases s4 with
            | false =>
              go_wp2_with (first | (go_at_call 19; refine (HS.out _ hbw).mono ?_; rintro e w9 ⟨rfl, hb9⟩; replace hbw := hbw.trans (hb9.mono hbw.size); replace p0 := cell_below p0 hb9; replace p1 := cell_below p1 hb9; replace p2 := cell_below p2 hb9; replace p3 := cell_below p3 hb9; replace p4 := cell_below p4 hb9; replace p5 := cell_below p5 hb9; replace p6 := cell_below p6 hb9; replace p7 := cell_below p7 hb9; clear hb9) | (go_at_call 20; refine (HE.out _ hbw).mono ?_; rintro e w9 ⟨rfl, hb9⟩; replace hbw := hbw.trans (hb9.mono hbw.size); replace p0 := cell_below p0 hb9; replace p1 := cell_below p1 hb9; replace p2 := cell_below p2 hb9; replace p3 := cell_below p3 hb9; replace p4 := cell_below p4 hb9; replace p5 := cell_below p5 hb9; replace p6 := cell_below p6 hb9; replace p7 := cell_below p7 hb9; clear hb9) | (go_at_call 15; refine (K0.out _).mono ?_; rintro e w9 ⟨rfl, rfl⟩) | (go_at_call 21; refine (K1.out _).mono ?_; rintro e w9 ⟨rfl, rfl⟩) | (go_at_call 22; refine (K2.out _).mono ?_; rintro e w9 ⟨rfl, rfl⟩))
              go_ret
              exact ⟨false, (fun h => by cases h), rfl, hbw⟩
            | true =>
              cases s5 with
              | false =>
                go_wp2_with (first | (go_at_call 19; refine (HS.out _ hbw).mono ?_; rintro e w9 ⟨rfl, hb9⟩; replace hbw := hbw.trans (hb9.mono hbw.size); replace p0 := cell_below p0 hb9; replace p1 := cell_below p1 hb9; replace p2 := cell_below p2 hb9; replace p3 := cell_below p3 hb9; replace p4 := cell_below p4 hb9; replace p5 := cell_below p5 hb9; replace p6 := cell_below p6 hb9; replace p7 := cell_below p7 hb9; clear hb9) | (go_at_call 20; refine (HE.out _ hbw).mono ?_; rintro e w9 ⟨rfl, hb9⟩; replace hbw := hbw.trans (hb9.mono hbw.size); replace p0 := cell_below p0 hb9; replace p1 := cell_below p1 hb9; replace p2 := cell_below p2 hb9; replace p3 := cell_below p3 hb9; replace p4 := cell_below p4 hb9; replace p5 := cell_below p5 hb9; replace p6 := cell_below p6 hb9; replace p7 := cell_below p7 hb9; clear hb9) | (go_at_call 15; refine (K0.out _).mono ?_; rintro e w9 ⟨rfl, rfl⟩) | (go_at_call 21; refine (K1.out _).mono ?_; rintro e w9 ⟨rfl, rfl⟩) | (go_at_call 22; refine (K2.out _).mono ?_; rintro e w9 ⟨rfl, rfl⟩))
                go_ret
                exact ⟨false, (fun h => by cases h), rfl, hbw⟩
              | true =>
                go_wp2_with (first | (go_at_call 19; refine (HS.out _ hbw).mono ?_; rintro e w9 ⟨rfl, hb9⟩; replace hbw := hbw.trans (hb9.mono hbw.size); replace p0 := cell_below p0 hb9; replace p1 := cell_below p1 hb9; replace p2 := cell_below p2 hb9; replace p3 := cell_below p3 hb9; replace p4 := cell_below p4 hb9; replace p5 := cell_below p5 hb9; replace p6 := cell_below p6 hb9; replace p7 := cell_below p7 hb9; clear hb9) | (go_at_call 20; refine (HE.out _ hbw).mono ?_; rintro e w9 ⟨rfl, hb9⟩; replace hbw := hbw.trans (hb9.mono hbw.size); replace p0 := cell_below p0 hb9; replace p1 := cell_below p1 hb9; replace p2 := cell_below p2 hb9; replace p3 := cell_below p3 hb9; replace p4 := cell_below p4 hb9; replace p5 := cell_below p5 hb9; replace p6 := cell_below p6 hb9; replace p7 := cell_below p7 hb9; clear hb9) | (go_at_call 15; refine (K0.out _).mono ?_; rintro e w9 ⟨rfl, rfl⟩) | (go_at_call 21; refine (K1.out _).mono ?_; rintro e w9 ⟨rfl, rfl⟩) | (go_at_call 22; refine (K2.out _).mono ?_; rintro e w9 ⟨rfl, rfl⟩))
                go_ret
                exact ⟨true, fun _ => ⟨lst_zero HS1.out HS2.out, h2, HS3.out, HS4.out, HS5.out⟩, rfl, hbw⟩
        · have d2 : decide (L ≤ 200) = false := decide_eq_false h2
          go_wp2_with (first | (go_at_call 19; refine (HS.out _ hbw).mono ?_; rintro e w9 ⟨rfl, hb9⟩; replace hbw := hbw.trans (hb9.mono hbw.size); replace p0 := cell_below p0 hb9; replace p1 := cell_below p1 hb9; replace p2 := cell_below p2 hb9; replace p3 := cell_below p3 hb9; replace p4 := cell_below p4 hb9; replace p5 := cell_below p5 hb9; replace p6 := cell_below p6 hb9; replace p7 := cell_below p7 hb9; clear hb9) | (go_at_call 20; refine (HE.out _ hbw).mono ?_; rintro e w9 ⟨rfl, hb9⟩; replace hbw := hbw.trans (hb9.mono hbw.size); replace p0 := cell_below p0 hb9; replace p1 := cell_below p1 hb9; replace p2 := cell_below p2 hb9; replace p3 := cell_below p3 hb9; replace p4 := cell_below p4 hb9; replace p5 := cell_below p5 hb9; replace p6 := cell_below p6 hb9; replace p7 := cell_below p7 hb9; clear hb9) | (go_at_call 15; refine (K0.out _).mono ?_; rintro e w9 ⟨rfl, rfl⟩) | (go_at_call 21; refine (K1.out _).mono ?_; rintro e w9 ⟨rfl, rfl⟩) | (go_at_call 22; refine (K2.out _).mono ?_; rintro e w9 ⟨rfl, rfl⟩))
          go_ret
          exact ⟨false, (fun h => by cases h), rfl, hbw⟩
end Go.Proofs.YtneafbhiencjlaaGreatDoor

namespace Go.Proofs.YtneafbhiencjlaaGreatDoor
set_option linter.unusedVariables false
set_option linter.unusedSimpArgs false
open Go.RowKit

set_option maxRecDepth 100000 in
set_option maxHeartbeats 4000000 in
theorem refPropose_r (N : Nat) (a : Option Addr) (js : List Int) (ca : Nat) (ae : Option Addr) (q : List Edc) (cq : Nat) (h : Int) (hV : lstE N js [] q = 0) (hh : btw h 0 10000000 = true) (w : World) (hI : IntsS w a js) (hE : EdS w ae q) :
    Calls Tryz.prog 9 #[.agg #[.int .i64 N, .slice a js.length ca], .slice ae q.length cq, .int .i64 h] w fun e w' => ∃ b c, e = .returned (.tuple #[.slice b (numS 0 (prpK N js q h 4)).length c, .bool (decide ((prpK N js q h 4).length ≤ 100))]) ∧ SgnS w' b (numS 0 (prpK N js q h 4)) ∧ Below w.heap.size w w' := by
  obtain ⟨hl, hL1, hL2⟩ := lst_line hV
  have hjm := ((line_iff N js).1 hl).2.2.1
  have hhb := btw_ge hh
  have HJu0 := Lib.hid (fun D k W (hW : Below w.heap.size w W) => refJunction_r N a js ca D k (by omega) hL2 (fun j hj => by have := hjm _ (gi_mem hj); omega) W (hI.below hW))
  have HBg0 := Lib.hid (fun D (k : Nat) W (hk : k < N) => refBeginning_r N a js.length ca D k (by omega) hL2 (by omega) (by omega) W)
  have HDi0 := Lib.hid (fun D (k : Nat) W (hk : k < N) => refDistance_r N a js.length ca D k (by omega) hL2 (by omega) (by omega) W)
  have HMu0 := Lib.hid (fun T D m W (hW : Below w.heap.size w W) => refMust_r ae q cq h T D m W (hE.below hW))
  have HLn : Hid (∀ k, (prpK N js q h k).length ≤ k * 100000) := Lib.hid fun k => Nat.le_trans (prp_len k) (Nat.mul_le_mul_left _ (by omega))
  have HRl : Hid (∀ T D n, (refN N js q h T D n).2.length ≤ n) := Lib.hid fun T D n => refN_len ..
  have hwr : IntKind.i64.wrap (h + 1) = h + 1 := IntWalk.i64_in _ (by omega)
  have hN : N ≤ 100000 := by omega
  have HCv : Hid (∀ s, s ∈ numS 0 (prpK N js q h 4) → s.cv = []) := Lib.hid (numS_cv _ 0 (prp_cv 4))
  obtain ⟨n0, hi, hz0, hz1, hz2⟩ := info_parts signInfo
  clear hI hE hV hh hl hL1 hL2 hjm
  go_enter Tryz.func9, Tryz.ntmps9
  go_upto_region 3 with (fail)
  obtain ⟨wC, hwC⟩ : ∃ wC, ((w.alloc (.cells #[.int .i64 N, .slice a js.length ca] 24)).alloc (.cells #[.int .i64 0, .int .i64 1, .int .i64 3] 3)).alloc (.cells #[.int .i64 0, .int .i64 2, .int .i64 4] 3) = wC := ⟨_, rfl⟩
  have hb : Below w.heap.size w wC := by rw [← hwC]; exact (((Below.refl _ _).alloc (Nat.le_refl _) _).alloc (by simp) _).alloc (by simp; omega) _
  have l0 : wC.cell? ⟨w.heap.size, 0, none⟩ = some (.int .i64 N) := by rw [← hwC]; simp [go_sem]
  have l1 : wC.cell? ⟨w.heap.size, 1, none⟩ = some (.slice a js.length ca) := by rw [← hwC]; simp [go_sem]
  have s1 : wC.cell? ⟨w.heap.size + 1, 1, none⟩ = some (.int .i64 1) := by rw [← hwC]; simp [go_sem]
  have s2 : wC.cell? ⟨w.heap.size + 1, 2, none⟩ = some (.int .i64 3) := by rw [← hwC]; simp [go_sem]
  have e1 : wC.cell? ⟨w.heap.size + 1 + 1, 1, none⟩ = some (.int .i64 2) := by rw [← hwC]; simp [go_sem]
  have e2 : wC.cell? ⟨w.heap.size + 1 + 1, 2, none⟩ = some (.int .i64 4) := by rw [← hwC]; simp [go_sem]
  rw [hwC]
  clear hwC
  obtain ⟨bs, hbs⟩ : ∃ b, w.heap.size + 1 = b := ⟨_, rfl⟩
  obtain ⟨be, hbe⟩ : ∃ b, w.heap.size + 1 + 1 = b := ⟨_, rfl⟩
  rw [hbe] at e1 e2 ⊢
  rw [hbs] at s1 s2 ⊢
  have HSE : Hid (∀ Tn : Nat, Tn = 1 ∨ Tn = 2 → ∃ ek sk : Int, wC.cell? ⟨be, Tn, none⟩ = some (.int .i64 ek) ∧ wC.cell? ⟨bs, Tn, none⟩ = some (.int .i64 sk) ∧ kndK (Tn : Int) 0 = ek ∧ ∀ v, v ≠ 0 → kndK (Tn : Int) v = sk) := Lib.hid fun Tn hT => by
    rcases hT with rfl | rfl
    · exact ⟨2, 1, e1, s1, rfl, fun v hv => by unfold kndK; rw [if_pos (show ((1 : Nat) : Int) = 1 from rfl), if_neg hv]⟩
    · exact ⟨4, 3, e2, s2, rfl, fun v hv => by unfold kndK; rw [if_neg (by decide), if_neg hv]⟩
  have L0 := Lib.hid l0
  have L1 := Lib.hid l1
  have HB := Lib.hid hb
  clear l0 l1 hb s1 s2 e1 e2 hbs hbe
  go_wp2_with fail
  go_loopw [8, 11] (fun v i wr => ∃ (t : Nat) (av : Option Addr) (cv : Nat), t ≤ 2 ∧ i = .int .i64 ((t : Int) + 1) ∧ v = .slice av (numS 0 (prpK N js q h (2 * t))).length cv ∧ Hid (wr.ownsRow wC.heap.size 51 9 (.slice av (numS 0 (prpK N js q h (2 * t))).length cv) (numS 0 (prpK N js q h (2 * t))).length (cl9 (numS 0 (prpK N js q h (2 * t))))) ∧ Below wC.heap.size wC wr) (fun _ i _ => (4 - intOf i).toNat)
  case atStart => exact ⟨0, none, 0, by omega, by congr 1, rfl, Lib.hid (World.ownsRow_nil _ _ _ _), Below.refl _ _⟩
  case round =>
    obtain ⟨t, av0, cv0, ht, rfl, rfl, HRow0, hbr0⟩ := hrel
    by_cases htl : t < 2
    · obtain ⟨Tn, hTn⟩ : ∃ Tn : Nat, t + 1 = Tn := ⟨_, rfl⟩
      have hTi : (t : Int) + 1 = (Tn : Int) := by omega
      have hTb : 1 ≤ Tn ∧ Tn ≤ 2 := by omega
      have HT := Lib.hid hTn
      obtain ⟨ek, sk, hce, hcs, hk1, hk2⟩ := HSE.out Tn (by omega)
      have HK : Hid (kndK (Tn : Int) 0 = ek ∧ ∀ v, v ≠ 0 → kndK (Tn : Int) v = sk) := Lib.hid ⟨hk1, hk2⟩
      have HCe := Lib.hid hce
      have HCs := Lib.hid hcs
      rw [hTi]
      have hT1 : (1 : Int) ≤ (Tn : Int) := by omega
      have hT2 : (Tn : Int) ≤ 2 := by omega
      have hT3 : (Tn : Int) < 3 := by omega
      have hT4 : ¬ ((3 : Int) ≤ (Tn : Int)) := by omega
      have hT0 : (0 : Int) ≤ (Tn : Int) := by omega
      clear hTn hTi hk1 hk2 hce hcs HSE
      go_wp2_with fail
      go_loopw [8, 12] (fun v i wr => ∃ (d : Nat) (av : Option Addr) (cv : Nat), d ≤ 2 ∧ i = .int .i64 (1 - 2 * (d : Int)) ∧ v = .slice av (numS 0 (prpK N js q h (2 * t + d))).length cv ∧ Hid (wr.ownsRow wC.heap.size 51 9 (.slice av (numS 0 (prpK N js q h (2 * t + d))).length cv) (numS 0 (prpK N js q h (2 * t + d))).length (cl9 (numS 0 (prpK N js q h (2 * t + d))))) ∧ Below wC.heap.size wC wr) (fun _ i _ => (intOf i + 4).toNat)
      case atStart => exact ⟨0, av0, cv0, by omega, by congr 1, rfl, HRow0, hbr0⟩
      case round =>
        obtain ⟨d, av1, cv1, hd, rfl, rfl, HRow1, hbr1⟩ := hrel
        by_cases hdl : d < 2
        · obtain ⟨D, hD⟩ : ∃ D : Int, 1 - 2 * (d : Int) = D := ⟨_, rfl⟩
          have hDb : -1 ≤ D ∧ D ≤ 1 := by omega
          have HD := Lib.hid hD
          rw [hD]
          have HTD : Hid (tpK (2 * t + d) = (Tn : Int) ∧ drK (2 * t + d) = D) := Lib.hid (by
            have h1 := HT.out
            unfold tpK drK
            rcases (by omega : t = 0 ∨ t = 1) with rfl | rfl
            · rcases (by omega : d = 0 ∨ d = 1) with rfl | rfl
              · exact ⟨by rw [if_pos (by omega)]; omega, by rw [if_pos (by omega)]; omega⟩
              · exact ⟨by rw [if_pos (by omega)]; omega, by rw [if_neg (by omega)]; omega⟩
            · rcases (by omega : d = 0 ∨ d = 1) with rfl | rfl
              · exact ⟨by rw [if_neg (by omega)]; omega, by rw [if_pos (by omega)]; omega⟩
              · exact ⟨by rw [if_neg (by omega)]; omega, by rw [if_neg (by omega)]; omega⟩)
          have HSt : Hid (prpK N js q h (2 * t + (d + 1)) = prpK N js q h (2 * t + d) ++ (refN N js q h (Tn : Int) D N).2.map (sgC (Tn : Int) D h 0)) := Lib.hid (by
            rw [← Nat.add_assoc, prpK, HTD.out.1, HTD.out.2]
            unfold wayN
            rw [Int.toNat_natCast])
          have hg0 := HLn.out (2 * t + d)
          obtain ⟨P0, hP0⟩ : ∃ P0, prpK N js q h (2 * t + d) = P0 := ⟨_, rfl⟩
          rw [hP0] at HSt hg0 HRow1 ⊢
          have hG5 : P0.length ≤ 1000000 := by omega
          have HM0 : Hid (numS 0 (P0 ++ (refN N js q h (Tn : Int) D 0).2.map (sgC (Tn : Int) D h 0)) = numS 0 P0) := Lib.hid (by simp [refN])
          clear hP0 hD HTD hg0
          go_wp2_with fail
          go_loopw [8, 13, 14] (fun v nv i wr => ∃ (k : Nat) (av : Option Addr) (cv : Nat), k ≤ N ∧ i = .int .i64 k ∧ nv = .int .i64 (refN N js q h (Tn : Int) D k).1 ∧ v = .slice av (numS 0 (P0 ++ (refN N js q h (Tn : Int) D k).2.map (sgC (Tn : Int) D h 0))).length cv ∧ Hid (wr.ownsRow wC.heap.size 51 9 (.slice av (numS 0 (P0 ++ (refN N js q h (Tn : Int) D k).2.map (sgC (Tn : Int) D h 0))).length cv) (numS 0 (P0 ++ (refN N js q h (Tn : Int) D k).2.map (sgC (Tn : Int) D h 0))).length (cl9 (numS 0 (P0 ++ (refN N js q h (Tn : Int) D k).2.map (sgC (Tn : Int) D h 0))))) ∧ Below wC.heap.size wC wr) (fun _ _ i _ => N - (intOf i).toNat)
          case atStart => exact ⟨0, av1, cv1, Nat.zero_le _, rfl, rfl, by rw [HM0.out], Lib.hid (by rw [HM0.out]; exact HRow1.out), hbr1⟩
          case round =>
            obtain ⟨k, av, cv, hk, rfl, rfl, rfl, HRow, hbr⟩ := hrel
            obtain ⟨wr, rfl⟩ : ∃ wx : World, wx = wr := ⟨_, rfl⟩
            have l0 := cell_below L0.out hbr
            have l1 := cell_below L1.out hbr
            have hbw := HB.out.trans (hbr.mono HB.out.size)
            by_cases hkl : k < N
            · have HNx : Hid (refN N js q h (Tn : Int) D (k + 1) = stpN N js q h (Tn : Int) D (refN N js q h (Tn : Int) D k) k) := Lib.hid rfl
              have hrl := HRl.out (Tn : Int) D k
              have HJu := Lib.hid (fun W hW => HJu0.out D k W hW)
              have HBg := Lib.hid (fun W => HBg0.out D k W hkl)
              have HDi := Lib.hid (fun W => HDi0.out D k W hkl)
              have HMu := Lib.hid (fun W (hW : Below w.heap.size w W) => show Calls Tryz.prog 28 #[.slice ae q.length cq, .int .i64 h, .int .i64 D, .int .i64 Tn, .int .i64 (begK N D k)] W (fun e w' => e = .returned (.int .i64 (vK N q h (Tn : Int) D k)) ∧ Below W.heap.size W w') from HMu0.out (Tn : Int) D (begK N D k) W hW)
              obtain ⟨N0, OUTL, hst⟩ : ∃ N0 OUTL, refN N js q h (Tn : Int) D k = (N0, OUTL) := ⟨_, _, rfl⟩
              have HNx : Hid (refN N js q h (Tn : Int) D (k + 1) = if vK N q h (Tn : Int) D k = (if jnB N D js k = true then 0 else N0) then ((if jnB N D js k = true then 0 else N0), OUTL) else (vK N q h (Tn : Int) D k, OUTL ++ [(dstK N D k, vK N q h (Tn : Int) D k)])) := Lib.hid (by rw [HNx.out, hst]; rfl)
              rw [hst] at HRow hrl ⊢
              obtain ⟨M, hM⟩ : ∃ M, numS 0 (P0 ++ OUTL.map (sgC (Tn : Int) D h 0)) = M := ⟨_, rfl⟩
              have HRow : Hid (wr.ownsRow wC.heap.size 51 9 (.slice av (numS 0 (P0 ++ OUTL.map (sgC (Tn : Int) D h 0))).length cv) (numS 0 (P0 ++ OUTL.map (sgC (Tn : Int) D h 0))).length (cl9 (numS 0 (P0 ++ OUTL.map (sgC (Tn : Int) D h 0))))) := HRow
              rw [hM] at HRow
              obtain ⟨n, hn⟩ : ∃ n, M.length = n := ⟨_, rfl⟩
              rw [hn] at HRow
              have hsl : (numS 0 (P0 ++ (N0, OUTL).2.map (sgC (Tn : Int) D h 0))).length = n := by rw [← hn, ← hM]
              rw [hsl]
              have hrl : OUTL.length ≤ k := hrl
              have hn9 : n ≤ 2000000 := by rw [← hn, ← hM, numS_len, List.length_append, List.length_map]; omega
              have HM := Lib.hid hM
              have Hn := Lib.hid hn
              have hki : (k : Int) < (N : Int) := by omega
              have hnw : IntKind.i64.wrap ((n : Int) + 1) = (n : Int) + 1 := IntWalk.i64_in _ (by omega)
              clear hst hM hn hsl HJu0 HBg0 HDi0 HMu0 HSt HM0 HRl HLn L0 L1
              generalize vK N q h (Tn : Int) D k = v at *
              generalize begK N D k = bk at *
              generalize dstK N D k = c at *
              obtain ⟨J, hJ⟩ : ∃ J, jnB N D js k = J := ⟨_, rfl⟩
              cases J with
              | true =>
                have HNx : Hid (refN N js q h (Tn : Int) D (k + 1) = if v = 0 then (0, OUTL) else (v, OUTL ++ [(c, v)])) := Lib.hid (by rw [HNx.out, hJ]; rfl)
                have HJu := Lib.hid (fun W (hW : Below w.heap.size w W) => by have := HJu.out W hW; rw [hJ] at this; exact this)
                have hbx : Below wr.heap.size wr wr := Below.refl _ _
                clear hJ
                by_cases hv : v = 0
                · have e8 : (v == 0) = true := by simp [hv]
                  have HNn : Hid (refN N js q h (Tn : Int) D (k + 1) = (0, OUTL)) := Lib.hid (by rw [HNx.out, if_pos hv])
                  have HMn : Hid ((numS 0 (P0 ++ (refN N js q h (Tn : Int) D (k + 1)).2.map (sgC (Tn : Int) D h 0))) = M ∧ (refN N js q h (Tn : Int) D (k + 1)).1 = 0) := Lib.hid ⟨by rw [HNn.out]; exact HM.out, by rw [HNn.out]⟩
                  clear hv HNx HK HCs HCe HDi HNn
                  go_wp2_with (first | (go_at_call 27; refine (HJu.out _ hbw).mono ?_; rintro e w9 ⟨rfl, hb9⟩; replace hbw := hbw.trans (hb9.mono hbw.size); replace l0 := cell_below l0 hb9; replace l1 := cell_below l1 hb9; replace hbx := hbx.trans (hb9.mono hbx.size); clear hb9) | (go_at_call 29; refine (HBg.out _).mono ?_; rintro e w9 ⟨rfl, hb9⟩; replace hbw := hbw.trans (hb9.mono hbw.size); replace l0 := cell_below l0 hb9; replace l1 := cell_below l1 hb9; replace hbx := hbx.trans (hb9.mono hbx.size); clear hb9) | (go_at_call 28; refine (HMu.out _ hbw).mono ?_; rintro e w9 ⟨rfl, hb9⟩; replace hbw := hbw.trans (hb9.mono hbw.size); replace l0 := cell_below l0 hb9; replace l1 := cell_below l1 hb9; replace hbx := hbx.trans (hb9.mono hbx.size); clear hb9))
                  go_roundw
                  case rel => exact ⟨k + 1, av, cv, by omega, by go_num, by rw [HMn.out.2], by rw [HMn.out.1, Hn.out], Lib.hid (by rw [HMn.out.1, Hn.out]; exact owns_belowI HRow.out hbx), hbr.trans (hbx.mono hbr.size)⟩
                  case measure => simp [intOf]; omega
                · have e8 : (v == 0) = false := beq_false_of_ne hv
                  have HNn : Hid (∀ kn vv : Int, kndK (Tn : Int) v = kn → (if (Tn : Int) = 1 then v else 0) = vv → n + 1 = (numS 0 (P0 ++ (refN N js q h (Tn : Int) D (k + 1)).2.map (sgC (Tn : Int) D h 0))).length ∧ cl9 M ++ [.int .i64 ((n : Int) + 1), .int .i64 kn, .int .i64 vv, .int .i64 c, .int .i64 D, .int .i64 Tn, .int .i64 h, .int .i64 (h + 1), .slice none 0 0] = cl9 (numS 0 (P0 ++ (refN N js q h (Tn : Int) D (k + 1)).2.map (sgC (Tn : Int) D h 0))) ∧ (refN N js q h (Tn : Int) D (k + 1)).1 = v) := Lib.hid fun kn vv e1 e2 => by
                    rw [HNx.out, if_neg hv]
                    show n + 1 = (numS 0 (P0 ++ (OUTL ++ [(c, v)]).map (sgC (Tn : Int) D h 0))).length ∧ cl9 M ++ _ = cl9 (numS 0 (P0 ++ (OUTL ++ [(c, v)]).map (sgC (Tn : Int) D h 0))) ∧ v = v
                    rw [List.map_append, List.map_cons, List.map_nil, ← List.append_assoc, numS_app, cl9_app, ← HM.out, List.length_append, ← Hn.out, ← HM.out, numS_len]
                    refine ⟨rfl, ?_, rfl⟩
                    unfold sgC
                    rw [e1, e2, Nat.zero_add]
                  clear hv HNx HM
                  go_upto_region 17 with (first | (go_at_call 27; refine (HJu.out _ hbw).mono ?_; rintro e w9 ⟨rfl, hb9⟩; replace hbw := hbw.trans (hb9.mono hbw.size); replace l0 := cell_below l0 hb9; replace l1 := cell_below l1 hb9; replace hbx := hbx.trans (hb9.mono hbx.size); clear hb9) | (go_at_call 29; refine (HBg.out _).mono ?_; rintro e w9 ⟨rfl, hb9⟩; replace hbw := hbw.trans (hb9.mono hbw.size); replace l0 := cell_below l0 hb9; replace l1 := cell_below l1 hb9; replace hbx := hbx.trans (hb9.mono hbx.size); clear hb9) | (go_at_call 28; refine (HMu.out _ hbw).mono ?_; rintro e w9 ⟨rfl, hb9⟩; replace hbw := hbw.trans (hb9.mono hbw.size); replace l0 := cell_below l0 hb9; replace l1 := cell_below l1 hb9; replace hbx := hbx.trans (hb9.mono hbx.size); clear hb9))
                  have HRow := Lib.hid (owns_belowI HRow.out hbx)
                  have hbr := hbr.trans (hbx.mono hbr.size)
                  obtain ⟨wz, rfl⟩ : ∃ wx : World, wx = w9 := ⟨_, rfl⟩
                  have ce := cell_below HCe.out hbr
                  have hze := block_lt ce
                  have hzl := block_lt l0
                  clear hbx HJu HBg HMu
                  go_cut [16] (fun p wx => ∃ gb, p = .pointer (some ⟨gb, 0, none⟩) ∧ wx.heap[gb]? = some (.cells #[.int .i64 ((n : Int) + 1), .int .i64 ek, .int .i64 0, .int .i64 c, .int .i64 D, .int .i64 Tn, .int .i64 h, .int .i64 (h + 1), .slice none 0 0] 51) ∧ wz.heap.size ≤ gb ∧ Below wz.heap.size wz wx)
                  case first =>
                    clear HRow HNn HK HCs
                    go_wp2_with fail
                    refine wp_region_held_drew (S := fun w' => Below wz.heap.size wz w') (by kernel_rfl) ((Below.refl _ _).drew) (fun hHeld => ?_)
                    refine takeU (i := 0) (some 49) (.slice av n cv) (by kernel_rfl) (by kernel_rfl) (by kernel_rfl) (by kernel_rfl) (by kernel_rfl) (fun _ => by kernel_rfl) (fun _ _ _ h => h) hHeld ?_
                    refine wpAnyH_take (i := 1) (oi := { dst := some 50, op := Go.Op.call { callee := Go.Callee.builtin Go.Builtin.len, args := #[Go.Operand.tmp 49], argTypes := #[25] }, type := 3, pos := "ref.go:399", after := #[{ on := 0, ground := Go.Ground.data }], guard := none }) (v := .int .i64 n) rfl (by kernel_rfl) (by kernel_rfl) (by kernel_rfl) (fun _ _ _ h => h) (.inl ⟨by kernel_rfl, fun w9 h9 => by
                      clear hHeld h9
                      go_simp⟩) hHeld ?_
                    refine wpAnyH_take (i := 2) (oi := { dst := some 51, op := Go.Op.binOp Go.BinOp.add 3 (Go.Operand.tmp 50) (Go.Operand.const (Go.Value.int Go.IntKind.i64 1)) 3, type := 3, pos := "ref.go:399", after := #[{ on := 1, ground := Go.Ground.data }], guard := none }) (v := .int .i64 ((n : Int) + 1)) rfl (by kernel_rfl) (by kernel_rfl) (by kernel_rfl) (fun _ _ _ h => h) (.inl ⟨by kernel_rfl, fun w9 h9 => by
                      clear hHeld h9
                      go_simp⟩) hHeld ?_
                    refine takeU (i := 3) (some 52) (.slice (some ⟨be, 0, none⟩) 3 3) (by kernel_rfl) (by kernel_rfl) (by kernel_rfl) (by kernel_rfl) (by kernel_rfl) (fun _ => by kernel_rfl) (fun _ _ _ h => h) hHeld ?_
                    refine takeU (i := 4) (some 53) (.int .i64 Tn) (by kernel_rfl) (by kernel_rfl) (by kernel_rfl) (by kernel_rfl) (by kernel_rfl) (fun _ => by kernel_rfl) (fun _ _ _ h => h) hHeld ?_
                    refine wpAnyH_take (i := 5) (oi := { dst := some 54, op := Go.Op.indexAddr 22 (Go.Operand.tmp 52) (Go.Operand.tmp 53), type := 0, pos := "ref.go:399", after := #[{ on := 3, ground := Go.Ground.data }, { on := 4, ground := Go.Ground.data }], guard := none }) (v := .pointer (some ⟨be, Tn, none⟩)) rfl (by kernel_rfl) (by kernel_rfl) (by kernel_rfl) (fun _ _ _ h => h) (.inl ⟨by kernel_rfl, fun w9 h9 => by
                      clear hHeld h9
                      go_simp⟩) hHeld ?_
                    refine wpAnyH_take (i := 6) (oi := { dst := some 55, op := Go.Op.load 3 (Go.Operand.tmp 54), type := 3, pos := "ref.go:399", after := #[{ on := 5, ground := Go.Ground.data }], guard := none }) (v := .int .i64 ek) rfl (by kernel_rfl) (by kernel_rfl) (by kernel_rfl) (fun _ _ _ h => h) (.inl ⟨by kernel_rfl, fun w9 h9 => by
                      clear hHeld
                      have d0 := (h9.cell (p := ⟨be, Tn, none⟩) hze).trans ce
                      clear h9
                      go_simp⟩) hHeld ?_
                    refine wpAnyH_take (i := 7) (oi := { dst := some 56, op := Go.Op.load 24 (Go.Operand.tmp 3), type := 24, pos := "ref.go:399", after := #[], guard := none }) (v := .agg #[.int .i64 N, .slice a js.length ca]) rfl (by kernel_rfl) (by kernel_rfl) (by kernel_rfl) (fun _ _ _ h => h) (.inl ⟨by kernel_rfl, fun w9 h9 => by
                      clear hHeld
                      have d0 := (h9.cell (p := ⟨w.heap.size, 0, none⟩) hzl).trans l0
                      have d1 := (h9.cell (p := ⟨w.heap.size, 1, none⟩) hzl).trans l1
                      clear h9
                      go_simp⟩) hHeld ?_
                    refine takeU (i := 8) (some 57) (.int .i64 D) (by kernel_rfl) (by kernel_rfl) (by kernel_rfl) (by kernel_rfl) (by kernel_rfl) (fun _ => by kernel_rfl) (fun _ _ _ h => h) hHeld ?_
                    refine takeU (i := 9) (some 58) (.int .i64 k) (by kernel_rfl) (by kernel_rfl) (by kernel_rfl) (by kernel_rfl) (by kernel_rfl) (fun _ => by kernel_rfl) (fun _ _ _ h => h) hHeld ?_
                    refine takeU (i := 11) (some 60) (.int .i64 D) (by kernel_rfl) (by kernel_rfl) (by kernel_rfl) (by kernel_rfl) (by kernel_rfl) (fun _ => by kernel_rfl) (fun _ _ _ h => h) hHeld ?_
                    refine takeU (i := 12) (some 61) (.int .i64 Tn) (by kernel_rfl) (by kernel_rfl) (by kernel_rfl) (by kernel_rfl) (by kernel_rfl) (fun _ => by kernel_rfl) (fun _ _ _ h => h) hHeld ?_
                    refine takeU (i := 13) (some 62) (.int .i64 h) (by kernel_rfl) (by kernel_rfl) (by kernel_rfl) (by kernel_rfl) (by kernel_rfl) (fun _ => by kernel_rfl) (fun _ _ _ h => h) hHeld ?_
                    refine takeU (i := 14) (some 63) (.int .i64 h) (by kernel_rfl) (by kernel_rfl) (by kernel_rfl) (by kernel_rfl) (by kernel_rfl) (fun _ => by kernel_rfl) (fun _ _ _ h => h) hHeld ?_
                    refine wpAnyH_take (i := 15) (oi := { dst := some 64, op := Go.Op.binOp Go.BinOp.add 3 (Go.Operand.tmp 63) (Go.Operand.const (Go.Value.int Go.IntKind.i64 1)) 3, type := 3, pos := "ref.go:399", after := #[{ on := 14, ground := Go.Ground.data }], guard := none }) (v := .int .i64 (h + 1)) rfl (by kernel_rfl) (by kernel_rfl) (by kernel_rfl) (fun _ _ _ h => h) (.inl ⟨by kernel_rfl, fun w9 h9 => by
                      clear hHeld h9
                      go_simp⟩) hHeld ?_
                    try simp only [Act.put, List.setIfInBounds_toArray, List.set_cons_zero, List.set_cons_succ]
                    refine wpAnyH_ready (rs := [10, 17]) (by kernel_rfl) (by simp) ?_
                    refine AllReadyH.cons (o := { dst := some 59, op := Go.Op.call { callee := Go.Callee.value (Go.Operand.func 30), args := #[Go.Operand.tmp 56, Go.Operand.tmp 57, Go.Operand.tmp 58], argTypes := #[24, 3, 3] }, type := 3, pos := "ref.go:399", after := #[{ on := 7, ground := Go.Ground.data }, { on := 8, ground := Go.Ground.data }, { on := 9, ground := Go.Ground.data }], guard := none }) rfl (fun K hK => ?_) (AllReadyH.cons (o := { dst := some 16, op := Go.Op.alloc 51, type := 0, pos := "ref.go:399", after := #[], guard := none }) rfl (fun K hK => ?_) AllReadyH.nil)
                    · go_simp
                      go_at_call 30
                      refine (HDi.out _).mono ?_
                      rintro e w109 ⟨rfl, hb109⟩
                      have hsz10 := hb109.size
                      refine hK.out _ _ (hHeld.trans (hb109.mono hHeld.size)) (fun hHeld => ?_)
                      clear hK K hb109
                      try simp only [Act.put, List.setIfInBounds_toArray, List.set_cons_zero, List.set_cons_succ]
                      refine wpAnyH_take (i := 16) (oi := { dst := some 65, op := Go.Op.build 51 #[(0, Go.Operand.tmp 51), (1, Go.Operand.tmp 55), (3, Go.Operand.tmp 59), (4, Go.Operand.tmp 60), (5, Go.Operand.tmp 61), (6, Go.Operand.tmp 62), (7, Go.Operand.tmp 64)], type := 51, pos := "ref.go:399", after := #[{ on := 2, ground := Go.Ground.data }, { on := 6, ground := Go.Ground.data }, { on := 10, ground := Go.Ground.data }, { on := 11, ground := Go.Ground.data }, { on := 12, ground := Go.Ground.data }, { on := 13, ground := Go.Ground.data }, { on := 15, ground := Go.Ground.data }], guard := none }) (v := .agg #[.int .i64 ((n : Int) + 1), .int .i64 ek, .int .i64 0, .int .i64 c, .int .i64 D, .int .i64 Tn, .int .i64 h, .int .i64 (h + 1), .slice none 0 0]) rfl (by kernel_rfl) (by kernel_rfl) (by kernel_rfl) (fun _ _ _ h => h) (.inl ⟨by kernel_rfl, fun w9 h9 => by
                        clear hHeld h9
                        go_simp⟩) hHeld ?_
                      try simp only [Act.put, List.setIfInBounds_toArray, List.set_cons_zero, List.set_cons_succ]
                      refine wpAnyH_ready (rs := [17]) (by kernel_rfl) (by simp) ?_
                      refine AllReadyH.cons (o := { dst := some 16, op := Go.Op.alloc 51, type := 0, pos := "ref.go:399", after := #[], guard := none }) rfl (fun K hK => ?_) AllReadyH.nil
                      go_simp
                      have hA0 := hHeld
                      refine hK.out _ _ (hHeld.alloc hHeld.size _) (fun hHeld => ?_)
                      clear hK K
                      try simp only [Act.put, List.setIfInBounds_toArray, List.set_cons_zero, List.set_cons_succ]
                      have hx17 : (w109.alloc (.cells #[.int .i64 0, .int .i64 0, .int .i64 0, .int .i64 0, .int .i64 0, .int .i64 0, .int .i64 0, .int .i64 0, .slice none 0 0] 51)).heap[w109.heap.size]? = some (.cells #[.int .i64 0, .int .i64 0, .int .i64 0, .int .i64 0, .int .i64 0, .int .i64 0, .int .i64 0, .int .i64 0, .slice none 0 0] 51 (0, 0)) := heap_alloc_new w109 _
                      have hBz : wz.heap.size ≤ w109.heap.size := by simpa using hsz10
                      try simp only [Act.put, List.setIfInBounds_toArray, List.set_cons_zero, List.set_cons_succ]
                      refine wpAnyH_ready (rs := [18]) (by kernel_rfl) (by simp) ?_
                      refine AllReadyH.cons (o := { dst := none, op := Go.Op.store 51 (Go.Operand.tmp 16) (Go.Operand.tmp 65), type := 0, pos := "ref.go:399", after := #[{ on := 17, ground := Go.Ground.data }, { on := 16, ground := Go.Ground.data }, { on := 10, ground := Go.Ground.chain }, { on := 0, ground := Go.Ground.phase }, { on := 1, ground := Go.Ground.phase }, { on := 2, ground := Go.Ground.phase }, { on := 3, ground := Go.Ground.phase }, { on := 4, ground := Go.Ground.phase }, { on := 5, ground := Go.Ground.phase }, { on := 6, ground := Go.Ground.phase }, { on := 7, ground := Go.Ground.phase }, { on := 8, ground := Go.Ground.phase }, { on := 9, ground := Go.Ground.phase }, { on := 10, ground := Go.Ground.phase }, { on := 11, ground := Go.Ground.phase }, { on := 12, ground := Go.Ground.phase }, { on := 13, ground := Go.Ground.phase }, { on := 14, ground := Go.Ground.phase }, { on := 15, ground := Go.Ground.phase }, { on := 16, ground := Go.Ground.phase }, { on := 17, ground := Go.Ground.phase }], guard := none }) rfl (fun K hK => ?_) AllReadyH.nil
                      obtain ⟨wS, hwS⟩ : ∃ wS, w109.alloc (.cells #[.int .i64 0, .int .i64 0, .int .i64 0, .int .i64 0, .int .i64 0, .int .i64 0, .int .i64 0, .int .i64 0, .slice none 0 0] 51) = wS := ⟨_, rfl⟩
                      rw [hwS] at hHeld hx17 ⊢
                      clear hwS
                      have y0 := heapc hx17 (i := 0) (v := .int .i64 0) rfl
                      have g0 : wS.frozen? ⟨w109.heap.size, 0, none⟩ = false := by simp [World.frozen?, hx17]
                      have y1 := heapc hx17 (i := 1) (v := .int .i64 0) rfl
                      have g1 : wS.frozen? ⟨w109.heap.size, 1, none⟩ = false := by simp [World.frozen?, hx17]
                      have y2 := heapc hx17 (i := 2) (v := .int .i64 0) rfl
                      have g2 : wS.frozen? ⟨w109.heap.size, 2, none⟩ = false := by simp [World.frozen?, hx17]
                      have y3 := heapc hx17 (i := 3) (v := .int .i64 0) rfl
                      have g3 : wS.frozen? ⟨w109.heap.size, 3, none⟩ = false := by simp [World.frozen?, hx17]
                      have y4 := heapc hx17 (i := 4) (v := .int .i64 0) rfl
                      have g4 : wS.frozen? ⟨w109.heap.size, 4, none⟩ = false := by simp [World.frozen?, hx17]
                      have y5 := heapc hx17 (i := 5) (v := .int .i64 0) rfl
                      have g5 : wS.frozen? ⟨w109.heap.size, 5, none⟩ = false := by simp [World.frozen?, hx17]
                      have y6 := heapc hx17 (i := 6) (v := .int .i64 0) rfl
                      have g6 : wS.frozen? ⟨w109.heap.size, 6, none⟩ = false := by simp [World.frozen?, hx17]
                      have y7 := heapc hx17 (i := 7) (v := .int .i64 0) rfl
                      have g7 : wS.frozen? ⟨w109.heap.size, 7, none⟩ = false := by simp [World.frozen?, hx17]
                      have y8 := heapc hx17 (i := 8) (v := .slice none 0 0) rfl
                      have g8 : wS.frozen? ⟨w109.heap.size, 8, none⟩ = false := by simp [World.frozen?, hx17]
                      go_simp
                      have hset := Lib.hid (heap_set9 hx17 (.int .i64 ((n : Int) + 1)) (.int .i64 ek) (.int .i64 0) (.int .i64 c) (.int .i64 D) (.int .i64 Tn) (.int .i64 h) (.int .i64 (h + 1)) (.slice none 0 0))
                      refine hK.out _ _ (((((((((hHeld.setCell (p := ⟨w109.heap.size, 0, none⟩) hBz _).setCell (p := ⟨w109.heap.size, 1, none⟩) hBz _).setCell (p := ⟨w109.heap.size, 2, none⟩) hBz _).setCell (p := ⟨w109.heap.size, 3, none⟩) hBz _).setCell (p := ⟨w109.heap.size, 4, none⟩) hBz _).setCell (p := ⟨w109.heap.size, 5, none⟩) hBz _).setCell (p := ⟨w109.heap.size, 6, none⟩) hBz _).setCell (p := ⟨w109.heap.size, 7, none⟩) hBz _).setCell (p := ⟨w109.heap.size, 8, none⟩) hBz _) (fun hHeld => ?_)
                      clear hK K
                      try simp only [Act.put, List.setIfInBounds_toArray, List.set_cons_zero, List.set_cons_succ]
                      refine wpAnyH_done (by kernel_rfl) ?_ _
                      try simp only [Act.put, List.setIfInBounds_toArray, List.set_cons_zero, List.set_cons_succ]
                      go_wp2_with fail
                      go_meet
                      exact ⟨w109.heap.size, rfl, hset.out, hBz, hHeld⟩
                    · go_simp
                      have hA0 := hHeld
                      refine hK.out _ _ (hHeld.alloc hHeld.size _) (fun hHeld => ?_)
                      clear hK K
                      try simp only [Act.put, List.setIfInBounds_toArray, List.set_cons_zero, List.set_cons_succ]
                      have hx17 : ((wz.alloc (.cells #[.int .i64 0, .int .i64 0, .int .i64 0, .int .i64 0, .int .i64 0, .int .i64 0, .int .i64 0, .int .i64 0, .slice none 0 0] 51)).drew).heap[wz.heap.size]? = some (.cells #[.int .i64 0, .int .i64 0, .int .i64 0, .int .i64 0, .int .i64 0, .int .i64 0, .int .i64 0, .int .i64 0, .slice none 0 0] 51 (0, 0)) := heap_alloc_new wz _
                      have hBz : wz.heap.size ≤ wz.heap.size := Nat.le_refl _
                      try simp only [Act.put, List.setIfInBounds_toArray, List.set_cons_zero, List.set_cons_succ]
                      refine wpAnyH_ready (rs := [10]) (by kernel_rfl) (by simp) ?_
                      refine AllReadyH.cons (o := { dst := some 59, op := Go.Op.call { callee := Go.Callee.value (Go.Operand.func 30), args := #[Go.Operand.tmp 56, Go.Operand.tmp 57, Go.Operand.tmp 58], argTypes := #[24, 3, 3] }, type := 3, pos := "ref.go:399", after := #[{ on := 7, ground := Go.Ground.data }, { on := 8, ground := Go.Ground.data }, { on := 9, ground := Go.Ground.data }], guard := none }) rfl (fun K hK => ?_) AllReadyH.nil
                      go_simp
                      go_at_call 30
                      refine (HDi.out _).mono ?_
                      rintro e w109 ⟨rfl, hb109⟩
                      have hsz10 := hb109.size
                      replace hx17 := heap_below hx17 hb109
                      refine hK.out _ _ (hHeld.trans (hb109.mono hHeld.size)) (fun hHeld => ?_)
                      clear hK K hb109
                      try simp only [Act.put, List.setIfInBounds_toArray, List.set_cons_zero, List.set_cons_succ]
                      refine wpAnyH_take (i := 16) (oi := { dst := some 65, op := Go.Op.build 51 #[(0, Go.Operand.tmp 51), (1, Go.Operand.tmp 55), (3, Go.Operand.tmp 59), (4, Go.Operand.tmp 60), (5, Go.Operand.tmp 61), (6, Go.Operand.tmp 62), (7, Go.Operand.tmp 64)], type := 51, pos := "ref.go:399", after := #[{ on := 2, ground := Go.Ground.data }, { on := 6, ground := Go.Ground.data }, { on := 10, ground := Go.Ground.data }, { on := 11, ground := Go.Ground.data }, { on := 12, ground := Go.Ground.data }, { on := 13, ground := Go.Ground.data }, { on := 15, ground := Go.Ground.data }], guard := none }) (v := .agg #[.int .i64 ((n : Int) + 1), .int .i64 ek, .int .i64 0, .int .i64 c, .int .i64 D, .int .i64 Tn, .int .i64 h, .int .i64 (h + 1), .slice none 0 0]) rfl (by kernel_rfl) (by kernel_rfl) (by kernel_rfl) (fun _ _ _ h => h) (.inl ⟨by kernel_rfl, fun w9 h9 => by
                        clear hHeld h9
                        go_simp⟩) hHeld ?_
                      try simp only [Act.put, List.setIfInBounds_toArray, List.set_cons_zero, List.set_cons_succ]
                      refine wpAnyH_ready (rs := [18]) (by kernel_rfl) (by simp) ?_
                      refine AllReadyH.cons (o := { dst := none, op := Go.Op.store 51 (Go.Operand.tmp 16) (Go.Operand.tmp 65), type := 0, pos := "ref.go:399", after := #[{ on := 17, ground := Go.Ground.data }, { on := 16, ground := Go.Ground.data }, { on := 10, ground := Go.Ground.chain }, { on := 0, ground := Go.Ground.phase }, { on := 1, ground := Go.Ground.phase }, { on := 2, ground := Go.Ground.phase }, { on := 3, ground := Go.Ground.phase }, { on := 4, ground := Go.Ground.phase }, { on := 5, ground := Go.Ground.phase }, { on := 6, ground := Go.Ground.phase }, { on := 7, ground := Go.Ground.phase }, { on := 8, ground := Go.Ground.phase }, { on := 9, ground := Go.Ground.phase }, { on := 10, ground := Go.Ground.phase }, { on := 11, ground := Go.Ground.phase }, { on := 12, ground := Go.Ground.phase }, { on := 13, ground := Go.Ground.phase }, { on := 14, ground := Go.Ground.phase }, { on := 15, ground := Go.Ground.phase }, { on := 16, ground := Go.Ground.phase }, { on := 17, ground := Go.Ground.phase }], guard := none }) rfl (fun K hK => ?_) AllReadyH.nil
                      obtain ⟨wS, hwS⟩ : ∃ wS, w109 = wS := ⟨_, rfl⟩
                      rw [hwS] at hHeld hx17 ⊢
                      clear hwS
                      have y0 := heapc hx17 (i := 0) (v := .int .i64 0) rfl
                      have g0 : wS.frozen? ⟨wz.heap.size, 0, none⟩ = false := by simp [World.frozen?, hx17]
                      have y1 := heapc hx17 (i := 1) (v := .int .i64 0) rfl
                      have g1 : wS.frozen? ⟨wz.heap.size, 1, none⟩ = false := by simp [World.frozen?, hx17]
                      have y2 := heapc hx17 (i := 2) (v := .int .i64 0) rfl
                      have g2 : wS.frozen? ⟨wz.heap.size, 2, none⟩ = false := by simp [World.frozen?, hx17]
                      have y3 := heapc hx17 (i := 3) (v := .int .i64 0) rfl
                      have g3 : wS.frozen? ⟨wz.heap.size, 3, none⟩ = false := by simp [World.frozen?, hx17]
                      have y4 := heapc hx17 (i := 4) (v := .int .i64 0) rfl
                      have g4 : wS.frozen? ⟨wz.heap.size, 4, none⟩ = false := by simp [World.frozen?, hx17]
                      have y5 := heapc hx17 (i := 5) (v := .int .i64 0) rfl
                      have g5 : wS.frozen? ⟨wz.heap.size, 5, none⟩ = false := by simp [World.frozen?, hx17]
                      have y6 := heapc hx17 (i := 6) (v := .int .i64 0) rfl
                      have g6 : wS.frozen? ⟨wz.heap.size, 6, none⟩ = false := by simp [World.frozen?, hx17]
                      have y7 := heapc hx17 (i := 7) (v := .int .i64 0) rfl
                      have g7 : wS.frozen? ⟨wz.heap.size, 7, none⟩ = false := by simp [World.frozen?, hx17]
                      have y8 := heapc hx17 (i := 8) (v := .slice none 0 0) rfl
                      have g8 : wS.frozen? ⟨wz.heap.size, 8, none⟩ = false := by simp [World.frozen?, hx17]
                      go_simp
                      have hset := Lib.hid (heap_set9 hx17 (.int .i64 ((n : Int) + 1)) (.int .i64 ek) (.int .i64 0) (.int .i64 c) (.int .i64 D) (.int .i64 Tn) (.int .i64 h) (.int .i64 (h + 1)) (.slice none 0 0))
                      refine hK.out _ _ (((((((((hHeld.setCell (p := ⟨wz.heap.size, 0, none⟩) hBz _).setCell (p := ⟨wz.heap.size, 1, none⟩) hBz _).setCell (p := ⟨wz.heap.size, 2, none⟩) hBz _).setCell (p := ⟨wz.heap.size, 3, none⟩) hBz _).setCell (p := ⟨wz.heap.size, 4, none⟩) hBz _).setCell (p := ⟨wz.heap.size, 5, none⟩) hBz _).setCell (p := ⟨wz.heap.size, 6, none⟩) hBz _).setCell (p := ⟨wz.heap.size, 7, none⟩) hBz _).setCell (p := ⟨wz.heap.size, 8, none⟩) hBz _) (fun hHeld => ?_)
                      clear hK K
                      try simp only [Act.put, List.setIfInBounds_toArray, List.set_cons_zero, List.set_cons_succ]
                      refine wpAnyH_done (by kernel_rfl) ?_ _
                      try simp only [Act.put, List.setIfInBounds_toArray, List.set_cons_zero, List.set_cons_succ]
                      go_wp2_with fail
                      go_meet
                      exact ⟨wz.heap.size, rfl, hset.out, hBz, hHeld⟩
                  case rest =>
                    obtain ⟨gb, rfl, hset, hgb, hbz⟩ := hcut
                    obtain ⟨wx9, rfl⟩ : ∃ wx : World, wx = wc := ⟨_, rfl⟩
                    clear ce hze hzl l0 l1 HCe HDi hbw
                    by_cases hv0 : v = 0
                    · have e0 : (v != 0) = false := by simp [hv0]
                      have z0 := heapc hset (i := 0) rfl
                      have z1 := heapc hset (i := 1) rfl
                      have z2 := heapc hset (i := 2) rfl
                      have z3 := heapc hset (i := 3) rfl
                      have z4 := heapc hset (i := 4) rfl
                      have z5 := heapc hset (i := 5) rfl
                      have z6 := heapc hset (i := 6) rfl
                      have z7 := heapc hset (i := 7) rfl
                      have z8 := heapc hset (i := 8) rfl
                      have HRow := Lib.hid (owns_belowI HRow.out hbz)
                      have hbr := hbr.trans (hbz.mono hbr.size)
                      have hfa : kndK (Tn : Int) v = ek ∧ (if (Tn : Int) = 1 then v else 0) = 0 := by
                        rw [hv0]
                        exact ⟨HK.out.1, by split <;> rfl⟩
                      have HFa := Lib.hid hfa
                      obtain ⟨wV, rfl⟩ : ∃ wx : World, wx = wx9 := ⟨_, rfl⟩
                      clear hset hfa hv0 hbz HK HCs
                      have hown := Lib.hid (HRow.out.alloc (.cells #[.int .i64 ((n : Int) + 1), .int .i64 ek, .int .i64 0, .int .i64 c, .int .i64 D, .int .i64 Tn, .int .i64 h, .int .i64 (h + 1), .slice none 0 0] 51))
                      have hbs := hbr.size
                      have HAP := Lib.hid (HNn.out ek 0 HFa.out.1 HFa.out.2)
                      go_wp2_with (first | (at_builtin; go_loud (refine wpList_append_lies _ rfl _ _ 25 rfl wC.heap.size 51 n0 _ 9 88 Tryz.underlying25 hi hz0 hz1 hz2 rfl (by decide) (.slice _ n cv) n _ (by rfl) hown.out ⟨wV.heap.size, 0, none⟩ 1 1 [.int .i64 ((n : Int) + 1), .int .i64 ek, .int .i64 0, .int .i64 c, .int .i64 D, .int .i64 Tn, .int .i64 h, .int .i64 (h + 1), .slice none 0 0] (by rfl) (by rfl) ?d1 ?d2 (by decide) ?d3 ?d4 ?d5 _ rfl ?_)))
                      case d1 =>
                        refine World.news_of_block (cs := #[.int .i64 ((n : Int) + 1), .int .i64 ek, .int .i64 0, .int .i64 c, .int .i64 D, .int .i64 Tn, .int .i64 h, .int .i64 (h + 1), .slice none 0 0]) (t := 51) (fr := (0, 0)) ?_
                        exact heap_alloc_new _ _
                      case d2 => simp [Value.oneCell']
                      case d3 => unfold maxLen; omega
                      case d4 => omega
                      case d5 => first | (simp; omega) | simp | omega
                      intro g6 c6 w6 hown6 hgrow6 hat6 hlt6
                      have hb6 : Below wC.heap.size wC w6 := ((hbr.alloc hbs _).grown hgrow6 (by first | (simp; omega) | simp | omega) (fun z hz => owns_blockI hown.out hz))
                      go_wp2_with fail
                      go_roundw
                      case rel => exact ⟨k + 1, some ⟨g6, 0, none⟩, c6, by omega, by go_num, by rw [HAP.out.2.2], by rw [← HAP.out.1], Lib.hid (by rw [← HAP.out.1, ← HAP.out.2.1]; exact hown6), hb6⟩
                      case measure => simp [intOf]; omega
                    · have e0 : (v != 0) = true := by simp [hv0]
                      by_cases hT1 : Tn = 1
                      · have e1 : ((Tn : Int) == 1) = true := by simp [hT1]
                        have z0 := heapc hset (i := 0) rfl
                        have z1 := heapc hset (i := 1) rfl
                        have z2 := heapc hset (i := 2) rfl
                        have f1 : wx9.frozen? ⟨gb, 1, none⟩ = false := by simp [World.frozen?, hset]
                        have f2 : wx9.frozen? ⟨gb, 2, none⟩ = false := by simp [World.frozen?, hset]
                        have s1 := cell_below HCs.out (hbr.trans (hbz.mono hbr.size))
                        have hfa : kndK (Tn : Int) v = sk ∧ (if (Tn : Int) = 1 then v else 0) = v := ⟨HK.out.2 v hv0, by rw [if_pos (by omega)]⟩
                        have HFa := Lib.hid hfa
                        clear hT1 hfa hv0 HK HCs
                        go_upto_region 22 with (fail)
                        have hst2 : ((wx9.setCell ⟨gb, 1, none⟩ (.int .i64 sk)).setCell ⟨gb, 2, none⟩ (.int .i64 v)).heap[gb]? = some (.cells #[.int .i64 ((n : Int) + 1), .int .i64 sk, .int .i64 v, .int .i64 c, .int .i64 D, .int .i64 Tn, .int .i64 h, .int .i64 (h + 1), .slice none 0 0] 51) := (heap_setCell_same _ gb 2 _ 51 (.int .i64 v) (heap_setCell_same wx9 gb 1 _ 51 (.int .i64 sk) hset))
                        have hbv := ((hbz.setCell (p := ⟨gb, 1, none⟩) hgb (.int .i64 sk)).setCell (p := ⟨gb, 2, none⟩) hgb (.int .i64 v))
                        obtain ⟨wV, hwV⟩ : ∃ wV, ((wx9.setCell ⟨gb, 1, none⟩ (.int .i64 sk)).setCell ⟨gb, 2, none⟩ (.int .i64 v)) = wV := ⟨_, rfl⟩
                        rw [hwV] at hst2 hbv ⊢
                        have HRow := Lib.hid (owns_belowI HRow.out hbv)
                        have hbr := hbr.trans (hbv.mono hbr.size)
                        clear z0 z1 z2 f1 f2 s1 hset hwV
                        have z0 := heapc hst2 (i := 0) rfl
                        have z1 := heapc hst2 (i := 1) rfl
                        have z2 := heapc hst2 (i := 2) rfl
                        have z3 := heapc hst2 (i := 3) rfl
                        have z4 := heapc hst2 (i := 4) rfl
                        have z5 := heapc hst2 (i := 5) rfl
                        have z6 := heapc hst2 (i := 6) rfl
                        have z7 := heapc hst2 (i := 7) rfl
                        have z8 := heapc hst2 (i := 8) rfl
                        clear hst2
                        have hown := Lib.hid (HRow.out.alloc (.cells #[.int .i64 ((n : Int) + 1), .int .i64 sk, .int .i64 v, .int .i64 c, .int .i64 D, .int .i64 Tn, .int .i64 h, .int .i64 (h + 1), .slice none 0 0] 51))
                        have hbs := hbr.size
                        have HAP := Lib.hid (HNn.out sk v HFa.out.1 HFa.out.2)
                        go_wp2_with (first | (at_builtin; go_loud (refine wpList_append_lies _ rfl _ _ 25 rfl wC.heap.size 51 n0 _ 9 88 Tryz.underlying25 hi hz0 hz1 hz2 rfl (by decide) (.slice _ n cv) n _ (by rfl) hown.out ⟨wV.heap.size, 0, none⟩ 1 1 [.int .i64 ((n : Int) + 1), .int .i64 sk, .int .i64 v, .int .i64 c, .int .i64 D, .int .i64 Tn, .int .i64 h, .int .i64 (h + 1), .slice none 0 0] (by rfl) (by rfl) ?d1 ?d2 (by decide) ?d3 ?d4 ?d5 _ rfl ?_)))
                        case d1 =>
                          refine World.news_of_block (cs := #[.int .i64 ((n : Int) + 1), .int .i64 sk, .int .i64 v, .int .i64 c, .int .i64 D, .int .i64 Tn, .int .i64 h, .int .i64 (h + 1), .slice none 0 0]) (t := 51) (fr := (0, 0)) ?_
                          exact heap_alloc_new _ _
                        case d2 => simp [Value.oneCell']
                        case d3 => unfold maxLen; omega
                        case d4 => omega
                        case d5 => first | (simp; omega) | simp | omega
                        intro g6 c6 w6 hown6 hgrow6 hat6 hlt6
                        have hb6 : Below wC.heap.size wC w6 := ((hbr.alloc hbs _).grown hgrow6 (by first | (simp; omega) | simp | omega) (fun z hz => owns_blockI hown.out hz))
                        go_wp2_with fail
                        go_roundw
                        case rel => exact ⟨k + 1, some ⟨g6, 0, none⟩, c6, by omega, by go_num, by rw [HAP.out.2.2], by rw [← HAP.out.1], Lib.hid (by rw [← HAP.out.1, ← HAP.out.2.1]; exact hown6), hb6⟩
                        case measure => simp [intOf]; omega
                      · have e1 : ((Tn : Int) == 1) = false := by simp; omega
                        have z0 := heapc hset (i := 0) rfl
                        have z1 := heapc hset (i := 1) rfl
                        have z2 := heapc hset (i := 2) rfl
                        have f1 : wx9.frozen? ⟨gb, 1, none⟩ = false := by simp [World.frozen?, hset]
                        have f2 : wx9.frozen? ⟨gb, 2, none⟩ = false := by simp [World.frozen?, hset]
                        have s1 := cell_below HCs.out (hbr.trans (hbz.mono hbr.size))
                        have hfa : kndK (Tn : Int) v = sk ∧ (if (Tn : Int) = 1 then v else 0) = 0 := ⟨HK.out.2 v hv0, by rw [if_neg (by omega)]⟩
                        have HFa := Lib.hid hfa
                        clear hT1 hfa hv0 HK HCs
                        go_upto_region 22 with (fail)
                        have hst2 : (wx9.setCell ⟨gb, 1, none⟩ (.int .i64 sk)).heap[gb]? = some (.cells #[.int .i64 ((n : Int) + 1), .int .i64 sk, .int .i64 0, .int .i64 c, .int .i64 D, .int .i64 Tn, .int .i64 h, .int .i64 (h + 1), .slice none 0 0] 51) := (heap_setCell_same wx9 gb 1 _ 51 (.int .i64 sk) hset)
                        have hbv := (hbz.setCell (p := ⟨gb, 1, none⟩) hgb (.int .i64 sk))
                        obtain ⟨wV, hwV⟩ : ∃ wV, (wx9.setCell ⟨gb, 1, none⟩ (.int .i64 sk)) = wV := ⟨_, rfl⟩
                        rw [hwV] at hst2 hbv ⊢
                        have HRow := Lib.hid (owns_belowI HRow.out hbv)
                        have hbr := hbr.trans (hbv.mono hbr.size)
                        clear z0 z1 z2 f1 f2 s1 hset hwV
                        have z0 := heapc hst2 (i := 0) rfl
                        have z1 := heapc hst2 (i := 1) rfl
                        have z2 := heapc hst2 (i := 2) rfl
                        have z3 := heapc hst2 (i := 3) rfl
                        have z4 := heapc hst2 (i := 4) rfl
                        have z5 := heapc hst2 (i := 5) rfl
                        have z6 := heapc hst2 (i := 6) rfl
                        have z7 := heapc hst2 (i := 7) rfl
                        have z8 := heapc hst2 (i := 8) rfl
                        clear hst2
                        have hown := Lib.hid (HRow.out.alloc (.cells #[.int .i64 ((n : Int) + 1), .int .i64 sk, .int .i64 0, .int .i64 c, .int .i64 D, .int .i64 Tn, .int .i64 h, .int .i64 (h + 1), .slice none 0 0] 51))
                        have hbs := hbr.size
                        have HAP := Lib.hid (HNn.out sk 0 HFa.out.1 HFa.out.2)
                        go_wp2_with (first | (at_builtin; go_loud (refine wpList_append_lies _ rfl _ _ 25 rfl wC.heap.size 51 n0 _ 9 88 Tryz.underlying25 hi hz0 hz1 hz2 rfl (by decide) (.slice _ n cv) n _ (by rfl) hown.out ⟨wV.heap.size, 0, none⟩ 1 1 [.int .i64 ((n : Int) + 1), .int .i64 sk, .int .i64 0, .int .i64 c, .int .i64 D, .int .i64 Tn, .int .i64 h, .int .i64 (h + 1), .slice none 0 0] (by rfl) (by rfl) ?d1 ?d2 (by decide) ?d3 ?d4 ?d5 _ rfl ?_)))
                        case d1 =>
                          refine World.news_of_block (cs := #[.int .i64 ((n : Int) + 1), .int .i64 sk, .int .i64 0, .int .i64 c, .int .i64 D, .int .i64 Tn, .int .i64 h, .int .i64 (h + 1), .slice none 0 0]) (t := 51) (fr := (0, 0)) ?_
                          exact heap_alloc_new _ _
                        case d2 => simp [Value.oneCell']
                        case d3 => unfold maxLen; omega
                        case d4 => omega
                        case d5 => first | (simp; omega) | simp | omega
                        intro g6 c6 w6 hown6 hgrow6 hat6 hlt6
                        have hb6 : Below wC.heap.size wC w6 := ((hbr.alloc hbs _).grown hgrow6 (by first | (simp; omega) | simp | omega) (fun z hz => owns_blockI hown.out hz))
                        go_wp2_with fail
                        go_roundw
                        case rel => exact ⟨k + 1, some ⟨g6, 0, none⟩, c6, by omega, by go_num, by rw [HAP.out.2.2], by rw [← HAP.out.1], Lib.hid (by rw [← HAP.out.1, ← HAP.out.2.1]; exact hown6), hb6⟩
                        case measure => simp [intOf]; omega
              | false =>
                have HNx : Hid (refN N js q h (Tn : Int) D (k + 1) = if v = N0 then (N0, OUTL) else (v, OUTL ++ [(c, v)])) := Lib.hid (by rw [HNx.out, hJ]; rfl)
                have HJu := Lib.hid (fun W (hW : Below w.heap.size w W) => by have := HJu.out W hW; rw [hJ] at this; exact this)
                have hbx : Below wr.heap.size wr wr := Below.refl _ _
                clear hJ
                by_cases hv : v = N0
                · have e8 : (v == N0) = true := by simp [hv]
                  have HNn : Hid (refN N js q h (Tn : Int) D (k + 1) = (N0, OUTL)) := Lib.hid (by rw [HNx.out, if_pos hv])
                  have HMn : Hid ((numS 0 (P0 ++ (refN N js q h (Tn : Int) D (k + 1)).2.map (sgC (Tn : Int) D h 0))) = M ∧ (refN N js q h (Tn : Int) D (k + 1)).1 = N0) := Lib.hid ⟨by rw [HNn.out]; exact HM.out, by rw [HNn.out]⟩
                  clear hv HNx HK HCs HCe HDi HNn
                  go_wp2_with (first | (go_at_call 27; refine (HJu.out _ hbw).mono ?_; rintro e w9 ⟨rfl, hb9⟩; replace hbw := hbw.trans (hb9.mono hbw.size); replace l0 := cell_below l0 hb9; replace l1 := cell_below l1 hb9; replace hbx := hbx.trans (hb9.mono hbx.size); clear hb9) | (go_at_call 29; refine (HBg.out _).mono ?_; rintro e w9 ⟨rfl, hb9⟩; replace hbw := hbw.trans (hb9.mono hbw.size); replace l0 := cell_below l0 hb9; replace l1 := cell_below l1 hb9; replace hbx := hbx.trans (hb9.mono hbx.size); clear hb9) | (go_at_call 28; refine (HMu.out _ hbw).mono ?_; rintro e w9 ⟨rfl, hb9⟩; replace hbw := hbw.trans (hb9.mono hbw.size); replace l0 := cell_below l0 hb9; replace l1 := cell_below l1 hb9; replace hbx := hbx.trans (hb9.mono hbx.size); clear hb9))
                  go_roundw
                  case rel => exact ⟨k + 1, av, cv, by omega, by go_num, by rw [HMn.out.2], by rw [HMn.out.1, Hn.out], Lib.hid (by rw [HMn.out.1, Hn.out]; exact owns_belowI HRow.out hbx), hbr.trans (hbx.mono hbr.size)⟩
                  case measure => simp [intOf]; omega
                · have e8 : (v == N0) = false := beq_false_of_ne hv
                  have HNn : Hid (∀ kn vv : Int, kndK (Tn : Int) v = kn → (if (Tn : Int) = 1 then v else 0) = vv → n + 1 = (numS 0 (P0 ++ (refN N js q h (Tn : Int) D (k + 1)).2.map (sgC (Tn : Int) D h 0))).length ∧ cl9 M ++ [.int .i64 ((n : Int) + 1), .int .i64 kn, .int .i64 vv, .int .i64 c, .int .i64 D, .int .i64 Tn, .int .i64 h, .int .i64 (h + 1), .slice none 0 0] = cl9 (numS 0 (P0 ++ (refN N js q h (Tn : Int) D (k + 1)).2.map (sgC (Tn : Int) D h 0))) ∧ (refN N js q h (Tn : Int) D (k + 1)).1 = v) := Lib.hid fun kn vv e1 e2 => by
                    rw [HNx.out, if_neg hv]
                    show n + 1 = (numS 0 (P0 ++ (OUTL ++ [(c, v)]).map (sgC (Tn : Int) D h 0))).length ∧ cl9 M ++ _ = cl9 (numS 0 (P0 ++ (OUTL ++ [(c, v)]).map (sgC (Tn : Int) D h 0))) ∧ v = v
                    rw [List.map_append, List.map_cons, List.map_nil, ← List.append_assoc, numS_app, cl9_app, ← HM.out, List.length_append, ← Hn.out, ← HM.out, numS_len]
                    refine ⟨rfl, ?_, rfl⟩
                    unfold sgC
                    rw [e1, e2, Nat.zero_add]
                  clear hv HNx HM
                  go_upto_region 17 with (first | (go_at_call 27; refine (HJu.out _ hbw).mono ?_; rintro e w9 ⟨rfl, hb9⟩; replace hbw := hbw.trans (hb9.mono hbw.size); replace l0 := cell_below l0 hb9; replace l1 := cell_below l1 hb9; replace hbx := hbx.trans (hb9.mono hbx.size); clear hb9) | (go_at_call 29; refine (HBg.out _).mono ?_; rintro e w9 ⟨rfl, hb9⟩; replace hbw := hbw.trans (hb9.mono hbw.size); replace l0 := cell_below l0 hb9; replace l1 := cell_below l1 hb9; replace hbx := hbx.trans (hb9.mono hbx.size); clear hb9) | (go_at_call 28; refine (HMu.out _ hbw).mono ?_; rintro e w9 ⟨rfl, hb9⟩; replace hbw := hbw.trans (hb9.mono hbw.size); replace l0 := cell_below l0 hb9; replace l1 := cell_below l1 hb9; replace hbx := hbx.trans (hb9.mono hbx.size); clear hb9))
                  have HRow := Lib.hid (owns_belowI HRow.out hbx)
                  have hbr := hbr.trans (hbx.mono hbr.size)
                  obtain ⟨wz, rfl⟩ : ∃ wx : World, wx = w9 := ⟨_, rfl⟩
                  have ce := cell_below HCe.out hbr
                  have hze := block_lt ce
                  have hzl := block_lt l0
                  clear hbx HJu HBg HMu
                  go_cut [16] (fun p wx => ∃ gb, p = .pointer (some ⟨gb, 0, none⟩) ∧ wx.heap[gb]? = some (.cells #[.int .i64 ((n : Int) + 1), .int .i64 ek, .int .i64 0, .int .i64 c, .int .i64 D, .int .i64 Tn, .int .i64 h, .int .i64 (h + 1), .slice none 0 0] 51) ∧ wz.heap.size ≤ gb ∧ Below wz.heap.size wz wx)
                  case first =>
                    clear HRow HNn HK HCs
                    go_wp2_with fail
                    refine wp_region_held_drew (S := fun w' => Below wz.heap.size wz w') (by kernel_rfl) ((Below.refl _ _).drew) (fun hHeld => ?_)
                    refine takeU (i := 0) (some 49) (.slice av n cv) (by kernel_rfl) (by kernel_rfl) (by kernel_rfl) (by kernel_rfl) (by kernel_rfl) (fun _ => by kernel_rfl) (fun _ _ _ h => h) hHeld ?_
                    refine wpAnyH_take (i := 1) (oi := { dst := some 50, op := Go.Op.call { callee := Go.Callee.builtin Go.Builtin.len, args := #[Go.Operand.tmp 49], argTypes := #[25] }, type := 3, pos := "ref.go:399", after := #[{ on := 0, ground := Go.Ground.data }], guard := none }) (v := .int .i64 n) rfl (by kernel_rfl) (by kernel_rfl) (by kernel_rfl) (fun _ _ _ h => h) (.inl ⟨by kernel_rfl, fun w9 h9 => by
                      clear hHeld h9
                      go_simp⟩) hHeld ?_
                    refine wpAnyH_take (i := 2) (oi := { dst := some 51, op := Go.Op.binOp Go.BinOp.add 3 (Go.Operand.tmp 50) (Go.Operand.const (Go.Value.int Go.IntKind.i64 1)) 3, type := 3, pos := "ref.go:399", after := #[{ on := 1, ground := Go.Ground.data }], guard := none }) (v := .int .i64 ((n : Int) + 1)) rfl (by kernel_rfl) (by kernel_rfl) (by kernel_rfl) (fun _ _ _ h => h) (.inl ⟨by kernel_rfl, fun w9 h9 => by
                      clear hHeld h9
                      go_simp⟩) hHeld ?_
                    refine takeU (i := 3) (some 52) (.slice (some ⟨be, 0, none⟩) 3 3) (by kernel_rfl) (by kernel_rfl) (by kernel_rfl) (by kernel_rfl) (by kernel_rfl) (fun _ => by kernel_rfl) (fun _ _ _ h => h) hHeld ?_
                    refine takeU (i := 4) (some 53) (.int .i64 Tn) (by kernel_rfl) (by kernel_rfl) (by kernel_rfl) (by kernel_rfl) (by kernel_rfl) (fun _ => by kernel_rfl) (fun _ _ _ h => h) hHeld ?_
                    refine wpAnyH_take (i := 5) (oi := { dst := some 54, op := Go.Op.indexAddr 22 (Go.Operand.tmp 52) (Go.Operand.tmp 53), type := 0, pos := "ref.go:399", after := #[{ on := 3, ground := Go.Ground.data }, { on := 4, ground := Go.Ground.data }], guard := none }) (v := .pointer (some ⟨be, Tn, none⟩)) rfl (by kernel_rfl) (by kernel_rfl) (by kernel_rfl) (fun _ _ _ h => h) (.inl ⟨by kernel_rfl, fun w9 h9 => by
                      clear hHeld h9
                      go_simp⟩) hHeld ?_
                    refine wpAnyH_take (i := 6) (oi := { dst := some 55, op := Go.Op.load 3 (Go.Operand.tmp 54), type := 3, pos := "ref.go:399", after := #[{ on := 5, ground := Go.Ground.data }], guard := none }) (v := .int .i64 ek) rfl (by kernel_rfl) (by kernel_rfl) (by kernel_rfl) (fun _ _ _ h => h) (.inl ⟨by kernel_rfl, fun w9 h9 => by
                      clear hHeld
                      have d0 := (h9.cell (p := ⟨be, Tn, none⟩) hze).trans ce
                      clear h9
                      go_simp⟩) hHeld ?_
                    refine wpAnyH_take (i := 7) (oi := { dst := some 56, op := Go.Op.load 24 (Go.Operand.tmp 3), type := 24, pos := "ref.go:399", after := #[], guard := none }) (v := .agg #[.int .i64 N, .slice a js.length ca]) rfl (by kernel_rfl) (by kernel_rfl) (by kernel_rfl) (fun _ _ _ h => h) (.inl ⟨by kernel_rfl, fun w9 h9 => by
                      clear hHeld
                      have d0 := (h9.cell (p := ⟨w.heap.size, 0, none⟩) hzl).trans l0
                      have d1 := (h9.cell (p := ⟨w.heap.size, 1, none⟩) hzl).trans l1
                      clear h9
                      go_simp⟩) hHeld ?_
                    refine takeU (i := 8) (some 57) (.int .i64 D) (by kernel_rfl) (by kernel_rfl) (by kernel_rfl) (by kernel_rfl) (by kernel_rfl) (fun _ => by kernel_rfl) (fun _ _ _ h => h) hHeld ?_
                    refine takeU (i := 9) (some 58) (.int .i64 k) (by kernel_rfl) (by kernel_rfl) (by kernel_rfl) (by kernel_rfl) (by kernel_rfl) (fun _ => by kernel_rfl) (fun _ _ _ h => h) hHeld ?_
                    refine takeU (i := 11) (some 60) (.int .i64 D) (by kernel_rfl) (by kernel_rfl) (by kernel_rfl) (by kernel_rfl) (by kernel_rfl) (fun _ => by kernel_rfl) (fun _ _ _ h => h) hHeld ?_
                    refine takeU (i := 12) (some 61) (.int .i64 Tn) (by kernel_rfl) (by kernel_rfl) (by kernel_rfl) (by kernel_rfl) (by kernel_rfl) (fun _ => by kernel_rfl) (fun _ _ _ h => h) hHeld ?_
                    refine takeU (i := 13) (some 62) (.int .i64 h) (by kernel_rfl) (by kernel_rfl) (by kernel_rfl) (by kernel_rfl) (by kernel_rfl) (fun _ => by kernel_rfl) (fun _ _ _ h => h) hHeld ?_
                    refine takeU (i := 14) (some 63) (.int .i64 h) (by kernel_rfl) (by kernel_rfl) (by kernel_rfl) (by kernel_rfl) (by kernel_rfl) (fun _ => by kernel_rfl) (fun _ _ _ h => h) hHeld ?_
                    refine wpAnyH_take (i := 15) (oi := { dst := some 64, op := Go.Op.binOp Go.BinOp.add 3 (Go.Operand.tmp 63) (Go.Operand.const (Go.Value.int Go.IntKind.i64 1)) 3, type := 3, pos := "ref.go:399", after := #[{ on := 14, ground := Go.Ground.data }], guard := none }) (v := .int .i64 (h + 1)) rfl (by kernel_rfl) (by kernel_rfl) (by kernel_rfl) (fun _ _ _ h => h) (.inl ⟨by kernel_rfl, fun w9 h9 => by
                      clear hHeld h9
                      go_simp⟩) hHeld ?_
                    try simp only [Act.put, List.setIfInBounds_toArray, List.set_cons_zero, List.set_cons_succ]
                    refine wpAnyH_ready (rs := [10, 17]) (by kernel_rfl) (by simp) ?_
                    refine AllReadyH.cons (o := { dst := some 59, op := Go.Op.call { callee := Go.Callee.value (Go.Operand.func 30), args := #[Go.Operand.tmp 56, Go.Operand.tmp 57, Go.Operand.tmp 58], argTypes := #[24, 3, 3] }, type := 3, pos := "ref.go:399", after := #[{ on := 7, ground := Go.Ground.data }, { on := 8, ground := Go.Ground.data }, { on := 9, ground := Go.Ground.data }], guard := none }) rfl (fun K hK => ?_) (AllReadyH.cons (o := { dst := some 16, op := Go.Op.alloc 51, type := 0, pos := "ref.go:399", after := #[], guard := none }) rfl (fun K hK => ?_) AllReadyH.nil)
                    · go_simp
                      go_at_call 30
                      refine (HDi.out _).mono ?_
                      rintro e w109 ⟨rfl, hb109⟩
                      have hsz10 := hb109.size
                      refine hK.out _ _ (hHeld.trans (hb109.mono hHeld.size)) (fun hHeld => ?_)
                      clear hK K hb109
                      try simp only [Act.put, List.setIfInBounds_toArray, List.set_cons_zero, List.set_cons_succ]
                      refine wpAnyH_take (i := 16) (oi := { dst := some 65, op := Go.Op.build 51 #[(0, Go.Operand.tmp 51), (1, Go.Operand.tmp 55), (3, Go.Operand.tmp 59), (4, Go.Operand.tmp 60), (5, Go.Operand.tmp 61), (6, Go.Operand.tmp 62), (7, Go.Operand.tmp 64)], type := 51, pos := "ref.go:399", after := #[{ on := 2, ground := Go.Ground.data }, { on := 6, ground := Go.Ground.data }, { on := 10, ground := Go.Ground.data }, { on := 11, ground := Go.Ground.data }, { on := 12, ground := Go.Ground.data }, { on := 13, ground := Go.Ground.data }, { on := 15, ground := Go.Ground.data }], guard := none }) (v := .agg #[.int .i64 ((n : Int) + 1), .int .i64 ek, .int .i64 0, .int .i64 c, .int .i64 D, .int .i64 Tn, .int .i64 h, .int .i64 (h + 1), .slice none 0 0]) rfl (by kernel_rfl) (by kernel_rfl) (by kernel_rfl) (fun _ _ _ h => h) (.inl ⟨by kernel_rfl, fun w9 h9 => by
                        clear hHeld h9
                        go_simp⟩) hHeld ?_
                      try simp only [Act.put, List.setIfInBounds_toArray, List.set_cons_zero, List.set_cons_succ]
                      refine wpAnyH_ready (rs := [17]) (by kernel_rfl) (by simp) ?_
                      refine AllReadyH.cons (o := { dst := some 16, op := Go.Op.alloc 51, type := 0, pos := "ref.go:399", after := #[], guard := none }) rfl (fun K hK => ?_) AllReadyH.nil
                      go_simp
                      have hA0 := hHeld
                      refine hK.out _ _ (hHeld.alloc hHeld.size _) (fun hHeld => ?_)
                      clear hK K
                      try simp only [Act.put, List.setIfInBounds_toArray, List.set_cons_zero, List.set_cons_succ]
                      have hx17 : (w109.alloc (.cells #[.int .i64 0, .int .i64 0, .int .i64 0, .int .i64 0, .int .i64 0, .int .i64 0, .int .i64 0, .int .i64 0, .slice none 0 0] 51)).heap[w109.heap.size]? = some (.cells #[.int .i64 0, .int .i64 0, .int .i64 0, .int .i64 0, .int .i64 0, .int .i64 0, .int .i64 0, .int .i64 0, .slice none 0 0] 51 (0, 0)) := heap_alloc_new w109 _
                      have hBz : wz.heap.size ≤ w109.heap.size := by simpa using hsz10
                      try simp only [Act.put, List.setIfInBounds_toArray, List.set_cons_zero, List.set_cons_succ]
                      refine wpAnyH_ready (rs := [18]) (by kernel_rfl) (by simp) ?_
                      refine AllReadyH.cons (o := { dst := none, op := Go.Op.store 51 (Go.Operand.tmp 16) (Go.Operand.tmp 65), type := 0, pos := "ref.go:399", after := #[{ on := 17, ground := Go.Ground.data }, { on := 16, ground := Go.Ground.data }, { on := 10, ground := Go.Ground.chain }, { on := 0, ground := Go.Ground.phase }, { on := 1, ground := Go.Ground.phase }, { on := 2, ground := Go.Ground.phase }, { on := 3, ground := Go.Ground.phase }, { on := 4, ground := Go.Ground.phase }, { on := 5, ground := Go.Ground.phase }, { on := 6, ground := Go.Ground.phase }, { on := 7, ground := Go.Ground.phase }, { on := 8, ground := Go.Ground.phase }, { on := 9, ground := Go.Ground.phase }, { on := 10, ground := Go.Ground.phase }, { on := 11, ground := Go.Ground.phase }, { on := 12, ground := Go.Ground.phase }, { on := 13, ground := Go.Ground.phase }, { on := 14, ground := Go.Ground.phase }, { on := 15, ground := Go.Ground.phase }, { on := 16, ground := Go.Ground.phase }, { on := 17, ground := Go.Ground.phase }], guard := none }) rfl (fun K hK => ?_) AllReadyH.nil
                      obtain ⟨wS, hwS⟩ : ∃ wS, w109.alloc (.cells #[.int .i64 0, .int .i64 0, .int .i64 0, .int .i64 0, .int .i64 0, .int .i64 0, .int .i64 0, .int .i64 0, .slice none 0 0] 51) = wS := ⟨_, rfl⟩
                      rw [hwS] at hHeld hx17 ⊢
                      clear hwS
                      have y0 := heapc hx17 (i := 0) (v := .int .i64 0) rfl
                      have g0 : wS.frozen? ⟨w109.heap.size, 0, none⟩ = false := by simp [World.frozen?, hx17]
                      have y1 := heapc hx17 (i := 1) (v := .int .i64 0) rfl
                      have g1 : wS.frozen? ⟨w109.heap.size, 1, none⟩ = false := by simp [World.frozen?, hx17]
                      have y2 := heapc hx17 (i := 2) (v := .int .i64 0) rfl
                      have g2 : wS.frozen? ⟨w109.heap.size, 2, none⟩ = false := by simp [World.frozen?, hx17]
                      have y3 := heapc hx17 (i := 3) (v := .int .i64 0) rfl
                      have g3 : wS.frozen? ⟨w109.heap.size, 3, none⟩ = false := by simp [World.frozen?, hx17]
                      have y4 := heapc hx17 (i := 4) (v := .int .i64 0) rfl
                      have g4 : wS.frozen? ⟨w109.heap.size, 4, none⟩ = false := by simp [World.frozen?, hx17]
                      have y5 := heapc hx17 (i := 5) (v := .int .i64 0) rfl
                      have g5 : wS.frozen? ⟨w109.heap.size, 5, none⟩ = false := by simp [World.frozen?, hx17]
                      have y6 := heapc hx17 (i := 6) (v := .int .i64 0) rfl
                      have g6 : wS.frozen? ⟨w109.heap.size, 6, none⟩ = false := by simp [World.frozen?, hx17]
                      have y7 := heapc hx17 (i := 7) (v := .int .i64 0) rfl
                      have g7 : wS.frozen? ⟨w109.heap.size, 7, none⟩ = false := by simp [World.frozen?, hx17]
                      have y8 := heapc hx17 (i := 8) (v := .slice none 0 0) rfl
                      have g8 : wS.frozen? ⟨w109.heap.size, 8, none⟩ = false := by simp [World.frozen?, hx17]
                      go_simp
                      have hset := Lib.hid (heap_set9 hx17 (.int .i64 ((n : Int) + 1)) (.int .i64 ek) (.int .i64 0) (.int .i64 c) (.int .i64 D) (.int .i64 Tn) (.int .i64 h) (.int .i64 (h + 1)) (.slice none 0 0))
                      refine hK.out _ _ (((((((((hHeld.setCell (p := ⟨w109.heap.size, 0, none⟩) hBz _).setCell (p := ⟨w109.heap.size, 1, none⟩) hBz _).setCell (p := ⟨w109.heap.size, 2, none⟩) hBz _).setCell (p := ⟨w109.heap.size, 3, none⟩) hBz _).setCell (p := ⟨w109.heap.size, 4, none⟩) hBz _).setCell (p := ⟨w109.heap.size, 5, none⟩) hBz _).setCell (p := ⟨w109.heap.size, 6, none⟩) hBz _).setCell (p := ⟨w109.heap.size, 7, none⟩) hBz _).setCell (p := ⟨w109.heap.size, 8, none⟩) hBz _) (fun hHeld => ?_)
                      clear hK K
                      try simp only [Act.put, List.setIfInBounds_toArray, List.set_cons_zero, List.set_cons_succ]
                      refine wpAnyH_done (by kernel_rfl) ?_ _
                      try simp only [Act.put, List.setIfInBounds_toArray, List.set_cons_zero, List.set_cons_succ]
                      go_wp2_with fail
                      go_meet
                      exact ⟨w109.heap.size, rfl, hset.out, hBz, hHeld⟩
                    · go_simp
                      have hA0 := hHeld
                      refine hK.out _ _ (hHeld.alloc hHeld.size _) (fun hHeld => ?_)
                      clear hK K
                      try simp only [Act.put, List.setIfInBounds_toArray, List.set_cons_zero, List.set_cons_succ]
                      have hx17 : ((wz.alloc (.cells #[.int .i64 0, .int .i64 0, .int .i64 0, .int .i64 0, .int .i64 0, .int .i64 0, .int .i64 0, .int .i64 0, .slice none 0 0] 51)).drew).heap[wz.heap.size]? = some (.cells #[.int .i64 0, .int .i64 0, .int .i64 0, .int .i64 0, .int .i64 0, .int .i64 0, .int .i64 0, .int .i64 0, .slice none 0 0] 51 (0, 0)) := heap_alloc_new wz _
                      have hBz : wz.heap.size ≤ wz.heap.size := Nat.le_refl _
                      try simp only [Act.put, List.setIfInBounds_toArray, List.set_cons_zero, List.set_cons_succ]
                      refine wpAnyH_ready (rs := [10]) (by kernel_rfl) (by simp) ?_
                      refine AllReadyH.cons (o := { dst := some 59, op := Go.Op.call { callee := Go.Callee.value (Go.Operand.func 30), args := #[Go.Operand.tmp 56, Go.Operand.tmp 57, Go.Operand.tmp 58], argTypes := #[24, 3, 3] }, type := 3, pos := "ref.go:399", after := #[{ on := 7, ground := Go.Ground.data }, { on := 8, ground := Go.Ground.data }, { on := 9, ground := Go.Ground.data }], guard := none }) rfl (fun K hK => ?_) AllReadyH.nil
                      go_simp
                      go_at_call 30
                      refine (HDi.out _).mono ?_
                      rintro e w109 ⟨rfl, hb109⟩
                      have hsz10 := hb109.size
                      replace hx17 := heap_below hx17 hb109
                      refine hK.out _ _ (hHeld.trans (hb109.mono hHeld.size)) (fun hHeld => ?_)
                      clear hK K hb109
                      try simp only [Act.put, List.setIfInBounds_toArray, List.set_cons_zero, List.set_cons_succ]
                      refine wpAnyH_take (i := 16) (oi := { dst := some 65, op := Go.Op.build 51 #[(0, Go.Operand.tmp 51), (1, Go.Operand.tmp 55), (3, Go.Operand.tmp 59), (4, Go.Operand.tmp 60), (5, Go.Operand.tmp 61), (6, Go.Operand.tmp 62), (7, Go.Operand.tmp 64)], type := 51, pos := "ref.go:399", after := #[{ on := 2, ground := Go.Ground.data }, { on := 6, ground := Go.Ground.data }, { on := 10, ground := Go.Ground.data }, { on := 11, ground := Go.Ground.data }, { on := 12, ground := Go.Ground.data }, { on := 13, ground := Go.Ground.data }, { on := 15, ground := Go.Ground.data }], guard := none }) (v := .agg #[.int .i64 ((n : Int) + 1), .int .i64 ek, .int .i64 0, .int .i64 c, .int .i64 D, .int .i64 Tn, .int .i64 h, .int .i64 (h + 1), .slice none 0 0]) rfl (by kernel_rfl) (by kernel_rfl) (by kernel_rfl) (fun _ _ _ h => h) (.inl ⟨by kernel_rfl, fun w9 h9 => by
                        clear hHeld h9
                        go_simp⟩) hHeld ?_
                      try simp only [Act.put, List.setIfInBounds_toArray, List.set_cons_zero, List.set_cons_succ]
                      refine wpAnyH_ready (rs := [18]) (by kernel_rfl) (by simp) ?_
                      refine AllReadyH.cons (o := { dst := none, op := Go.Op.store 51 (Go.Operand.tmp 16) (Go.Operand.tmp 65), type := 0, pos := "ref.go:399", after := #[{ on := 17, ground := Go.Ground.data }, { on := 16, ground := Go.Ground.data }, { on := 10, ground := Go.Ground.chain }, { on := 0, ground := Go.Ground.phase }, { on := 1, ground := Go.Ground.phase }, { on := 2, ground := Go.Ground.phase }, { on := 3, ground := Go.Ground.phase }, { on := 4, ground := Go.Ground.phase }, { on := 5, ground := Go.Ground.phase }, { on := 6, ground := Go.Ground.phase }, { on := 7, ground := Go.Ground.phase }, { on := 8, ground := Go.Ground.phase }, { on := 9, ground := Go.Ground.phase }, { on := 10, ground := Go.Ground.phase }, { on := 11, ground := Go.Ground.phase }, { on := 12, ground := Go.Ground.phase }, { on := 13, ground := Go.Ground.phase }, { on := 14, ground := Go.Ground.phase }, { on := 15, ground := Go.Ground.phase }, { on := 16, ground := Go.Ground.phase }, { on := 17, ground := Go.Ground.phase }], guard := none }) rfl (fun K hK => ?_) AllReadyH.nil
                      obtain ⟨wS, hwS⟩ : ∃ wS, w109 = wS := ⟨_, rfl⟩
                      rw [hwS] at hHeld hx17 ⊢
                      clear hwS
                      have y0 := heapc hx17 (i := 0) (v := .int .i64 0) rfl
                      have g0 : wS.frozen? ⟨wz.heap.size, 0, none⟩ = false := by simp [World.frozen?, hx17]
                      have y1 := heapc hx17 (i := 1) (v := .int .i64 0) rfl
                      have g1 : wS.frozen? ⟨wz.heap.size, 1, none⟩ = false := by simp [World.frozen?, hx17]
                      have y2 := heapc hx17 (i := 2) (v := .int .i64 0) rfl
                      have g2 : wS.frozen? ⟨wz.heap.size, 2, none⟩ = false := by simp [World.frozen?, hx17]
                      have y3 := heapc hx17 (i := 3) (v := .int .i64 0) rfl
                      have g3 : wS.frozen? ⟨wz.heap.size, 3, none⟩ = false := by simp [World.frozen?, hx17]
                      have y4 := heapc hx17 (i := 4) (v := .int .i64 0) rfl
                      have g4 : wS.frozen? ⟨wz.heap.size, 4, none⟩ = false := by simp [World.frozen?, hx17]
                      have y5 := heapc hx17 (i := 5) (v := .int .i64 0) rfl
                      have g5 : wS.frozen? ⟨wz.heap.size, 5, none⟩ = false := by simp [World.frozen?, hx17]
                      have y6 := heapc hx17 (i := 6) (v := .int .i64 0) rfl
                      have g6 : wS.frozen? ⟨wz.heap.size, 6, none⟩ = false := by simp [World.frozen?, hx17]
                      have y7 := heapc hx17 (i := 7) (v := .int .i64 0) rfl
                      have g7 : wS.frozen? ⟨wz.heap.size, 7, none⟩ = false := by simp [World.frozen?, hx17]
                      have y8 := heapc hx17 (i := 8) (v := .slice none 0 0) rfl
                      have g8 : wS.frozen? ⟨wz.heap.size, 8, none⟩ = false := by simp [World.frozen?, hx17]
                      go_simp
                      have hset := Lib.hid (heap_set9 hx17 (.int .i64 ((n : Int) + 1)) (.int .i64 ek) (.int .i64 0) (.int .i64 c) (.int .i64 D) (.int .i64 Tn) (.int .i64 h) (.int .i64 (h + 1)) (.slice none 0 0))
                      refine hK.out _ _ (((((((((hHeld.setCell (p := ⟨wz.heap.size, 0, none⟩) hBz _).setCell (p := ⟨wz.heap.size, 1, none⟩) hBz _).setCell (p := ⟨wz.heap.size, 2, none⟩) hBz _).setCell (p := ⟨wz.heap.size, 3, none⟩) hBz _).setCell (p := ⟨wz.heap.size, 4, none⟩) hBz _).setCell (p := ⟨wz.heap.size, 5, none⟩) hBz _).setCell (p := ⟨wz.heap.size, 6, none⟩) hBz _).setCell (p := ⟨wz.heap.size, 7, none⟩) hBz _).setCell (p := ⟨wz.heap.size, 8, none⟩) hBz _) (fun hHeld => ?_)
                      clear hK K
                      try simp only [Act.put, List.setIfInBounds_toArray, List.set_cons_zero, List.set_cons_succ]
                      refine wpAnyH_done (by kernel_rfl) ?_ _
                      try simp only [Act.put, List.setIfInBounds_toArray, List.set_cons_zero, List.set_cons_succ]
                      go_wp2_with fail
                      go_meet
                      exact ⟨wz.heap.size, rfl, hset.out, hBz, hHeld⟩
                  case rest =>
                    obtain ⟨gb, rfl, hset, hgb, hbz⟩ := hcut
                    obtain ⟨wx9, rfl⟩ : ∃ wx : World, wx = wc := ⟨_, rfl⟩
                    clear ce hze hzl l0 l1 HCe HDi hbw
                    by_cases hv0 : v = 0
                    · have e0 : (v != 0) = false := by simp [hv0]
                      have z0 := heapc hset (i := 0) rfl
                      have z1 := heapc hset (i := 1) rfl
                      have z2 := heapc hset (i := 2) rfl
                      have z3 := heapc hset (i := 3) rfl
                      have z4 := heapc hset (i := 4) rfl
                      have z5 := heapc hset (i := 5) rfl
                      have z6 := heapc hset (i := 6) rfl
                      have z7 := heapc hset (i := 7) rfl
                      have z8 := heapc hset (i := 8) rfl
                      have HRow := Lib.hid (owns_belowI HRow.out hbz)
                      have hbr := hbr.trans (hbz.mono hbr.size)
                      have hfa : kndK (Tn : Int) v = ek ∧ (if (Tn : Int) = 1 then v else 0) = 0 := by
                        rw [hv0]
                        exact ⟨HK.out.1, by split <;> rfl⟩
                      have HFa := Lib.hid hfa
                      obtain ⟨wV, rfl⟩ : ∃ wx : World, wx = wx9 := ⟨_, rfl⟩
                      clear hset hfa hv0 hbz HK HCs
                      have hown := Lib.hid (HRow.out.alloc (.cells #[.int .i64 ((n : Int) + 1), .int .i64 ek, .int .i64 0, .int .i64 c, .int .i64 D, .int .i64 Tn, .int .i64 h, .int .i64 (h + 1), .slice none 0 0] 51))
                      have hbs := hbr.size
                      have HAP := Lib.hid (HNn.out ek 0 HFa.out.1 HFa.out.2)
                      go_wp2_with (first | (at_builtin; go_loud (refine wpList_append_lies _ rfl _ _ 25 rfl wC.heap.size 51 n0 _ 9 88 Tryz.underlying25 hi hz0 hz1 hz2 rfl (by decide) (.slice _ n cv) n _ (by rfl) hown.out ⟨wV.heap.size, 0, none⟩ 1 1 [.int .i64 ((n : Int) + 1), .int .i64 ek, .int .i64 0, .int .i64 c, .int .i64 D, .int .i64 Tn, .int .i64 h, .int .i64 (h + 1), .slice none 0 0] (by rfl) (by rfl) ?d1 ?d2 (by decide) ?d3 ?d4 ?d5 _ rfl ?_)))
                      case d1 =>
                        refine World.news_of_block (cs := #[.int .i64 ((n : Int) + 1), .int .i64 ek, .int .i64 0, .int .i64 c, .int .i64 D, .int .i64 Tn, .int .i64 h, .int .i64 (h + 1), .slice none 0 0]) (t := 51) (fr := (0, 0)) ?_
                        exact heap_alloc_new _ _
                      case d2 => simp [Value.oneCell']
                      case d3 => unfold maxLen; omega
                      case d4 => omega
                      case d5 => first | (simp; omega) | simp | omega
                      intro g6 c6 w6 hown6 hgrow6 hat6 hlt6
                      have hb6 : Below wC.heap.size wC w6 := ((hbr.alloc hbs _).grown hgrow6 (by first | (simp; omega) | simp | omega) (fun z hz => owns_blockI hown.out hz))
                      go_wp2_with fail
                      go_roundw
                      case rel => exact ⟨k + 1, some ⟨g6, 0, none⟩, c6, by omega, by go_num, by rw [HAP.out.2.2], by rw [← HAP.out.1], Lib.hid (by rw [← HAP.out.1, ← HAP.out.2.1]; exact hown6), hb6⟩
                      case measure => simp [intOf]; omega
                    · have e0 : (v != 0) = true := by simp [hv0]
                      by_cases hT1 : Tn = 1
                      · have e1 : ((Tn : Int) == 1) = true := by simp [hT1]
                        have z0 := heapc hset (i := 0) rfl
                        have z1 := heapc hset (i := 1) rfl
                        have z2 := heapc hset (i := 2) rfl
                        have f1 : wx9.frozen? ⟨gb, 1, none⟩ = false := by simp [World.frozen?, hset]
                        have f2 : wx9.frozen? ⟨gb, 2, none⟩ = false := by simp [World.frozen?, hset]
                        have s1 := cell_below HCs.out (hbr.trans (hbz.mono hbr.size))
                        have hfa : kndK (Tn : Int) v = sk ∧ (if (Tn : Int) = 1 then v else 0) = v := ⟨HK.out.2 v hv0, by rw [if_pos (by omega)]⟩
                        have HFa := Lib.hid hfa
                        clear hT1 hfa hv0 HK HCs
                        go_upto_region 22 with (fail)
                        have hst2 : ((wx9.setCell ⟨gb, 1, none⟩ (.int .i64 sk)).setCell ⟨gb, 2, none⟩ (.int .i64 v)).heap[gb]? = some (.cells #[.int .i64 ((n : Int) + 1), .int .i64 sk, .int .i64 v, .int .i64 c, .int .i64 D, .int .i64 Tn, .int .i64 h, .int .i64 (h + 1), .slice none 0 0] 51) := (heap_setCell_same _ gb 2 _ 51 (.int .i64 v) (heap_setCell_same wx9 gb 1 _ 51 (.int .i64 sk) hset))
                        have hbv := ((hbz.setCell (p := ⟨gb, 1, none⟩) hgb (.int .i64 sk)).setCell (p := ⟨gb, 2, none⟩) hgb (.int .i64 v))
                        obtain ⟨wV, hwV⟩ : ∃ wV, ((wx9.setCell ⟨gb, 1, none⟩ (.int .i64 sk)).setCell ⟨gb, 2, none⟩ (.int .i64 v)) = wV := ⟨_, rfl⟩
                        rw [hwV] at hst2 hbv ⊢
                        have HRow := Lib.hid (owns_belowI HRow.out hbv)
                        have hbr := hbr.trans (hbv.mono hbr.size)
                        clear z0 z1 z2 f1 f2 s1 hset hwV
                        have z0 := heapc hst2 (i := 0) rfl
                        have z1 := heapc hst2 (i := 1) rfl
                        have z2 := heapc hst2 (i := 2) rfl
                        have z3 := heapc hst2 (i := 3) rfl
                        have z4 := heapc hst2 (i := 4) rfl
                        have z5 := heapc hst2 (i := 5) rfl
                        have z6 := heapc hst2 (i := 6) rfl
                        have z7 := heapc hst2 (i := 7) rfl
                        have z8 := heapc hst2 (i := 8) rfl
                        clear hst2
                        have hown := Lib.hid (HRow.out.alloc (.cells #[.int .i64 ((n : Int) + 1), .int .i64 sk, .int .i64 v, .int .i64 c, .int .i64 D, .int .i64 Tn, .int .i64 h, .int .i64 (h + 1), .slice none 0 0] 51))
                        have hbs := hbr.size
                        have HAP := Lib.hid (HNn.out sk v HFa.out.1 HFa.out.2)
                        go_wp2_with (first | (at_builtin; go_loud (refine wpList_append_lies _ rfl _ _ 25 rfl wC.heap.size 51 n0 _ 9 88 Tryz.underlying25 hi hz0 hz1 hz2 rfl (by decide) (.slice _ n cv) n _ (by rfl) hown.out ⟨wV.heap.size, 0, none⟩ 1 1 [.int .i64 ((n : Int) + 1), .int .i64 sk, .int .i64 v, .int .i64 c, .int .i64 D, .int .i64 Tn, .int .i64 h, .int .i64 (h + 1), .slice none 0 0] (by rfl) (by rfl) ?d1 ?d2 (by decide) ?d3 ?d4 ?d5 _ rfl ?_)))
                        case d1 =>
                          refine World.news_of_block (cs := #[.int .i64 ((n : Int) + 1), .int .i64 sk, .int .i64 v, .int .i64 c, .int .i64 D, .int .i64 Tn, .int .i64 h, .int .i64 (h + 1), .slice none 0 0]) (t := 51) (fr := (0, 0)) ?_
                          exact heap_alloc_new _ _
                        case d2 => simp [Value.oneCell']
                        case d3 => unfold maxLen; omega
                        case d4 => omega
                        case d5 => first | (simp; omega) | simp | omega
                        intro g6 c6 w6 hown6 hgrow6 hat6 hlt6
                        have hb6 : Below wC.heap.size wC w6 := ((hbr.alloc hbs _).grown hgrow6 (by first | (simp; omega) | simp | omega) (fun z hz => owns_blockI hown.out hz))
                        go_wp2_with fail
                        go_roundw
                        case rel => exact ⟨k + 1, some ⟨g6, 0, none⟩, c6, by omega, by go_num, by rw [HAP.out.2.2], by rw [← HAP.out.1], Lib.hid (by rw [← HAP.out.1, ← HAP.out.2.1]; exact hown6), hb6⟩
                        case measure => simp [intOf]; omega
                      · have e1 : ((Tn : Int) == 1) = false := by simp; omega
                        have z0 := heapc hset (i := 0) rfl
                        have z1 := heapc hset (i := 1) rfl
                        have z2 := heapc hset (i := 2) rfl
                        have f1 : wx9.frozen? ⟨gb, 1, none⟩ = false := by simp [World.frozen?, hset]
                        have f2 : wx9.frozen? ⟨gb, 2, none⟩ = false := by simp [World.frozen?, hset]
                        have s1 := cell_below HCs.out (hbr.trans (hbz.mono hbr.size))
                        have hfa : kndK (Tn : Int) v = sk ∧ (if (Tn : Int) = 1 then v else 0) = 0 := ⟨HK.out.2 v hv0, by rw [if_neg (by omega)]⟩
                        have HFa := Lib.hid hfa
                        clear hT1 hfa hv0 HK HCs
                        go_upto_region 22 with (fail)
                        have hst2 : (wx9.setCell ⟨gb, 1, none⟩ (.int .i64 sk)).heap[gb]? = some (.cells #[.int .i64 ((n : Int) + 1), .int .i64 sk, .int .i64 0, .int .i64 c, .int .i64 D, .int .i64 Tn, .int .i64 h, .int .i64 (h + 1), .slice none 0 0] 51) := (heap_setCell_same wx9 gb 1 _ 51 (.int .i64 sk) hset)
                        have hbv := (hbz.setCell (p := ⟨gb, 1, none⟩) hgb (.int .i64 sk))
                        obtain ⟨wV, hwV⟩ : ∃ wV, (wx9.setCell ⟨gb, 1, none⟩ (.int .i64 sk)) = wV := ⟨_, rfl⟩
                        rw [hwV] at hst2 hbv ⊢
                        have HRow := Lib.hid (owns_belowI HRow.out hbv)
                        have hbr := hbr.trans (hbv.mono hbr.size)
                        clear z0 z1 z2 f1 f2 s1 hset hwV
                        have z0 := heapc hst2 (i := 0) rfl
                        have z1 := heapc hst2 (i := 1) rfl
                        have z2 := heapc hst2 (i := 2) rfl
                        have z3 := heapc hst2 (i := 3) rfl
                        have z4 := heapc hst2 (i := 4) rfl
                        have z5 := heapc hst2 (i := 5) rfl
                        have z6 := heapc hst2 (i := 6) rfl
                        have z7 := heapc hst2 (i := 7) rfl
                        have z8 := heapc hst2 (i := 8) rfl
                        clear hst2
                        have hown := Lib.hid (HRow.out.alloc (.cells #[.int .i64 ((n : Int) + 1), .int .i64 sk, .int .i64 0, .int .i64 c, .int .i64 D, .int .i64 Tn, .int .i64 h, .int .i64 (h + 1), .slice none 0 0] 51))
                        have hbs := hbr.size
                        have HAP := Lib.hid (HNn.out sk 0 HFa.out.1 HFa.out.2)
                        go_wp2_with (first | (at_builtin; go_loud (refine wpList_append_lies _ rfl _ _ 25 rfl wC.heap.size 51 n0 _ 9 88 Tryz.underlying25 hi hz0 hz1 hz2 rfl (by decide) (.slice _ n cv) n _ (by rfl) hown.out ⟨wV.heap.size, 0, none⟩ 1 1 [.int .i64 ((n : Int) + 1), .int .i64 sk, .int .i64 0, .int .i64 c, .int .i64 D, .int .i64 Tn, .int .i64 h, .int .i64 (h + 1), .slice none 0 0] (by rfl) (by rfl) ?d1 ?d2 (by decide) ?d3 ?d4 ?d5 _ rfl ?_)))
                        case d1 =>
                          refine World.news_of_block (cs := #[.int .i64 ((n : Int) + 1), .int .i64 sk, .int .i64 0, .int .i64 c, .int .i64 D, .int .i64 Tn, .int .i64 h, .int .i64 (h + 1), .slice none 0 0]) (t := 51) (fr := (0, 0)) ?_
                          exact heap_alloc_new _ _
                        case d2 => simp [Value.oneCell']
                        case d3 => unfold maxLen; omega
                        case d4 => omega
                        case d5 => first | (simp; omega) | simp | omega
                        intro g6 c6 w6 hown6 hgrow6 hat6 hlt6
                        have hb6 : Below wC.heap.size wC w6 := ((hbr.alloc hbs _).grown hgrow6 (by first | (simp; omega) | simp | omega) (fun z hz => owns_blockI hown.out hz))
                        go_wp2_with fail
                        go_roundw
                        case rel => exact ⟨k + 1, some ⟨g6, 0, none⟩, c6, by omega, by go_num, by rw [HAP.out.2.2], by rw [← HAP.out.1], Lib.hid (by rw [← HAP.out.1, ← HAP.out.2.1]; exact hown6), hb6⟩
                        case measure => simp [intOf]; omega
            · obtain rfl : k = N := by omega
              have HFi : Hid (numS 0 (P0 ++ (refN k js q h (Tn : Int) D k).2.map (sgC (Tn : Int) D h 0)) = numS 0 (prpK k js q h (2 * t + (d + 1)))) := Lib.hid (by rw [HSt.out])
              have HDs : Hid (1 - 2 * ((d + 1 : Nat) : Int) = D - 2) := Lib.hid (by have := HD.out; omega)
              have hki : ¬ ((k : Int) < (k : Int)) := by omega
              clear HSt HM0
              go_wp2_with fail
              go_roundw
              case rel => exact ⟨d + 1, av, cv, by omega, by rw [HDs.out], by rw [← HFi.out], Lib.hid (by rw [← HFi.out]; exact HRow.out), hbr⟩
              case measure => simp [intOf]; omega
        · obtain rfl : d = 2 := by omega
          have HTs : Hid (((t + 1 : Nat) : Int) + 1 = (Tn : Int) + 1) := Lib.hid (by have := HT.out; omega)
          have HRe : Hid (2 * (t + 1) = 2 * t + 2) := Lib.hid (by omega)
          clear HJu0 HBg0 HDi0 HMu0
          go_wp2_with fail
          go_roundw
          case rel => exact ⟨t + 1, av1, cv1, by omega, by rw [HTs.out], by rw [HRe.out], Lib.hid (by rw [HRe.out]; exact HRow1.out), hbr1⟩
          case measure => simp [intOf]; omega
    · obtain rfl : t = 2 := by omega
      have hln := HLn.out 4
      have hbw := HB.out.trans (hbr0.mono HB.out.size)
      have HRow0 : Hid (wr.ownsRow wC.heap.size 51 9 (.slice av0 (numS 0 (prpK N js q h 4)).length cv0) (numS 0 (prpK N js q h 4)).length (cl9 (numS 0 (prpK N js q h 4)))) := HRow0
      have HNl : Hid ((numS 0 (prpK N js q h 4)).length = (prpK N js q h 4).length) := Lib.hid (numS_len _ _)
      have HEnd : Hid (∀ v, v = decide ((prpK N js q h 4).length ≤ 100) → ∃ b c, (Ending.returned (.tuple #[.slice av0 (numS 0 (prpK N js q h 4)).length cv0, .bool v])) = .returned (.tuple #[.slice b (numS 0 (prpK N js q h 4)).length c, .bool (decide ((prpK N js q h 4).length ≤ 100))]) ∧ SgnS wr b (numS 0 (prpK N js q h 4)) ∧ Below w.heap.size w wr) := Lib.hid fun v hv => ⟨av0, cv0, by rw [hv], sgn_own HRow0.out (by rw [HNl.out]; omega) HCv.out, hbw⟩
      clear HRow0 HJu0 HBg0 HDi0 HMu0
      go_wp2_with fail
      go_ret2
      exact HEnd.out _ (by
        have := HNl.out
        show decide _ = decide _
        refine decide_eq_decide.2 ⟨fun h => ?_, fun h => ?_⟩ <;> omega)
end Go.Proofs.YtneafbhiencjlaaGreatDoor
