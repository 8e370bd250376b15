/-
  The law NightPlans of package night. By an AI agent.
-/
import Derived.Test.YtghlhjiomebmhaaNiYq
import Derived.Test.YtghlhjiomebmhaaNiPl
import Derived.Test.YtghlhjiomebmhaaNiAw
import Derived.Test.YtghlhjiomebmhaaNiRd
import Derived.Test.YtghlhjiomebmhaaNiX
import Derived.Deep.RegionHeld3
import Derived.BigQuiet
import Derived.StillTailTactics
import Derived.Deep.DeepCutAuto
namespace Go.Proofs.Ytghlhjiomebmhaa
set_option linter.unusedVariables false
set_option linter.unusedSimpArgs false
open Go.RowKit

/-- What Best, Most and Plan return. -/
def bsV (js : List Jo) (ns : List Ni) : List Int := if errL js ns = 0 then bestL js ns else []
def moV (js : List Jo) (ns : List Ni) : Int := if errL js ns = 0 then mostN js ns else 0
def paV (js : List Jo) (ns : List Ni) : List Int := if errL js ns = 0 ∧ mostN js ns = js.length then bestL js ns else []
def paE (js : List Jo) (ns : List Ni) : Int := if errL js ns = 0 then (if mostN js ns = js.length then 0 else 24) else errL js ns
def LsE (l : List Int) (x : Int) (w : World) (e : Ending) (w' : World) : Prop :=
  ∃ a c, e = .returned (.tuple #[.slice a l.length c, .int .i64 x]) ∧ IntsC w' a l ∧ Below w.heap.size w w'
theorem intsC_nil (w : World) (a : Option Addr) : IntsC w a [] := ⟨by simp, 0, 0, fun h => absurd rfl h, fun i hi => absurd hi (Nat.not_lt_zero _)⟩
theorem most_bd2 {js : List Jo} {ns : List Ni} (he : errL js ns = 0) : 0 ≤ mostN js ns ∧ mostN js ns ≤ js.length ∧ (∀ i, i < ns.length → 0 ≤ (gn ns i).p) ∧ js.length ≤ 60 ∧ ns.length ≤ 60 := by
  obtain ⟨v1, v2⟩ := errL_ok he
  obtain ⟨h1, h2⟩ := dnN_b (grtL js ns)
  rw [grtL_len] at h2
  exact ⟨h1, h2, fun i hi => (nightB_p (nightsB_ok v2 hi)).1, jobsB_len v1, nightsB_len v2⟩
theorem nBest_r (ja : Option Addr) (js : List Jo) (jc : Nat) (na : Option Addr) (ns : List Ni) (nc : Nat) (w : World) (hJ : JobsS w ja js) (hN : NightsS w na ns) :
    Calls Try.prog 20 #[.slice ja js.length jc, .slice na ns.length nc] w fun e w' => LsE (bsV js ns) (errL js ns) w e w' := by
  by_cases he : errL js ns = 0
  · refine (best_ok ja js jc na ns nc w hJ hN he).mono ?_
    rintro e w' ⟨g, c, rfl, h1, h2, h3, h4⟩
    have hl := bestL_len js ns
    have := (most_bd2 he).2.2.2.1
    unfold bsV
    rw [if_pos he, he]
    exact ⟨some ⟨g, 0, none⟩, c, rfl, h1.ints (by omega), h4⟩
  · refine (best_bad ja js jc na ns nc w hJ hN he).mono ?_
    rintro e w' ⟨rfl, h4⟩
    unfold bsV
    rw [if_neg he]
    exact ⟨none, 0, rfl, intsC_nil _ _, h4⟩
theorem nMost_r (ja : Option Addr) (js : List Jo) (jc : Nat) (na : Option Addr) (ns : List Ni) (nc : Nat) (w : World) (hJ : JobsS w ja js) (hN : NightsS w na ns) :
    Calls Try.prog 19 #[.slice ja js.length jc, .slice na ns.length nc] w fun e w' => e = .returned (.tuple #[.int .i64 (moV js ns), .int .i64 (errL js ns)]) ∧ Below w.heap.size w w' := by
  by_cases he : errL js ns = 0
  · have := most_ok ja js jc na ns nc w hJ hN he
    unfold moV
    rw [if_pos he, he]
    exact this
  · have := most_bad ja js jc na ns nc w hJ hN he
    unfold moV
    rw [if_neg he]
    exact this
set_option maxRecDepth 100000 in
theorem plan_bad (ja : Option Addr) (js : List Jo) (jc : Nat) (na : Option Addr) (ns : List Ni) (nc : Nat) (w : World) (hJ : JobsS w ja js) (hN : NightsS w na ns) (he : errL js ns ≠ 0) :
    Calls Try.prog 21 #[.slice ja js.length jc, .slice na ns.length nc] w fun e w' => e = .returned (.tuple #[.slice none 0 0, .int .i64 (errL js ns)]) ∧ Below w.heap.size w w' := by
  have H1 := Lib.hid (listsError_r ja js jc na ns nc w hJ hN)
  clear hJ hN
  generalize errL js ns = E at *
  have hE : (E == 0) = false := beq_false_of_ne he
  clear he
  go_enter Try.func21, Try.ntmps21
  go_wp2_with fail
  refine H1.out.mono ?_
  rintro e w1 ⟨rfl, hb1⟩
  go_wp2_with fail
  go_ret2
  exact ⟨rfl, hb1⟩
theorem nPlan_r (ja : Option Addr) (js : List Jo) (jc : Nat) (na : Option Addr) (ns : List Ni) (nc : Nat) (w : World) (hJ : JobsS w ja js) (hN : NightsS w na ns) :
    Calls Try.prog 21 #[.slice ja js.length jc, .slice na ns.length nc] w fun e w' => LsE (paV js ns) (paE js ns) w e w' := by
  by_cases he : errL js ns = 0
  · obtain ⟨m0, m1, hps, hj, hn⟩ := most_bd2 he
    refine (plan_ok ja js jc na ns nc w hJ hN he).mono ?_
    rintro e w' (⟨rfl, hb, u, hu, h⟩ | ⟨⟨g, c, rfl, hP, h2, h3⟩, hb, h⟩)
    · have hm : mostN js ns ≠ js.length := fun hm => by
        have := (dn_all (grtL_good (js := js) (ns := ns) hps)).1 hm u hu
        omega
      unfold paV paE
      rw [if_neg (fun h => hm h.2), if_pos he, if_neg hm]
      exact ⟨none, 0, rfl, intsC_nil _ _, hb⟩
    · have hm : mostN js ns = js.length := (dn_all (grtL_good (js := js) (ns := ns) hps)).2 fun i hi => by
        have h1 := h i hi
        rcases good_ent (grtL_good (js := js) (ns := ns) hps) hi with h2 | ⟨m, h2, _⟩ <;> omega
      rw [plan_best js ns hps hm] at hP
      have hl := bestL_len js ns
      unfold paV paE
      rw [if_pos ⟨he, hm⟩, if_pos he, if_pos hm]
      exact ⟨some ⟨g, 0, none⟩, c, by rw [hl], hP.ints (by omega), hb⟩
  · refine (plan_bad ja js jc na ns nc w hJ hN he).mono ?_
    rintro e w' ⟨rfl, hb⟩
    unfold paV paE
    rw [if_neg (fun h => he h.1), if_neg he]
    exact ⟨none, 0, rfl, intsC_nil _ _, hb⟩
set_option maxRecDepth 100000 in
theorem best_nil (ja : Option Addr) (js : List Jo) (jc : Nat) (na : Option Addr) (ns : List Ni) (nc : Nat) (w : World) (hJ : JobsS w ja js) (hN : NightsS w na ns) (hl : js.length = 0) :
    Calls Try.prog 48 #[.slice ja js.length jc, .slice na ns.length nc, .slice none 0 0] w fun e w' => e = .returned (.slice none 0 0) ∧ w' = w := by
  have d0 : ((0 : Int) == (js.length : Int)) = true := by simp; omega
  clear hJ hN hl
  go_enter Try.func48, Try.ntmps48
  go_wp2_with fail
  go_ret
  exact ⟨rfl, rfl⟩
theorem best_top (ja : Option Addr) (js : List Jo) (jc : Nat) (na : Option Addr) (ns : List Ni) (nc : Nat) (w : World) (hJ : JobsS w ja js) (hN : NightsS w na ns) (he : errL js ns = 0) :
    Calls Try.prog 48 #[.slice ja js.length jc, .slice na ns.length nc, .slice none 0 0] w fun e w' => ∃ a c, e = .returned (.slice a (bestL js ns).length c) ∧ IntsC w' a (bestL js ns) ∧ Below w.heap.size w w' := by
  obtain ⟨m0, m1, hps, hj, hn⟩ := most_bd2 he
  rw [← bst_best (js := js) (ns := ns) hps]
  by_cases hl : js.length = 0
  · refine (best_nil ja js jc na ns nc w hJ hN hl).mono ?_
    rintro e w' ⟨rfl, rfl⟩
    rw [hl]
    exact ⟨none, 0, rfl, intsC_nil _ _, Below.refl _ _⟩
  · refine (best_all js ns (by omega) (by omega) js.length ja jc na nc none [] 0 w hJ hN (intsC_nil _ _) (by simp) (fun i hi => absurd hi (Nat.not_lt_zero _)) (fun h => absurd h hl)).mono ?_
    rintro e w' ⟨p, c, rfl, h1, h2⟩
    exact ⟨some p, c, rfl, h1, h2⟩
set_option maxRecDepth 100000 in
theorem rBest_r (ja : Option Addr) (js : List Jo) (jc : Nat) (na : Option Addr) (ns : List Ni) (nc : Nat) (w : World) (hJ : JobsS w ja js) (hN : NightsS w na ns) :
    Calls Try.prog 24 #[.slice ja js.length jc, .slice na ns.length nc] w fun e w' => LsE (bsV js ns) (errL js ns) w e w' := by
  have H1 := Lib.hid (wrong_r ja js jc na ns nc w hJ hN)
  by_cases he : errL js ns = 0
  · have H2 := Lib.hid (fun W (hW : Below w.heap.size w W) => best_top ja js jc na ns nc W (hJ.below hW) (hN.below hW) he)
    have hv : bsV js ns = bestL js ns := by unfold bsV; rw [if_pos he]
    rw [hv, he]
    rw [he] at H1
    clear hJ hN hv he
    generalize bestL js ns = B at *
    go_enter Try.func24, Try.ntmps24
    go_wp2_with fail
    refine H1.out.mono ?_
    rintro e w1 ⟨rfl, hb1⟩
    go_wp2_with fail
    refine (H2.out _ hb1).mono ?_
    rintro e w2 ⟨a, c, rfl, hA, hb2⟩
    have hA := Lib.hid hA
    go_wp2_with fail
    go_ret2
    exact ⟨a, c, rfl, hA.out, below_onN hb1 hb2 hb1.size⟩
  · have hv : bsV js ns = [] := by unfold bsV; rw [if_neg he]
    rw [hv]
    have hE : (errL js ns == 0) = false := beq_false_of_ne he
    clear hJ hN hv he
    generalize errL js ns = E at *
    go_enter Try.func24, Try.ntmps24
    go_wp2_with fail
    refine H1.out.mono ?_
    rintro e w1 ⟨rfl, hb1⟩
    go_wp2_with fail
    go_ret2
    exact ⟨none, 0, rfl, intsC_nil _ _, hb1⟩
theorem dn_bsV (js : List Jo) (ns : List Ni) : ((dnK (bsV js ns) (bsV js ns).length : Nat) : Int) = moV js ns := by
  unfold bsV moV
  by_cases he : errL js ns = 0
  · have hB := bestL_best js ns (most_bd2 he).2.2.1
    rw [if_pos he, if_pos he, dn_dnK hB.good]; exact hB.most
  · rw [if_neg he, if_neg he]; rfl
set_option maxRecDepth 100000 in
theorem rMost_r (ja : Option Addr) (js : List Jo) (jc : Nat) (na : Option Addr) (ns : List Ni) (nc : Nat) (w : World) (hJ : JobsS w ja js) (hN : NightsS w na ns) :
    Calls Try.prog 22 #[.slice ja js.length jc, .slice na ns.length nc] w fun e w' => e = .returned (.tuple #[.int .i64 (moV js ns), .int .i64 (errL js ns)]) ∧ Below w.heap.size w w' := by
  have H1 := Lib.hid (rBest_r ja js jc na ns nc w hJ hN)
  have HD := Lib.hid (dn_bsV js ns)
  clear hJ hN
  generalize errL js ns = E at *
  generalize bsV js ns = B at *
  generalize moV js ns = M at *
  go_enter Try.func22, Try.ntmps22
  go_wp2_with fail
  refine H1.out.mono ?_
  rintro e w1 ⟨a, c, rfl, hA, hb1⟩
  have H2 := Lib.hid (refDone_v a B c w1 hA)
  rw [HD.out] at H2
  clear hA
  go_wp2_with fail
  refine H2.out.mono ?_
  rintro e w2 ⟨rfl, rfl⟩
  go_wp2_with fail
  go_ret2
  exact ⟨rfl, hb1⟩
set_option maxRecDepth 100000 in
theorem rPlan_r (ja : Option Addr) (js : List Jo) (jc : Nat) (na : Option Addr) (ns : List Ni) (nc : Nat) (w : World) (hJ : JobsS w ja js) (hN : NightsS w na ns) :
    Calls Try.prog 23 #[.slice ja js.length jc, .slice na ns.length nc] w fun e w' => LsE (paV js ns) (paE js ns) w e w' := by
  have H1 := Lib.hid (rBest_r ja js jc na ns nc w hJ hN)
  have HD := Lib.hid (dn_bsV js ns)
  by_cases he : errL js ns = 0
  · obtain ⟨m0, m1, hps, hj, hn⟩ := most_bd2 he
    have hv : bsV js ns = bestL js ns := by unfold bsV; rw [if_pos he]
    have hm : moV js ns = mostN js ns := by unfold moV; rw [if_pos he]
    rw [hv, he] at H1
    rw [hv, hm] at HD
    by_cases hmj : mostN js ns = js.length
    · have e1 : paV js ns = bestL js ns := by unfold paV; rw [if_pos ⟨he, hmj⟩]
      have e2 : paE js ns = 0 := by unfold paE; rw [if_pos he, if_pos hmj]
      rw [e1, e2]
      rw [hmj] at HD
      have hd : decide ((js.length : Int) < js.length) = false := decide_eq_false (by omega)
      clear hJ hN hv hm e1 e2 hmj m0 m1 hps he
      generalize bestL js ns = B at *
      go_enter Try.func23, Try.ntmps23
      go_wp2_with fail
      refine H1.out.mono ?_
      rintro e w1 ⟨a, c, rfl, hA, hb1⟩
      have H2 := Lib.hid (refDone_v a B c w1 hA)
      rw [HD.out] at H2
      have hA := Lib.hid hA
      go_wp2_with fail
      refine H2.out.mono ?_
      rintro e w2 ⟨rfl, rfl⟩
      go_wp2_with fail
      go_ret2
      exact ⟨a, c, rfl, hA.out, hb1⟩
    · have e1 : paV js ns = [] := by unfold paV; rw [if_neg (fun h => hmj h.2)]
      have e2 : paE js ns = 24 := by unfold paE; rw [if_pos he, if_neg hmj]
      rw [e1, e2]
      have hd : decide (mostN js ns < js.length) = true := decide_eq_true (by omega)
      clear hJ hN hv hm e1 e2 hmj m0 m1 hps he
      generalize bestL js ns = B at *
      generalize mostN js ns = M at *
      go_enter Try.func23, Try.ntmps23
      go_wp2_with fail
      refine H1.out.mono ?_
      rintro e w1 ⟨a, c, rfl, hA, hb1⟩
      have H2 := Lib.hid (refDone_v a B c w1 hA)
      rw [HD.out] at H2
      clear hA
      go_wp2_with fail
      refine H2.out.mono ?_
      rintro e w2 ⟨rfl, rfl⟩
      go_wp2_with fail
      go_ret2
      exact ⟨none, 0, rfl, intsC_nil _ _, hb1⟩
  · have e1 : paV js ns = [] := by unfold paV; rw [if_neg (fun h => he h.1)]
    have e2 : paE js ns = errL js ns := by unfold paE; rw [if_neg he]
    have hE : (errL js ns == 0) = false := beq_false_of_ne he
    have hE2 : (errL js ns != 0) = true := by simp [he]
    rw [e1, e2]
    clear hJ hN e1 e2 he HD
    generalize errL js ns = E at *
    generalize bsV js ns = B at *
    go_enter Try.func23, Try.ntmps23
    go_wp2_with fail
    refine H1.out.mono ?_
    rintro e w1 ⟨a, c, rfl, hA, hb1⟩
    clear hA
    go_wp2_with fail
    go_ret2
    exact ⟨none, 0, rfl, intsC_nil _ _, hb1⟩
set_option maxRecDepth 100000 in
set_option maxHeartbeats 2000000 in
theorem nightPlans_a (ja : Option Addr) (js : List Jo) (jc : Nat) (na : Option Addr) (ns : List Ni) (nc : Nat) (w : World) (hJ : JobsS w ja js) (hN : NightsS w na ns) (h0 : wideB js.length ns.length 5 4 = true) :
    Calls Try.prog 6 #[.agg #[.slice ja js.length jc, .slice na ns.length nc]] w fun e w' => e = .returned (.bool true) ∧ Below w.heap.size w w' := by
  have HA := Lib.hid (fun W => awake_any W)
  have hjl := hJ.1
  have HW := Lib.hid (fun W => wide_v ja js.length jc na ns.length nc 5 4 W h0)
  clear h0
  obtain ⟨wB, hwB⟩ : ∃ wB, w.alloc (.cells #[.slice ja js.length jc, .slice na ns.length nc] 25) = wB := ⟨_, rfl⟩
  have hb : Below w.heap.size w wB := by rw [← hwB]; exact (Below.refl _ _).alloc (Nat.le_refl _) _
  have p0 : wB.cell? ⟨w.heap.size, 0, none⟩ = some (.slice ja js.length jc) := by rw [← hwB]; simp [go_sem]
  have p1 : wB.cell? ⟨w.heap.size, 1, none⟩ = some (.slice na ns.length nc) := by rw [← hwB]; simp [go_sem]
  clear hJ hN
  go_enter Try.func6, Try.ntmps6
  go_wp2_with fail
  refine (HW.out _).mono ?_
  rintro e w1 ⟨rfl, hbx⟩
  have p0 := cell_below p0 hbx
  have p1 := cell_below p1 hbx
  have hb := below_onN hb hbx hb.size
  clear hbx
  go_wp2_with fail
  refine (HA.out _).mono ?_
  rintro e wz ⟨rfl, hbz⟩
  go_wp2_with fail
  go_ret
  exact ⟨rfl, below_onN hb hbz hb.size⟩
set_option maxRecDepth 100000 in
set_option maxHeartbeats 4000000 in
theorem nightPlans_b (ja : Option Addr) (js : List Jo) (jc : Nat) (na : Option Addr) (ns : List Ni) (nc : Nat) (w : World) (hJ : JobsS w ja js) (hN : NightsS w na ns) (h0 : wideB js.length ns.length 5 4 = false) :
    Calls Try.prog 6 #[.agg #[.slice ja js.length jc, .slice na ns.length nc]] w fun e w' => e = .returned (.bool true) ∧ Below w.heap.size w w' := by
  have HA := Lib.hid (fun W => awake_any W)
  have hjl := hJ.1
  have HW := Lib.hid (fun W => wide_v ja js.length jc na ns.length nc 5 4 W h0)
  have HM := Lib.hid (fun W (hW : Below w.heap.size w W) => nMost_r ja js jc na ns nc W (hJ.below hW) (hN.below hW))
  have HM2 := Lib.hid (fun W (hW : Below w.heap.size w W) => rMost_r ja js jc na ns nc W (hJ.below hW) (hN.below hW))
  have HP := Lib.hid (fun W (hW : Below w.heap.size w W) => nPlan_r ja js jc na ns nc W (hJ.below hW) (hN.below hW))
  have HP2 := Lib.hid (fun W (hW : Below w.heap.size w W) => rPlan_r ja js jc na ns nc W (hJ.below hW) (hN.below hW))
  have HB := Lib.hid (fun W (hW : Below w.heap.size w W) => nBest_r ja js jc na ns nc W (hJ.below hW) (hN.below hW))
  have HB2 := Lib.hid (fun W (hW : Below w.heap.size w W) => rBest_r ja js jc na ns nc W (hJ.below hW) (hN.below hW))
  clear h0
  generalize errL js ns = E at *
  generalize moV js ns = M at *
  generalize paV js ns = PV at *
  generalize paE js ns = PX at *
  generalize bsV js ns = BV at *
  obtain ⟨wB, hwB⟩ : ∃ wB, w.alloc (.cells #[.slice ja js.length jc, .slice na ns.length nc] 25) = wB := ⟨_, rfl⟩
  have hb : Below w.heap.size w wB := by rw [← hwB]; exact (Below.refl _ _).alloc (Nat.le_refl _) _
  have p0 : wB.cell? ⟨w.heap.size, 0, none⟩ = some (.slice ja js.length jc) := by rw [← hwB]; simp [go_sem]
  have p1 : wB.cell? ⟨w.heap.size, 1, none⟩ = some (.slice na ns.length nc) := by rw [← hwB]; simp [go_sem]
  clear hJ hN
  go_enter Try.func6, Try.ntmps6
  go_wp2_with fail
  refine (HW.out _).mono ?_
  rintro e w1 ⟨rfl, hbx⟩
  have p0 := cell_below p0 hbx
  have p1 := cell_below p1 hbx
  have hb := below_onN hb hbx hb.size
  clear hbx
  go_wp2_with fail
  refine (HM.out _ hb).mono ?_
  rintro e w2 ⟨rfl, hbx⟩
  have p0 := cell_below p0 hbx
  have p1 := cell_below p1 hbx
  have hb := below_onN hb hbx hb.size
  clear hbx
  go_wp2_with fail
  refine (HM2.out _ hb).mono ?_
  rintro e w3 ⟨rfl, hbx⟩
  have p0 := cell_below p0 hbx
  have p1 := cell_below p1 hbx
  have hb := below_onN hb hbx hb.size
  clear hbx
  go_wp2_with fail
  refine (HP.out _ hb).mono ?_
  rintro e w4 ⟨a1, c1, rfl, h1, hbx⟩
  have p0 := cell_below p0 hbx
  have p1 := cell_below p1 hbx
  have hb := below_onN hb hbx hb.size
  have h1 := Lib.hid h1
  clear hbx
  go_wp2_with fail
  refine (HP2.out _ hb).mono ?_
  rintro e w5 ⟨a2, c2, rfl, h2, hbx⟩
  have p0 := cell_below p0 hbx
  have p1 := cell_below p1 hbx
  have hb := below_onN hb hbx hb.size
  have h1 := Lib.hid (h1.out.below hbx)
  have h2 := Lib.hid h2
  clear hbx
  go_wp2_with fail
  refine (HB.out _ hb).mono ?_
  rintro e w6 ⟨a3, c3, rfl, h3, hbx⟩
  have p0 := cell_below p0 hbx
  have p1 := cell_below p1 hbx
  have hb := below_onN hb hbx hb.size
  have h1 := Lib.hid (h1.out.below hbx)
  have h2 := Lib.hid (h2.out.below hbx)
  have h3 := Lib.hid h3
  clear hbx
  go_wp2_with fail
  refine (HB2.out _ hb).mono ?_
  rintro e w7 ⟨a4, c4, rfl, h4, hbx⟩
  have p0 := cell_below p0 hbx
  have p1 := cell_below p1 hbx
  have hb := below_onN hb hbx hb.size
  have h1 := Lib.hid (h1.out.below hbx)
  have h2 := Lib.hid (h2.out.below hbx)
  have h3 := Lib.hid (h3.out.below hbx)
  have h4 := Lib.hid h4
  clear hbx
  have HS1 := Lib.hid (sameInts_eq a1 a2 PV c1 c2 w7 h1.out h2.out)
  have HS2 := Lib.hid (fun W (hW : Below w7.heap.size w7 W) => sameInts_eq a3 a4 BV c3 c4 W (h3.out.below hW) (h4.out.below hW))
  clear h1 h2 h3 h4 p0 p1 HM HM2 HP HP2 HB HB2 HW
  go_wp2_with fail
  refine HS1.out.mono ?_
  rintro e w8 ⟨rfl, hb8⟩
  go_wp2_with fail
  refine (HS2.out _ hb8).mono ?_
  rintro e w9 ⟨rfl, hb9⟩
  have hb := below_onN hb (hb8.trans (hb9.mono hb8.size)) hb.size
  clear hb8 hb9
  go_wp2_with fail
  refine (HA.out _).mono ?_
  rintro e wz ⟨rfl, hbz⟩
  go_wp2_with fail
  go_ret
  exact ⟨rfl, below_onN hb hbz hb.size⟩
theorem nightPlans_any (ja : Option Addr) (js : List Jo) (jc : Nat) (na : Option Addr) (ns : List Ni) (nc : Nat) (w : World) (hJ : JobsS w ja js) (hN : NightsS w na ns) :
    Calls Try.prog 6 #[.agg #[.slice ja js.length jc, .slice na ns.length nc]] w fun e w' => e = .returned (.bool true) ∧ Below w.heap.size w w' := by
  cases h0 : wideB js.length ns.length 5 4 with
  | true => exact nightPlans_a ja js jc na ns nc w hJ hN h0
  | false => exact nightPlans_b ja js jc na ns nc w hJ hN h0
end Go.Proofs.Ytghlhjiomebmhaa
