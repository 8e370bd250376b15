/-
  The law NightBest of package night. By an AI agent.
-/
import Derived.Test.YtghlhjiomebmhaaNiYb
import Derived.Test.YtghlhjiomebmhaaNiYn
import Derived.Test.YtghlhjiomebmhaaNiPl
import Derived.Test.YtghlhjiomebmhaaNiAw
import Derived.Test.YtghlhjiomebmhaaNiRd
import Derived.Deep.RegionHeld3
import Derived.BigQuiet
import Derived.StillTailTactics
import Derived.Deep.DeepCutAuto
namespace Go.Proofs.Ytghlhjiomebmhaa
set_option linter.unusedVariables false
set_option linter.unusedSimpArgs false
open Go.RowKit

set_option maxRecDepth 100000 in
set_option maxHeartbeats 2000000 in
theorem nightBest_a (ja : Option Addr) (js : List Jo) (jc : Nat) (na : Option Addr) (ns : List Ni) (nc : Nat) (w : World) (hJ : JobsS w ja js) (hN : NightsS w na ns) (h0 : wideB js.length ns.length 30 30 = true) :
    Calls Try.prog 5 #[.agg #[.slice ja js.length jc, .slice na ns.length nc]] w fun e w' => e = .returned (.bool true) ∧ Below w.heap.size w w' := by
  have HA := Lib.hid (fun W => awake_any W)
  have hjl := hJ.1
  have HW := Lib.hid (fun W => wide_v ja js.length jc na ns.length nc 30 30 W h0)
  clear h0
  obtain ⟨wB, hwB⟩ : ∃ wB, w.alloc (.cells #[.slice ja js.length jc, .slice na ns.length nc] 25) = wB := ⟨_, rfl⟩
  have hb : Below w.heap.size w wB := by rw [← hwB]; exact (Below.refl _ _).alloc (Nat.le_refl _) _
  have p0 : wB.cell? ⟨w.heap.size, 0, none⟩ = some (.slice ja js.length jc) := by rw [← hwB]; simp [go_sem]
  have p1 : wB.cell? ⟨w.heap.size, 1, none⟩ = some (.slice na ns.length nc) := by rw [← hwB]; simp [go_sem]
  clear hJ hN
  go_enter Try.func5, Try.ntmps5
  go_wp2_with fail
  refine (HW.out _).mono ?_
  rintro e w1 ⟨rfl, hbx⟩
  have p0 := cell_below p0 hbx
  have p1 := cell_below p1 hbx
  have hb := below_onN hb hbx hb.size
  clear hbx
  go_wp2_with fail
  refine (HA.out _).mono ?_
  rintro e wz ⟨rfl, hbz⟩
  go_wp2_with fail
  go_ret
  exact ⟨rfl, below_onN hb hbz hb.size⟩
set_option maxRecDepth 100000 in
set_option maxHeartbeats 2000000 in
theorem nightBest_c (ja : Option Addr) (js : List Jo) (jc : Nat) (na : Option Addr) (ns : List Ni) (nc : Nat) (w : World) (hJ : JobsS w ja js) (hN : NightsS w na ns) (h0 : wideB js.length ns.length 30 30 = false) (h2 : (errL js ns == 0) = false) :
    Calls Try.prog 5 #[.agg #[.slice ja js.length jc, .slice na ns.length nc]] w fun e w' => e = .returned (.bool true) ∧ Below w.heap.size w w' := by
  have HA := Lib.hid (fun W => awake_any W)
  have hjl := hJ.1
  have HW := Lib.hid (fun W => wide_v ja js.length jc na ns.length nc 30 30 W h0)
  have HV := Lib.hid (fun W (hW : Below w.heap.size w W) => refValid_r ja js jc na ns nc W (hJ.below hW) (hN.below hW) (v := false) h2)
  clear h0 h2
  obtain ⟨wB, hwB⟩ : ∃ wB, w.alloc (.cells #[.slice ja js.length jc, .slice na ns.length nc] 25) = wB := ⟨_, rfl⟩
  have hb : Below w.heap.size w wB := by rw [← hwB]; exact (Below.refl _ _).alloc (Nat.le_refl _) _
  have p0 : wB.cell? ⟨w.heap.size, 0, none⟩ = some (.slice ja js.length jc) := by rw [← hwB]; simp [go_sem]
  have p1 : wB.cell? ⟨w.heap.size, 1, none⟩ = some (.slice na ns.length nc) := by rw [← hwB]; simp [go_sem]
  clear hJ hN
  go_enter Try.func5, Try.ntmps5
  go_wp2_with fail
  refine (HW.out _).mono ?_
  rintro e w1 ⟨rfl, hbx⟩
  have p0 := cell_below p0 hbx
  have p1 := cell_below p1 hbx
  have hb := below_onN hb hbx hb.size
  clear hbx
  go_wp2_with fail
  refine (HV.out _ hb).mono ?_
  rintro e w2 ⟨rfl, hbx⟩
  have p0 := cell_below p0 hbx
  have p1 := cell_below p1 hbx
  have hb := below_onN hb hbx hb.size
  clear hbx
  go_wp2_with fail
  refine (HA.out _).mono ?_
  rintro e wz ⟨rfl, hbz⟩
  go_wp2_with fail
  go_ret
  exact ⟨rfl, below_onN hb hbz hb.size⟩
/-- The plan with one job in another night. -/
theorem own_ne {w : World} {base c n : Nat} {b : Option Addr} {xs : List Value} (h : w.ownsRow base 3 1 (.slice b n c) n xs) (hn : 0 < n) : b ≠ none := by
  rintro rfl
  rcases h.2 with ⟨h1, h2⟩ | ⟨g2, c2, cur, h1, _⟩
  · omega
  · cases h1
set_option maxRecDepth 100000 in
set_option maxHeartbeats 8000000 in
theorem nightBest_d (ja : Option Addr) (js : List Jo) (jc : Nat) (na : Option Addr) (ns : List Ni) (nc : Nat) (w : World) (hJ : JobsS w ja js) (hN : NightsS w na ns) (h0 : wideB js.length ns.length 30 30 = false) (h2 : (errL js ns == 0) = true) :
    Calls Try.prog 5 #[.agg #[.slice ja js.length jc, .slice na ns.length nc]] w fun e w' => e = .returned (.bool true) ∧ Below w.heap.size w w' := by
  have HA := Lib.hid (fun W => awake_any W)
  have hjl := hJ.1
  have he : errL js ns = 0 := by simpa using h2
  have v2 := (errL_ok he).2
  have hjn := jobsB_len (errL_ok he).1
  have hnn := nightsB_len v2
  have hps : ∀ i, i < ns.length → 0 ≤ (gn ns i).p ∧ (gn ns i).p ≤ 100 := fun i hi => nightB_p (nightsB_ok v2 hi)
  have hBst := bestL_best js ns (fun i hi => (hps i hi).1)
  have HBL := Lib.hid (bestL_len js ns)
  have hpl := good_pln hBst.good
  have hrg := (rgt_good hpl).2 hBst.good
  have hMM : mostN js ns = dnN (grtL js ns) := rfl
  obtain ⟨hM0, hM1⟩ := dnN_b (grtL js ns)
  rw [← hMM, grtL_len] at hM1
  rw [← hMM] at hM0
  have HM := Lib.hid (fun W (hW : Below w.heap.size w W) => most_ok ja js jc na ns nc W (hJ.below hW) (hN.below hW) he)
  have HB := Lib.hid (fun W (hW : Below w.heap.size w W) => best_ok ja js jc na ns nc W (hJ.below hW) (hN.below hW) he)
  have HRt := Lib.hid (fun W (hW : Below w.heap.size w W) (a : Option Addr) (l : List Int) (ca : Nat) (hA : IntsC W a l) => refRight_r ja js jc na ns nc a l ca W (hJ.below hW) (hN.below hW) hA)
  have HDo := Lib.hid (fun W (hW : Below w.heap.size w W) (a : Option Addr) (l : List Int) (ca : Nat) (hA : IntsC W a l) => refDone_r ja js jc na ns nc a l ca W (hJ.below hW) (hN.below hW) hA)
  have HPn := Lib.hid (fun W (hW : Below w.heap.size w W) => plan_ok ja js jc na ns nc W (hJ.below hW) (hN.below hW) he)
  have HW := Lib.hid (fun W => wide_v ja js.length jc na ns.length nc 30 30 W h0)
  have HV := Lib.hid (fun W (hW : Below w.heap.size w W) => refValid_r ja js jc na ns nc W (hJ.below hW) (hN.below hW) (v := true) h2)
  have HrV : Hid (rtV js ns (bestL js ns) = true) := Lib.hid (by unfold rtV; rw [decide_eq_true he, hpl, hrg]; rfl)
  have HrE : Hid (∀ l, plnB js.length ns.length l = true → rtE js ns l = 0) := Lib.hid fun l h => by unfold rtE; rw [if_pos he, h]; rfl
  have HpE : Hid (plnE js ns (bestL js ns) = 0) := Lib.hid (by unfold plnE; rw [if_pos he, hpl, hrg]; rfl)
  have HdV : Hid (doV js ns (bestL js ns) = mostN js ns) := Lib.hid (by unfold doV; rw [HpE.out, if_pos rfl, dn_dnK hBst.good]; exact hBst.most)
  have HNo : Hid (∀ k q : Nat, k < js.length → (q : Int) < ordN ns.length (gi (bestL js ns) k) → q < ns.length → rtV js ns ((bestL js ns).set k q) = false ∧ rtE js ns ((bestL js ns).set k q) = 0) := Lib.hid fun k q hk hq hqn => by
    have hp2 : plnB js.length ns.length ((bestL js ns).set k q) = true := by
      rw [plnB_iff] at hpl ⊢
      refine ⟨by rw [List.length_set]; exact hpl.1, fun i hi => ?_⟩
      rw [List.length_set] at hi
      rw [gi_set _ k q i (by omega)]
      split
      · omega
      · exact hpl.2 i hi
    refine ⟨?_, HrE.out _ hp2⟩
    unfold rtV
    rw [hp2, decide_eq_true he]
    cases e : rgtB js ns ((bestL js ns).set k q) with
    | false => rfl
    | true => exact absurd ((rgt_good hp2).1 e) (best_no (fun i hi => (hps i hi).1) hk hq)
  have HEn : Hid (∀ k, k < js.length → gi (bestL js ns) k = -1 ∨ ∃ m : Nat, gi (bestL js ns) k = m ∧ m < ns.length) := Lib.hid fun k hk => good_ent hBst.good hk
  have HrE0 := Lib.hid (HrE.out _ hpl)
  have HPB : Hid (mostN js ns = js.length → planL js ns = bestL js ns) := Lib.hid (plan_best js ns (fun i hi => (hps i hi).1))
  have HGA : Hid ((∀ u, u < js.length → gi (grtL js ns) u ≠ -1) → mostN js ns = js.length) := Lib.hid fun h => (dn_all (grtL_good (fun i hi => (hps i hi).1))).2 fun i hi => by
    have h1 := h i hi
    rcases good_ent (grtL_good (js := js) (ns := ns) (fun i hi => (hps i hi).1)) hi with h2 | ⟨m, h2, _⟩ <;> omega
  have HGE : Hid ((∃ u, u < js.length ∧ gi (grtL js ns) u = -1) → mostN js ns < js.length) := Lib.hid fun ⟨u, hu, h⟩ => by
    have h3 := mt (dn_all (grtL_good (js := js) (ns := ns) (fun i hi => (hps i hi).1))).1 (fun hh => by have := hh u hu; omega)
    omega
  clear h0 h2 hps v2 hMM he hBst hpl hrg HrE
  obtain ⟨wB, hwB⟩ : ∃ wB, w.alloc (.cells #[.slice ja js.length jc, .slice na ns.length nc] 25) = wB := ⟨_, rfl⟩
  have hb : Below w.heap.size w wB := by rw [← hwB]; exact (Below.refl _ _).alloc (Nat.le_refl _) _
  have p0 : wB.cell? ⟨w.heap.size, 0, none⟩ = some (.slice ja js.length jc) := by rw [← hwB]; simp [go_sem]
  have p1 : wB.cell? ⟨w.heap.size, 1, none⟩ = some (.slice na ns.length nc) := by rw [← hwB]; simp [go_sem]
  clear hJ hN
  go_enter Try.func5, Try.ntmps5
  go_wp2_with fail
  refine (HW.out _).mono ?_
  rintro e w1 ⟨rfl, hbx⟩
  have p0 := cell_below p0 hbx
  have p1 := cell_below p1 hbx
  have hb := below_onN hb hbx hb.size
  clear hbx
  go_wp2_with fail
  refine (HV.out _ hb).mono ?_
  rintro e w2 ⟨rfl, hbx⟩
  have p0 := cell_below p0 hbx
  have p1 := cell_below p1 hbx
  have hb := below_onN hb hbx hb.size
  clear hbx
  go_wp2_with fail
  refine (HM.out _ hb).mono ?_
  rintro e w3 ⟨rfl, hbx⟩
  have p0 := cell_below p0 hbx
  have p1 := cell_below p1 hbx
  have hb := below_onN hb hbx hb.size
  clear hbx
  go_wp2_with fail
  refine (HB.out _ hb).mono ?_
  rintro e w4 ⟨g, cg, rfl, hPl, hg1, hg2, hbx⟩
  have p0 := cell_below p0 hbx
  have p1 := cell_below p1 hbx
  have hb := below_onN hb hbx hb.size
  clear hbx
  have hPi : IntsC w4 (some ⟨g, 0, none⟩) (bestL js ns) := hPl.ints (by rw [HBL.out]; omega)
  have HR1 := Lib.hid (HRt.out w4 hb _ _ cg hPi)
  rw [HBL.out, HrV.out, HrE0.out] at HR1
  rw [HBL.out]
  go_wp2_with fail
  refine HR1.out.mono ?_
  rintro e w5 ⟨rfl, hbx⟩
  have p0 := cell_below p0 hbx
  have p1 := cell_below p1 hbx
  have hb := below_onN hb hbx hb.size
  have hPi := hPi.below hbx
  have HD1 := Lib.hid (HDo.out w5 hb _ _ cg hPi)
  have hPl := hPl.same (hbx.block g hg2)
  have hg2 := Nat.lt_of_lt_of_le hg2 hbx.size
  rw [HBL.out, HdV.out, HpE.out] at HD1
  clear HR1 hbx
  go_wp2_with fail
  refine HD1.out.mono ?_
  rintro e w6 ⟨rfl, hbx⟩
  have p0 := cell_below p0 hbx
  have p1 := cell_below p1 hbx
  have hb := below_onN hb hbx hb.size
  have hPi := hPi.below hbx
  have hPl := hPl.same (hbx.block g hg2)
  have hg2 := Nat.lt_of_lt_of_le hg2 hbx.size
  clear HD1 hbx HdV HpE HrV HrE0 HDo HB HM HV HW
  generalize hM : mostN js ns = M at *
  have HMe := Lib.hid hM
  clear hM
  generalize bestL js ns = BL at *
  have HPl := Lib.hid hPl
  have HPi := Lib.hid (fun W (hW : Below w6.heap.size w6 W) => hPi.below hW)
  have HP0 := Lib.hid p0
  have HP1 := Lib.hid p1
  clear hPl hPi
  go_wp2_with fail
  go_loopw [11] (fun i wr => ∃ k : Nat, k ≤ js.length ∧ i = .int .i64 k ∧ Below w6.heap.size w6 wr) (fun i _ => js.length - (intOf i).toNat)
  case atStart => exact ⟨0, Nat.zero_le _, rfl, Below.refl _ _⟩
  case round =>
    obtain ⟨k, hk, rfl, hbr⟩ := hrel
    clear p0 p1
    by_cases hlt : k < js.length
    · have e0 := HPl.out.1 k (by rw [HBL.out]; exact hlt)
      have HNk := Lib.hid (fun q => HNo.out k q hlt)
      have HHb := Lib.hid (HEn.out k hlt)
      clear HEn HNo HPB HGA HGE HPn
      generalize hxx : gi BL k = x at *
      clear hxx
      go_wp2_with fail
      obtain ⟨wo, rfl⟩ : ∃ wo : World, wo = wr := ⟨_, rfl⟩
      go_loopw [12] (fun i wr => ∃ q : Nat, q ≤ ns.length ∧ i = .int .i64 q ∧ Below w6.heap.size w6 wr) (fun i _ => ns.length - (intOf i).toNat)
      case atStart => exact ⟨0, Nat.zero_le _, rfl, hbr⟩
      case round =>
        obtain ⟨q, hq, rfl, hbr⟩ := hrel
        have p1 := cell_below HP1.out hbr
        have e0 := cell_below e0 hbr
        have p0 := cell_below HP0.out hbr
        have k1 : decide ((0 : Int) ≤ k) = true := decide_eq_true (by omega)
        have k2 : decide ((k : Int) < js.length) = true := decide_eq_true (by omega)
        by_cases hlq : q < ns.length
        · by_cases hx : 0 ≤ x ∧ x ≤ q
          · obtain ⟨hx1, hx2⟩ := hx
            have d1 : decide ((0 : Int) ≤ x) = true := decide_eq_true hx1
            have d2 : decide (x ≤ (q : Int)) = true := decide_eq_true hx2
            clear HNk
            go_wp2_with fail
            go_roundw
            case rel => exact ⟨k + 1, by omega, by go_num, hbr⟩
            case measure => simp [intOf]; omega
          · have hlo : (q : Int) < ordN ns.length x := by
              rcases HHb.out with h | ⟨m, h, hm⟩
              · rw [h, ordN, if_pos rfl]; omega
              · rw [ordN, if_neg (by omega)]; omega
            obtain ⟨hv1, hv2⟩ := HNk.out q hlo hlq
            have HV1 := Lib.hid hv1
            have HV2 := Lib.hid hv2
            clear hv1 hv2 HNk hlo
            have HE := Lib.hid (World.ownsRow_made (base := wr.heap.size) (e := 3) (size := 1) wr #[] 0 (Nat.le_refl _) (Nat.zero_le _) (by simp))
            have HPI := Lib.hid ((HPi.out wr hbr).below ((Below.refl wr.heap.size wr).alloc (Nat.le_refl _) (.cells #[] 3)))
            have HB6 := Lib.hid ((Below.refl wr.heap.size wr).alloc (Nat.le_refl _) (.cells #[] 3))
            have HPc : Hid (Below w.heap.size w wr) := Lib.hid (below_onN hb hbr hb.size)
            rcases Int.lt_or_le x 0 with hx1 | hx1
            · have d1 : decide ((0 : Int) ≤ x) = false := decide_eq_false (by omega)
              go_upto_region 17 with (at_builtin; go_loud (refine app_ints _ (by rfl) _ _ (by rfl) wr.heap.size (some ⟨wr.heap.size, 0, none⟩) 0 0 [] (by rfl) HE.out (some ⟨g, 0, none⟩) BL cg (by rw [HBL.out]; rfl) HPI.out (by rw [HBL.out]; omega) (by simp) ?_); intro b9 c9 wg hown9 hb9)
              have hown9 : wg.ownsRow wr.heap.size 3 1 (.slice b9 BL.length c9) BL.length (clI BL) := by simpa using hown9
              obtain ⟨g9, rfl, hg9, hg10, hP9⟩ := planR_own hown9 (own_ne hown9 (by rw [HBL.out]; omega))
              have hbg : Below wr.heap.size wr wg := HB6.out.trans hb9
              have HPs := Lib.hid (hP9.store (j := k) (by rw [HBL.out]; exact hlt) (q : Int))
              have HBs : Hid (Below wr.heap.size wr (wg.setCell ⟨g9, k, none⟩ (.int .i64 q))) := Lib.hid (hbg.setCell hg9 _)
              have cv := hP9.1 k (by rw [HBL.out]; exact hlt)
              have cf := hP9.2 k (by rw [HBL.out]; exact hlt)
              have Hp0 := Lib.hid p0
              have Hp1 := Lib.hid p1
              clear hown9 hP9 HE HPI HB6 hb9 p0 p1 e0 hbg
              rw [HBL.out]
              go_upto_region 18 with (fail)
              obtain ⟨wh, hwh⟩ : ∃ wh, wg.setCell ⟨g9, k, none⟩ (.int .i64 q) = wh := ⟨_, rfl⟩
              rw [hwh] at HPs HBs
              rw [hwh]
              clear cv cf hwh
              have hbh := HBs.out
              have p0 := cell_below Hp0.out hbh
              have p1 := cell_below Hp1.out hbh
              have hbw := below_onN HPc.out hbh HPc.out.size
              have HRx := Lib.hid (HRt.out wh hbw (some ⟨g9, 0, none⟩) (BL.set k q) c9 (HPs.out.ints (by rw [List.length_set, HBL.out]; omega)))
              rw [HV1.out, HV2.out, List.length_set, HBL.out] at HRx
              go_wp2_with fail
              refine HRx.out.mono ?_
              rintro e wi ⟨rfl, hbi⟩
              go_wp2_with fail
              go_roundw
              case rel => exact ⟨q + 1, by omega, by go_num, hbr.trans ((hbh.trans (hbi.mono hbh.size)).mono hbr.size)⟩
              case measure => simp [intOf]; omega
            · have d1 : decide ((0 : Int) ≤ x) = true := decide_eq_true (by omega)
              have d2 : decide (x ≤ (q : Int)) = false := decide_eq_false (by omega)
              go_upto_region 17 with (at_builtin; go_loud (refine app_ints _ (by rfl) _ _ (by rfl) wr.heap.size (some ⟨wr.heap.size, 0, none⟩) 0 0 [] (by rfl) HE.out (some ⟨g, 0, none⟩) BL cg (by rw [HBL.out]; rfl) HPI.out (by rw [HBL.out]; omega) (by simp) ?_); intro b9 c9 wg hown9 hb9)
              have hown9 : wg.ownsRow wr.heap.size 3 1 (.slice b9 BL.length c9) BL.length (clI BL) := by simpa using hown9
              obtain ⟨g9, rfl, hg9, hg10, hP9⟩ := planR_own hown9 (own_ne hown9 (by rw [HBL.out]; omega))
              have hbg : Below wr.heap.size wr wg := HB6.out.trans hb9
              have HPs := Lib.hid (hP9.store (j := k) (by rw [HBL.out]; exact hlt) (q : Int))
              have HBs : Hid (Below wr.heap.size wr (wg.setCell ⟨g9, k, none⟩ (.int .i64 q))) := Lib.hid (hbg.setCell hg9 _)
              have cv := hP9.1 k (by rw [HBL.out]; exact hlt)
              have cf := hP9.2 k (by rw [HBL.out]; exact hlt)
              have Hp0 := Lib.hid p0
              have Hp1 := Lib.hid p1
              clear hown9 hP9 HE HPI HB6 hb9 p0 p1 e0 hbg
              rw [HBL.out]
              go_upto_region 18 with (fail)
              obtain ⟨wh, hwh⟩ : ∃ wh, wg.setCell ⟨g9, k, none⟩ (.int .i64 q) = wh := ⟨_, rfl⟩
              rw [hwh] at HPs HBs
              rw [hwh]
              clear cv cf hwh
              have hbh := HBs.out
              have p0 := cell_below Hp0.out hbh
              have p1 := cell_below Hp1.out hbh
              have hbw := below_onN HPc.out hbh HPc.out.size
              have HRx := Lib.hid (HRt.out wh hbw (some ⟨g9, 0, none⟩) (BL.set k q) c9 (HPs.out.ints (by rw [List.length_set, HBL.out]; omega)))
              rw [HV1.out, HV2.out, List.length_set, HBL.out] at HRx
              go_wp2_with fail
              refine HRx.out.mono ?_
              rintro e wi ⟨rfl, hbi⟩
              go_wp2_with fail
              go_roundw
              case rel => exact ⟨q + 1, by omega, by go_num, hbr.trans ((hbh.trans (hbi.mono hbh.size)).mono hbr.size)⟩
              case measure => simp [intOf]; omega
        · obtain rfl : q = ns.length := by omega
          clear HNk
          go_wp2_with fail
          go_roundw
          case rel => exact ⟨k + 1, by omega, by go_num, hbr⟩
          case measure => simp [intOf]; omega
    · obtain rfl : k = js.length := by omega
      have hb := below_onN hb hbr hb.size
      have p0 := cell_below HP0.out hbr
      have p1 := cell_below HP1.out hbr
      have HPe := Lib.hid (HPi.out wr hbr)
      clear HNo HEn HPl HP0 HP1 HRt HPi
      by_cases hMl : M < js.length
      · have dM : decide (M < (js.length : Int)) = true := decide_eq_true hMl
        go_wp2_with fail
        refine (HPn.out _ hb).mono ?_
        rintro e w7 hE
        rcases hE with ⟨rfl, hbx, -⟩ | ⟨_, _, h⟩
        rotate_left
        · exfalso; have := HGA.out h; omega
        have p0 := cell_below p0 hbx
        have hb := below_onN hb hbx hb.size
        clear hbx HGA HGE HPB HPn
        go_wp2_with fail
        refine (HA.out _).mono ?_
        rintro e wz ⟨rfl, hbz⟩
        go_wp2_with fail
        go_ret
        exact ⟨rfl, below_onN hb hbz hb.size⟩
      · have dM : decide (M < (js.length : Int)) = false := decide_eq_false hMl
        go_wp2_with fail
        refine (HPn.out _ hb).mono ?_
        rintro e w7 hE
        rcases hE with ⟨_, _, h⟩ | ⟨⟨g7, c7, rfl, hP7, hg7, hg8⟩, hbx, h⟩
        · exfalso; have := HGE.out h; omega
        have p0 := cell_below p0 hbx
        have hb := below_onN hb hbx hb.size
        rw [HPB.out (by have := HGA.out h; omega)] at hP7
        have hPe := HPe.out.below hbx
        have HSm := Lib.hid (sameInts_eq (some ⟨g7, 0, none⟩) (some ⟨g, 0, none⟩) BL c7 cg w7 (hP7.ints (by rw [HBL.out]; omega)) hPe)
        rw [HBL.out] at HSm
        clear hbx HGA HGE HPB HPn hP7 hPe HPe h
        go_wp2_with fail
        refine HSm.out.mono ?_
        rintro e w8 ⟨rfl, hbx⟩
        have hb := below_onN hb hbx hb.size
        clear hbx
        go_wp2_with fail
        refine (HA.out _).mono ?_
        rintro e wz ⟨rfl, hbz⟩
        go_wp2_with fail
        go_ret
        exact ⟨rfl, below_onN hb hbz hb.size⟩
theorem nightBest_any (ja : Option Addr) (js : List Jo) (jc : Nat) (na : Option Addr) (ns : List Ni) (nc : Nat) (w : World) (hJ : JobsS w ja js) (hN : NightsS w na ns) :
    Calls Try.prog 5 #[.agg #[.slice ja js.length jc, .slice na ns.length nc]] w fun e w' => e = .returned (.bool true) ∧ Below w.heap.size w w' := by
  cases h0 : wideB js.length ns.length 30 30 with
  | true => exact nightBest_a ja js jc na ns nc w hJ hN h0
  | false =>
    cases h2 : (errL js ns == 0) with
    | false => exact nightBest_c ja js jc na ns nc w hJ hN h0 h2
    | true => exact nightBest_d ja js jc na ns nc w hJ hN h0 h2
end Go.Proofs.Ytghlhjiomebmhaa
