/-
  The law NightShortages of package night. By an AI agent.
-/
import Derived.Test.YtpkafkhdococeaaNiSj
import Derived.Deep.RegionHeld3
import Derived.BigQuiet
namespace Go.Proofs.Ytpkafkhdococeaa
set_option linter.unusedVariables false
set_option linter.unusedSimpArgs false
open Go.RowKit

set_option maxRecDepth 100000 in
set_option maxHeartbeats 2000000 in
theorem nightShortages_a (ja : Option Addr) (js : List Jo) (jc : Nat) (na : Option Addr) (ns : List Ni) (nc : Nat) (a : Option Addr) (l : List Int) (ca : Nat) (w : World) (hJ : JobsS w ja js) (hN : NightsS w na ns) (hI : IntsS w a l) (h0 : wideB js.length ns.length 40 40 = true) :
    Calls Try.prog 5 #[.agg #[.slice ja js.length jc, .slice na ns.length nc], .slice a l.length ca] w fun e w' => e = .returned (.bool true) ∧ Below w.heap.size w w' := by
  have HA := Lib.hid (fun W => awake_any W)
  have hl := hI.1
  have HW := Lib.hid (fun W => wide_v ja js.length jc na ns.length nc 40 40 W h0)
  clear h0 hJ hN
  obtain ⟨wB, hwB⟩ : ∃ wB, w.alloc (.cells #[.slice ja js.length jc, .slice na ns.length nc] 25) = wB := ⟨_, rfl⟩
  have hb : Below w.heap.size w wB := by rw [← hwB]; exact (Below.refl _ _).alloc (Nat.le_refl _) _
  have p0 : wB.cell? ⟨w.heap.size, 0, none⟩ = some (.slice ja js.length jc) := by rw [← hwB]; simp [go_sem]
  have p1 : wB.cell? ⟨w.heap.size, 1, none⟩ = some (.slice na ns.length nc) := by rw [← hwB]; simp [go_sem]

  clear hI
  go_enter Try.func5, Try.ntmps5
  go_wp2_with fail
  refine (HW.out _).mono ?_
  rintro e w1 ⟨rfl, hbx⟩
  have p0 := cell_below p0 hbx
  have p1 := cell_below p1 hbx
  have hb := below_onN hb hbx hb.size
  clear hbx
  go_wp2_with fail
  refine (HA.out _).mono ?_
  rintro e wz ⟨rfl, hbz⟩
  go_wp2_with fail
  go_ret
  exact ⟨rfl, below_onN hb hbz hb.size⟩

set_option maxRecDepth 100000 in
set_option maxHeartbeats 2000000 in
theorem nightShortages_b (ja : Option Addr) (js : List Jo) (jc : Nat) (na : Option Addr) (ns : List Ni) (nc : Nat) (a : Option Addr) (l : List Int) (ca : Nat) (w : World) (hJ : JobsS w ja js) (hN : NightsS w na ns) (hI : IntsS w a l) (h0 : wideB js.length ns.length 40 40 = false) (h1 : 60 < l.length) :
    Calls Try.prog 5 #[.agg #[.slice ja js.length jc, .slice na ns.length nc], .slice a l.length ca] w fun e w' => e = .returned (.bool true) ∧ Below w.heap.size w w' := by
  have HA := Lib.hid (fun W => awake_any W)
  have hl := hI.1
  have HW := Lib.hid (fun W => wide_v ja js.length jc na ns.length nc 40 40 W h0)
  have d1 : decide ((60 : Int) < l.length) = true := decide_eq_true (by omega)
  clear h0 h1 hJ hN
  obtain ⟨wB, hwB⟩ : ∃ wB, w.alloc (.cells #[.slice ja js.length jc, .slice na ns.length nc] 25) = wB := ⟨_, rfl⟩
  have hb : Below w.heap.size w wB := by rw [← hwB]; exact (Below.refl _ _).alloc (Nat.le_refl _) _
  have p0 : wB.cell? ⟨w.heap.size, 0, none⟩ = some (.slice ja js.length jc) := by rw [← hwB]; simp [go_sem]
  have p1 : wB.cell? ⟨w.heap.size, 1, none⟩ = some (.slice na ns.length nc) := by rw [← hwB]; simp [go_sem]

  clear hI
  go_enter Try.func5, Try.ntmps5
  go_wp2_with fail
  refine (HW.out _).mono ?_
  rintro e w1 ⟨rfl, hbx⟩
  have p0 := cell_below p0 hbx
  have p1 := cell_below p1 hbx
  have hb := below_onN hb hbx hb.size
  clear hbx
  go_wp2_with fail
  refine (HA.out _).mono ?_
  rintro e wz ⟨rfl, hbz⟩
  go_wp2_with fail
  go_ret
  exact ⟨rfl, below_onN hb hbz hb.size⟩

set_option maxRecDepth 100000 in
set_option maxHeartbeats 2000000 in
theorem nightShortages_c (ja : Option Addr) (js : List Jo) (jc : Nat) (na : Option Addr) (ns : List Ni) (nc : Nat) (a : Option Addr) (l : List Int) (ca : Nat) (w : World) (hJ : JobsS w ja js) (hN : NightsS w na ns) (hI : IntsS w a l) (h0 : wideB js.length ns.length 40 40 = false) (h1 : ¬ 60 < l.length) (he : errL js ns ≠ 0) :
    Calls Try.prog 5 #[.agg #[.slice ja js.length jc, .slice na ns.length nc], .slice a l.length ca] w fun e w' => e = .returned (.bool true) ∧ Below w.heap.size w w' := by
  have HA := Lib.hid (fun W => awake_any W)
  have hl := hI.1
  have HW := Lib.hid (fun W => wide_v ja js.length jc na ns.length nc 40 40 W h0)
  have d1 : decide ((60 : Int) < l.length) = false := decide_eq_false (by omega)
  have HP := Lib.hid (fun W (hW : Below w.heap.size w W) => isShortage_r ja js jc na ns nc a l ca W (hJ.below hW) (hN.below hW) ⟨(hI.below hW).1, (hI.below hW).2.2⟩)
  have HR := Lib.hid (fun W (hW : Below w.heap.size w W) => refIsShortage_r ja js jc na ns nc a l ca W (hJ.below hW) (hN.below hW) ⟨(hI.below hW).1, (hI.below hW).2.2⟩)
  have HS := Lib.hid (fun W (hW : Below w.heap.size w W) => shortage_bad ja js jc na ns nc W (hJ.below hW) (hN.below hW) he)
  generalize isV js ns l = V at *
  generalize errL js ns = E at *
  clear h0 h1 he hJ hN
  obtain ⟨wB, hwB⟩ : ∃ wB, w.alloc (.cells #[.slice ja js.length jc, .slice na ns.length nc] 25) = wB := ⟨_, rfl⟩
  have hb : Below w.heap.size w wB := by rw [← hwB]; exact (Below.refl _ _).alloc (Nat.le_refl _) _
  have p0 : wB.cell? ⟨w.heap.size, 0, none⟩ = some (.slice ja js.length jc) := by rw [← hwB]; simp [go_sem]
  have p1 : wB.cell? ⟨w.heap.size, 1, none⟩ = some (.slice na ns.length nc) := by rw [← hwB]; simp [go_sem]

  clear hI
  go_enter Try.func5, Try.ntmps5
  go_wp2_with fail
  refine (HW.out _).mono ?_
  rintro e w1 ⟨rfl, hbx⟩
  have p0 := cell_below p0 hbx
  have p1 := cell_below p1 hbx
  have hb := below_onN hb hbx hb.size
  clear hbx
  go_wp2_with fail
  refine (HP.out _ hb).mono ?_
  rintro e w2 ⟨rfl, hbx⟩
  have p0 := cell_below p0 hbx
  have p1 := cell_below p1 hbx
  have hb := below_onN hb hbx hb.size
  clear hbx
  go_wp2_with fail
  refine (HR.out _ hb).mono ?_
  rintro e w3 ⟨rfl, hbx⟩
  have p0 := cell_below p0 hbx
  have p1 := cell_below p1 hbx
  have hb := below_onN hb hbx hb.size
  clear hbx
  go_wp2_with fail
  refine (HS.out _ hb).mono ?_
  rintro e w4 ⟨rfl, hbx⟩
  have p0 := cell_below p0 hbx
  have p1 := cell_below p1 hbx
  have hb := below_onN hb hbx hb.size
  clear hbx
  go_wp2_with fail
  refine (HA.out _).mono ?_
  rintro e wz ⟨rfl, hbz⟩
  go_wp2_with fail
  go_ret
  exact ⟨rfl, below_onN hb hbz hb.size⟩

set_option maxRecDepth 100000 in
set_option maxHeartbeats 2000000 in
theorem nightShortages_d (ja : Option Addr) (js : List Jo) (jc : Nat) (na : Option Addr) (ns : List Ni) (nc : Nat) (a : Option Addr) (l : List Int) (ca : Nat) (w : World) (hJ : JobsS w ja js) (hN : NightsS w na ns) (hI : IntsS w a l) (h0 : wideB js.length ns.length 40 40 = false) (h1 : ¬ 60 < l.length) (he : errL js ns = 0) :
    Calls Try.prog 5 #[.agg #[.slice ja js.length jc, .slice na ns.length nc], .slice a l.length ca] w fun e w' => e = .returned (.bool true) ∧ Below w.heap.size w w' := by
  have HA := Lib.hid (fun W => awake_any W)
  have hl := hI.1
  have HW := Lib.hid (fun W => wide_v ja js.length jc na ns.length nc 40 40 W h0)
  have d1 : decide ((60 : Int) < l.length) = false := decide_eq_false (by omega)
  have HP := Lib.hid (fun W (hW : Below w.heap.size w W) => isShortage_r ja js jc na ns nc a l ca W (hJ.below hW) (hN.below hW) ⟨(hI.below hW).1, (hI.below hW).2.2⟩)
  have HR := Lib.hid (fun W (hW : Below w.heap.size w W) => refIsShortage_r ja js jc na ns nc a l ca W (hJ.below hW) (hN.below hW) ⟨(hI.below hW).1, (hI.below hW).2.2⟩)
  have HS := Lib.hid (fun W (hW : Below w.heap.size w W) => shortage_ok ja js jc na ns nc W (hJ.below hW) (hN.below hW) he)
  have HT := Lib.hid (fun (W : World) (S : List Int) (aS : Option Addr) (cS : Nat) (hW : Below w.heap.size w W) (hS : IntsC W aS S) => refIsShortage_r ja js jc na ns nc aS S cS W (hJ.below hW) (hN.below hW) hS)
  have HV : Hid (∀ S, isB js ns S = true → isV js ns S = true) := Lib.hid fun S h => by unfold isV; rw [if_pos he]; exact h
  rw [he] at HP HR HT
  generalize isV js ns l = V at *
  clear h0 h1 he hJ hN
  obtain ⟨wB, hwB⟩ : ∃ wB, w.alloc (.cells #[.slice ja js.length jc, .slice na ns.length nc] 25) = wB := ⟨_, rfl⟩
  have hb : Below w.heap.size w wB := by rw [← hwB]; exact (Below.refl _ _).alloc (Nat.le_refl _) _
  have p0 : wB.cell? ⟨w.heap.size, 0, none⟩ = some (.slice ja js.length jc) := by rw [← hwB]; simp [go_sem]
  have p1 : wB.cell? ⟨w.heap.size, 1, none⟩ = some (.slice na ns.length nc) := by rw [← hwB]; simp [go_sem]

  clear hI
  go_enter Try.func5, Try.ntmps5
  go_wp2_with fail
  refine (HW.out _).mono ?_
  rintro e w1 ⟨rfl, hbx⟩
  have p0 := cell_below p0 hbx
  have p1 := cell_below p1 hbx
  have hb := below_onN hb hbx hb.size
  clear hbx
  go_wp2_with fail
  refine (HP.out _ hb).mono ?_
  rintro e w2 ⟨rfl, hbx⟩
  have p0 := cell_below p0 hbx
  have p1 := cell_below p1 hbx
  have hb := below_onN hb hbx hb.size
  clear hbx
  go_wp2_with fail
  refine (HR.out _ hb).mono ?_
  rintro e w3 ⟨rfl, hbx⟩
  have p0 := cell_below p0 hbx
  have p1 := cell_below p1 hbx
  have hb := below_onN hb hbx hb.size
  clear hbx
  go_wp2_with fail
  refine (HS.out _ hb).mono ?_
  rintro e w4 (⟨rfl, hbx⟩ | ⟨S, aS, cS, rfl, hSi, hSb, hbx⟩)
  · have p0 := cell_below p0 hbx
    have p1 := cell_below p1 hbx
    have hb := below_onN hb hbx hb.size
    clear hbx
    go_wp2_with fail
    refine (HA.out _).mono ?_
    rintro e wz ⟨rfl, hbz⟩
    go_wp2_with fail
    go_ret
    exact ⟨rfl, below_onN hb hbz hb.size⟩

  · have p0 := cell_below p0 hbx
    have p1 := cell_below p1 hbx
    have hb := below_onN hb hbx hb.size
    clear hbx
    have HTS := Lib.hid (HT.out w4 S aS cS hb hSi)
    rw [HV.out S hSb] at HTS
    clear HT HV hSi hSb
    go_wp2_with fail
    refine (HTS.out).mono ?_
    rintro e w5 ⟨rfl, hbx⟩
    have p0 := cell_below p0 hbx
    have p1 := cell_below p1 hbx
    have hb := below_onN hb hbx hb.size
    clear hbx
    go_wp2_with fail
    refine (HA.out _).mono ?_
    rintro e wz ⟨rfl, hbz⟩
    go_wp2_with fail
    go_ret
    exact ⟨rfl, below_onN hb hbz hb.size⟩

theorem nightShortages_any (ja : Option Addr) (js : List Jo) (jc : Nat) (na : Option Addr) (ns : List Ni) (nc : Nat) (a : Option Addr) (l : List Int) (ca : Nat) (w : World) (hJ : JobsS w ja js) (hN : NightsS w na ns) (hI : IntsS w a l) :
    Calls Try.prog 5 #[.agg #[.slice ja js.length jc, .slice na ns.length nc], .slice a l.length ca] w fun e w' => e = .returned (.bool true) ∧ Below w.heap.size w w' := by
  cases h0 : wideB js.length ns.length 40 40 with
  | true => exact nightShortages_a ja js jc na ns nc a l ca w hJ hN hI h0
  | false =>
    by_cases h1 : 60 < l.length
    · exact nightShortages_b ja js jc na ns nc a l ca w hJ hN hI h0 h1
    · by_cases he : errL js ns = 0
      · exact nightShortages_d ja js jc na ns nc a l ca w hJ hN hI h0 h1 he
      · exact nightShortages_c ja js jc na ns nc a l ca w hJ hN hI h0 h1 he
end Go.Proofs.Ytpkafkhdococeaa
