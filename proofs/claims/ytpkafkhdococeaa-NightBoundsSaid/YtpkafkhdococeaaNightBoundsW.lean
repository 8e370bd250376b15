/-
  The law NightBounds of package night. By an AI agent.
-/
import Derived.Test.YtpkafkhdococeaaNiQb
import Derived.Deep.RegionHeld3
import Derived.BigQuiet
namespace Go.Proofs.Ytpkafkhdococeaa
set_option linter.unusedVariables false
set_option linter.unusedSimpArgs false
open Go.RowKit

set_option maxRecDepth 100000 in
set_option maxHeartbeats 2000000 in
theorem nightBounds_a (ja : Option Addr) (js : List Jo) (jc : Nat) (na : Option Addr) (ns : List Ni) (nc : Nat) (a : Option Addr) (l : List Int) (ca : Nat) (w : World) (hJ : JobsS w ja js) (hN : NightsS w na ns) (hI : IntsS w a l) (h0 : wideB js.length ns.length 30 30 = true) :
    Calls Try.prog 6 #[.agg #[.slice ja js.length jc, .slice na ns.length nc], .slice a l.length ca] w fun e w' => e = .returned (.bool true) ∧ Below w.heap.size w w' := by
  have HA := Lib.hid (fun W => awake_any W)
  have hl := hI.1
  have hjl := hJ.1
  have HW := Lib.hid (fun W => wide_v ja js.length jc na ns.length nc 30 30 W h0)
  clear h0
  obtain ⟨wB, hwB⟩ : ∃ wB, w.alloc (.cells #[.slice ja js.length jc, .slice na ns.length nc] 25) = wB := ⟨_, rfl⟩
  have hb : Below w.heap.size w wB := by rw [← hwB]; exact (Below.refl _ _).alloc (Nat.le_refl _) _
  have p0 : wB.cell? ⟨w.heap.size, 0, none⟩ = some (.slice ja js.length jc) := by rw [← hwB]; simp [go_sem]
  have p1 : wB.cell? ⟨w.heap.size, 1, none⟩ = some (.slice na ns.length nc) := by rw [← hwB]; simp [go_sem]

  clear hJ hN hI
  go_enter Try.func6, Try.ntmps6
  go_wp2_with fail
  refine (HW.out _).mono ?_
  rintro e w1 ⟨rfl, hbx⟩
  have p0 := cell_below p0 hbx
  have p1 := cell_below p1 hbx
  have hb := below_onN hb hbx hb.size
  clear hbx
  go_wp2_with fail
  refine (HA.out _).mono ?_
  rintro e wz ⟨rfl, hbz⟩
  go_wp2_with fail
  go_ret
  exact ⟨rfl, below_onN hb hbz hb.size⟩

set_option maxRecDepth 100000 in
set_option maxHeartbeats 2000000 in
theorem nightBounds_b (ja : Option Addr) (js : List Jo) (jc : Nat) (na : Option Addr) (ns : List Ni) (nc : Nat) (a : Option Addr) (l : List Int) (ca : Nat) (w : World) (hJ : JobsS w ja js) (hN : NightsS w na ns) (hI : IntsS w a l) (h0 : wideB js.length ns.length 30 30 = false) (h1 : 30 < l.length) :
    Calls Try.prog 6 #[.agg #[.slice ja js.length jc, .slice na ns.length nc], .slice a l.length ca] w fun e w' => e = .returned (.bool true) ∧ Below w.heap.size w w' := by
  have HA := Lib.hid (fun W => awake_any W)
  have hl := hI.1
  have hjl := hJ.1
  have HW := Lib.hid (fun W => wide_v ja js.length jc na ns.length nc 30 30 W h0)
  have d1 : decide ((30 : Int) < l.length) = true := decide_eq_true (by omega)
  clear h0 h1
  obtain ⟨wB, hwB⟩ : ∃ wB, w.alloc (.cells #[.slice ja js.length jc, .slice na ns.length nc] 25) = wB := ⟨_, rfl⟩
  have hb : Below w.heap.size w wB := by rw [← hwB]; exact (Below.refl _ _).alloc (Nat.le_refl _) _
  have p0 : wB.cell? ⟨w.heap.size, 0, none⟩ = some (.slice ja js.length jc) := by rw [← hwB]; simp [go_sem]
  have p1 : wB.cell? ⟨w.heap.size, 1, none⟩ = some (.slice na ns.length nc) := by rw [← hwB]; simp [go_sem]

  clear hJ hN hI
  go_enter Try.func6, Try.ntmps6
  go_wp2_with fail
  refine (HW.out _).mono ?_
  rintro e w1 ⟨rfl, hbx⟩
  have p0 := cell_below p0 hbx
  have p1 := cell_below p1 hbx
  have hb := below_onN hb hbx hb.size
  clear hbx
  go_wp2_with fail
  refine (HA.out _).mono ?_
  rintro e wz ⟨rfl, hbz⟩
  go_wp2_with fail
  go_ret
  exact ⟨rfl, below_onN hb hbz hb.size⟩

set_option maxRecDepth 100000 in
set_option maxHeartbeats 2000000 in
theorem nightBounds_c (ja : Option Addr) (js : List Jo) (jc : Nat) (na : Option Addr) (ns : List Ni) (nc : Nat) (a : Option Addr) (l : List Int) (ca : Nat) (w : World) (hJ : JobsS w ja js) (hN : NightsS w na ns) (hI : IntsS w a l) (h0 : wideB js.length ns.length 30 30 = false) (h1 : ¬ 30 < l.length) (h2 : (errL js ns == 0) = false) :
    Calls Try.prog 6 #[.agg #[.slice ja js.length jc, .slice na ns.length nc], .slice a l.length ca] w fun e w' => e = .returned (.bool true) ∧ Below w.heap.size w w' := by
  have HA := Lib.hid (fun W => awake_any W)
  have hl := hI.1
  have hjl := hJ.1
  have HW := Lib.hid (fun W => wide_v ja js.length jc na ns.length nc 30 30 W h0)
  have HV := Lib.hid (fun W (hW : Below w.heap.size w W) => refValid_r ja js jc na ns nc W (hJ.below hW) (hN.below hW) (v := false) h2)
  have d1 : decide ((30 : Int) < l.length) = false := decide_eq_false (by omega)
  clear h0 h1 h2
  obtain ⟨wB, hwB⟩ : ∃ wB, w.alloc (.cells #[.slice ja js.length jc, .slice na ns.length nc] 25) = wB := ⟨_, rfl⟩
  have hb : Below w.heap.size w wB := by rw [← hwB]; exact (Below.refl _ _).alloc (Nat.le_refl _) _
  have p0 : wB.cell? ⟨w.heap.size, 0, none⟩ = some (.slice ja js.length jc) := by rw [← hwB]; simp [go_sem]
  have p1 : wB.cell? ⟨w.heap.size, 1, none⟩ = some (.slice na ns.length nc) := by rw [← hwB]; simp [go_sem]

  clear hJ hN hI
  go_enter Try.func6, Try.ntmps6
  go_wp2_with fail
  refine (HW.out _).mono ?_
  rintro e w1 ⟨rfl, hbx⟩
  have p0 := cell_below p0 hbx
  have p1 := cell_below p1 hbx
  have hb := below_onN hb hbx hb.size
  clear hbx
  go_wp2_with fail
  refine (HV.out _ hb).mono ?_
  rintro e w2 ⟨rfl, hbx⟩
  have p0 := cell_below p0 hbx
  have p1 := cell_below p1 hbx
  have hb := below_onN hb hbx hb.size
  clear hbx
  go_wp2_with fail
  refine (HA.out _).mono ?_
  rintro e wz ⟨rfl, hbz⟩
  go_wp2_with fail
  go_ret
  exact ⟨rfl, below_onN hb hbz hb.size⟩

set_option maxRecDepth 100000 in
set_option maxHeartbeats 2000000 in
theorem nightBounds_d (ja : Option Addr) (js : List Jo) (jc : Nat) (na : Option Addr) (ns : List Ni) (nc : Nat) (a : Option Addr) (l : List Int) (ca : Nat) (w : World) (hJ : JobsS w ja js) (hN : NightsS w na ns) (hI : IntsS w a l) (h0 : wideB js.length ns.length 30 30 = false) (h1 : ¬ 30 < l.length) (h2 : (errL js ns == 0) = true) (h3 : indB js.length l = false) :
    Calls Try.prog 6 #[.agg #[.slice ja js.length jc, .slice na ns.length nc], .slice a l.length ca] w fun e w' => e = .returned (.bool true) ∧ Below w.heap.size w w' := by
  have HA := Lib.hid (fun W => awake_any W)
  have hl := hI.1
  have hjl := hJ.1
  have HW := Lib.hid (fun W => wide_v ja js.length jc na ns.length nc 30 30 W h0)
  have HV := Lib.hid (fun W (hW : Below w.heap.size w W) => refValid_r ja js jc na ns nc W (hJ.below hW) (hN.below hW) (v := true) h2)
  have HX := Lib.hid (fun W (hW : Below w.heap.size w W) => indexes_v ja js.length jc a l ca W hjl ⟨(hI.below hW).1, (hI.below hW).2.2⟩)
  rw [h3] at HX
  have d1 : decide ((30 : Int) < l.length) = false := decide_eq_false (by omega)
  clear h0 h1 h2 h3
  obtain ⟨wB, hwB⟩ : ∃ wB, w.alloc (.cells #[.slice ja js.length jc, .slice na ns.length nc] 25) = wB := ⟨_, rfl⟩
  have hb : Below w.heap.size w wB := by rw [← hwB]; exact (Below.refl _ _).alloc (Nat.le_refl _) _
  have p0 : wB.cell? ⟨w.heap.size, 0, none⟩ = some (.slice ja js.length jc) := by rw [← hwB]; simp [go_sem]
  have p1 : wB.cell? ⟨w.heap.size, 1, none⟩ = some (.slice na ns.length nc) := by rw [← hwB]; simp [go_sem]

  clear hJ hN hI
  go_enter Try.func6, Try.ntmps6
  go_wp2_with fail
  refine (HW.out _).mono ?_
  rintro e w1 ⟨rfl, hbx⟩
  have p0 := cell_below p0 hbx
  have p1 := cell_below p1 hbx
  have hb := below_onN hb hbx hb.size
  clear hbx
  go_wp2_with fail
  refine (HV.out _ hb).mono ?_
  rintro e w2 ⟨rfl, hbx⟩
  have p0 := cell_below p0 hbx
  have p1 := cell_below p1 hbx
  have hb := below_onN hb hbx hb.size
  clear hbx
  go_wp2_with fail
  refine (HX.out _ hb).mono ?_
  rintro e w3 ⟨rfl, rfl⟩
  go_wp2_with fail
  refine (HA.out _).mono ?_
  rintro e wz ⟨rfl, hbz⟩
  go_wp2_with fail
  go_ret
  exact ⟨rfl, below_onN hb hbz hb.size⟩

set_option maxRecDepth 100000 in
set_option maxHeartbeats 2000000 in
theorem nightBounds_e (ja : Option Addr) (js : List Jo) (jc : Nat) (na : Option Addr) (ns : List Ni) (nc : Nat) (a : Option Addr) (l : List Int) (ca : Nat) (w : World) (hJ : JobsS w ja js) (hN : NightsS w na ns) (hI : IntsS w a l) (h0 : wideB js.length ns.length 30 30 = false) (h1 : ¬ 30 < l.length) (h2 : (errL js ns == 0) = true) (h3 : indB js.length l = true) :
    Calls Try.prog 6 #[.agg #[.slice ja js.length jc, .slice na ns.length nc], .slice a l.length ca] w fun e w' => e = .returned (.bool true) ∧ Below w.heap.size w w' := by
  have HA := Lib.hid (fun W => awake_any W)
  have hl := hI.1
  have hjl := hJ.1
  have he : errL js ns = 0 := by simpa using h2
  have v2 := (errL_ok he).2
  have hjn := jobsB_len (errL_ok he).1
  have hnn := nightsB_len v2
  have hps : ∀ i, i < ns.length → 0 ≤ (gn ns i).p ∧ (gn ns i).p ≤ 100 := fun i hi => nightB_p (nightsB_ok v2 hi)
  have hpb := pS_b js ns l hps ns.length (Nat.le_refl _)
  have hle := done_le (grtL_good (fun i hi => (hps i hi).1)) (fun i hi => (hps i hi).1) h3
  have hMM : mostN js ns = dnN (grtL js ns) := rfl
  have hM0 := (dnN_b (grtL js ns)).1
  rw [← hMM] at hle hM0
  have HM := Lib.hid (fun W (hW : Below w.heap.size w W) => most_ok ja js jc na ns nc W (hJ.below hW) (hN.below hW) he)
  have HP := Lib.hid (fun W (hW : Below w.heap.size w W) => places_v ja js jc na ns nc a l ca W (hJ.below hW) (hN.below hW) ⟨(hI.below hW).1, (hI.below hW).2.2⟩ (fun i hi => indB_nat h3 hi) hps (by omega))
  have HW := Lib.hid (fun W => wide_v ja js.length jc na ns.length nc 30 30 W h0)
  have HV := Lib.hid (fun W (hW : Below w.heap.size w W) => refValid_r ja js jc na ns nc W (hJ.below hW) (hN.below hW) (v := true) h2)
  have HX := Lib.hid (fun W (hW : Below w.heap.size w W) => indexes_v ja js.length jc a l ca W hjl ⟨(hI.below hW).1, (hI.below hW).2.2⟩)
  rw [h3] at HX
  have d1 : decide ((30 : Int) < l.length) = false := decide_eq_false (by omega)
  generalize mostN js ns = M at *
  generalize pS js ns l ns.length = S at *
  clear h0 h2 h3 hps v2 hMM he
  obtain ⟨wB, hwB⟩ : ∃ wB, w.alloc (.cells #[.slice ja js.length jc, .slice na ns.length nc] 25) = wB := ⟨_, rfl⟩
  have hb : Below w.heap.size w wB := by rw [← hwB]; exact (Below.refl _ _).alloc (Nat.le_refl _) _
  have p0 : wB.cell? ⟨w.heap.size, 0, none⟩ = some (.slice ja js.length jc) := by rw [← hwB]; simp [go_sem]
  have p1 : wB.cell? ⟨w.heap.size, 1, none⟩ = some (.slice na ns.length nc) := by rw [← hwB]; simp [go_sem]

  clear hJ hN hI
  go_enter Try.func6, Try.ntmps6
  go_wp2_with fail
  refine (HW.out _).mono ?_
  rintro e w1 ⟨rfl, hbx⟩
  have p0 := cell_below p0 hbx
  have p1 := cell_below p1 hbx
  have hb := below_onN hb hbx hb.size
  clear hbx
  go_wp2_with fail
  refine (HV.out _ hb).mono ?_
  rintro e w2 ⟨rfl, hbx⟩
  have p0 := cell_below p0 hbx
  have p1 := cell_below p1 hbx
  have hb := below_onN hb hbx hb.size
  clear hbx
  go_wp2_with fail
  refine (HX.out _ hb).mono ?_
  rintro e w3 ⟨rfl, rfl⟩
  go_wp2_with fail
  refine (HM.out _ hb).mono ?_
  rintro e w4 ⟨rfl, hbx⟩
  have p0 := cell_below p0 hbx
  have p1 := cell_below p1 hbx
  have hb := below_onN hb hbx hb.size
  clear hbx
  go_wp2_with fail
  have g0 : decide ((0 : Int) ≤ M) = true := decide_eq_true hM0
  have g1 : decide (M ≤ (js.length : Int) - l.length + S) = true := decide_eq_true hle
  have w1 : IntKind.i64.wrap ((js.length : Int) - l.length) = js.length - l.length := IntWalk.i64_in _ (by omega)
  have w2 : IntKind.i64.wrap ((js.length : Int) - l.length + S) = js.length - l.length + S := IntWalk.i64_in _ (by omega)
  have hz := block_lt p0
  have hB := hb
  clear hb
  go_region_held3 (fun w' => w'.cell? ⟨w.heap.size, 0, none⟩ = some (.slice ja js.length jc) ∧ w'.cell? ⟨w.heap.size, 1, none⟩ = some (.slice na ns.length nc)) (go_keep)
    (first
      | (go_at_call 35
         refine (HP.out _ (by first | exact hB | exact hB.drew)).mono ?_
         rintro E w9 ⟨rfl, hb9⟩
         have p0 := (hb9.cell (p := ⟨w.heap.size, 0, none⟩) hz).trans p0
         have p1 := (hb9.cell (p := ⟨w.heap.size, 1, none⟩) hz).trans p1
         have hz := Nat.lt_of_lt_of_le hz hb9.size
         have hB : Below w.heap.size w w9 := by first | exact below_onN hB hb9 hB.size | exact below_onN hB.drew hb9 hB.drew.size)
      | (go_at_call 14
         refine (HA.out _).mono ?_
         rintro E w9 ⟨rfl, hb9⟩
         have p0 := (hb9.cell (p := ⟨w.heap.size, 0, none⟩) hz).trans p0
         have p1 := (hb9.cell (p := ⟨w.heap.size, 1, none⟩) hz).trans p1
         have hz := Nat.lt_of_lt_of_le hz hb9.size
         have hB : Below w.heap.size w w9 := by first | exact below_onN hB hb9 hB.size | exact below_onN hB.drew hb9 hB.drew.size))
  all_goals
    go_wp2_with fail
    go_ret
    exact ⟨rfl, by first | exact hB | exact hB.drew⟩

theorem nightBounds_any (ja : Option Addr) (js : List Jo) (jc : Nat) (na : Option Addr) (ns : List Ni) (nc : Nat) (a : Option Addr) (l : List Int) (ca : Nat) (w : World) (hJ : JobsS w ja js) (hN : NightsS w na ns) (hI : IntsS w a l) :
    Calls Try.prog 6 #[.agg #[.slice ja js.length jc, .slice na ns.length nc], .slice a l.length ca] w fun e w' => e = .returned (.bool true) ∧ Below w.heap.size w w' := by
  cases h0 : wideB js.length ns.length 30 30 with
  | true => exact nightBounds_a ja js jc na ns nc a l ca w hJ hN hI h0
  | false =>
    by_cases h1 : 30 < l.length
    · exact nightBounds_b ja js jc na ns nc a l ca w hJ hN hI h0 h1
    · cases h2 : (errL js ns == 0) with
      | false => exact nightBounds_c ja js jc na ns nc a l ca w hJ hN hI h0 h1 h2
      | true =>
        cases h3 : indB js.length l with
        | false => exact nightBounds_d ja js jc na ns nc a l ca w hJ hN hI h0 h1 h2 h3
        | true => exact nightBounds_e ja js jc na ns nc a l ca w hJ hN hI h0 h1 h2 h3
end Go.Proofs.Ytpkafkhdococeaa
