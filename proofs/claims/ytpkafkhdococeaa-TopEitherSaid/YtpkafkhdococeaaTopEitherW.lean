/-
  The law TopEither. By an AI agent.
-/
import Derived.Test.YtpkafkhdococeaaNiRg
import Derived.Deep.RegionHeld3
import Derived.BigQuiet
namespace Go.Proofs.Ytpkafkhdococeaa
set_option linter.unusedVariables false
set_option linter.unusedSimpArgs false
open Go.RowKit

theorem cK_pos {f : Nat → Bool} {u : Nat} : ∀ n, u < n → f u = true → 0 < cK f n
  | 0, h, _ => by omega
  | k + 1, h, hf => by
    unfold cK
    by_cases e : u = k
    · subst e; rw [if_pos hf]; omega
    · have := cK_pos k (by omega) hf; omega
theorem most_lt {js : List Jo} {ns : List Ni} (h : ∃ u, u < js.length ∧ gi (grtL js ns) u = -1) : mostN js ns < js.length := by
  obtain ⟨u, hu, hn⟩ := h
  have := cK_pos (f := fun k => gi (grtL js ns) k == -1) (grtL js ns).length (u := u) (by rw [grtL_len]; exact hu) (by simp [hn])
  unfold mostN dnN
  rw [cntN_cK]
  rw [grtL_len] at *
  omega
theorem most_eq {js : List Jo} {ns : List Ni} (h : ∀ u, u < js.length → gi (grtL js ns) u ≠ -1) : mostN js ns = js.length := by
  unfold mostN dnN
  rw [cntN_cK, grtL_len, cK_zero _ (fun i hi => beq_false_of_ne (h i hi))]
  omega
set_option maxRecDepth 100000 in
set_option maxHeartbeats 8000000 in
theorem topEither_a (ja : Option Addr) (js : List Jo) (jc : Nat) (na : Option Addr) (ns : List Ni) (nc : Nat) (a : Option Addr) (l : List Int) (ca : Nat) (w : World) (hJ : JobsS w ja js) (hN : NightsS w na ns) (hI : IntsS w a l) (h0 : wideB js.length ns.length 40 40 = true) :
    Calls Try.prog 12 #[.agg #[.slice ja js.length jc, .slice na ns.length nc], .slice a l.length ca] w fun e w' => e = .returned (.bool true) ∧ Below w.heap.size w w' := by
  have HA := Lib.hid (fun W => awake_any W)
  have hl := hI.1
  have hjl := hJ.1
  have HW := Lib.hid (fun W => wide_v ja js.length jc na ns.length nc 40 40 W h0)
  clear h0
  obtain ⟨wB, hwB⟩ : ∃ wB, w.alloc (.cells #[.slice ja js.length jc, .slice na ns.length nc] 25) = wB := ⟨_, rfl⟩
  have hb : Below w.heap.size w wB := by rw [← hwB]; exact (Below.refl _ _).alloc (Nat.le_refl _) _
  have p0 : wB.cell? ⟨w.heap.size, 0, none⟩ = some (.slice ja js.length jc) := by rw [← hwB]; simp [go_sem]
  have p1 : wB.cell? ⟨w.heap.size, 1, none⟩ = some (.slice na ns.length nc) := by rw [← hwB]; simp [go_sem]

  clear hI hJ hN
  go_enter Try.func12, Try.ntmps12
  go_wp2_with fail
  refine (HW.out _).mono ?_
  rintro e w1 ⟨rfl, hbx⟩
  have p0 := cell_below p0 hbx
  have p1 := cell_below p1 hbx
  have hb := below_onN hb hbx hb.size
  clear hbx
  go_wp2_with fail
  refine (HA.out _).mono ?_
  rintro e wz ⟨rfl, hbz⟩
  go_wp2_with fail
  go_ret
  exact ⟨rfl, below_onN hb hbz hb.size⟩

set_option maxRecDepth 100000 in
set_option maxHeartbeats 8000000 in
theorem topEither_b (ja : Option Addr) (js : List Jo) (jc : Nat) (na : Option Addr) (ns : List Ni) (nc : Nat) (a : Option Addr) (l : List Int) (ca : Nat) (w : World) (hJ : JobsS w ja js) (hN : NightsS w na ns) (hI : IntsS w a l) (h0 : wideB js.length ns.length 40 40 = false) (h1 : 40 < l.length) :
    Calls Try.prog 12 #[.agg #[.slice ja js.length jc, .slice na ns.length nc], .slice a l.length ca] w fun e w' => e = .returned (.bool true) ∧ Below w.heap.size w w' := by
  have HA := Lib.hid (fun W => awake_any W)
  have hl := hI.1
  have hjl := hJ.1
  have HW := Lib.hid (fun W => wide_v ja js.length jc na ns.length nc 40 40 W h0)
  have d1 : decide ((40 : Int) < l.length) = true := decide_eq_true (by omega)
  clear h0 h1
  obtain ⟨wB, hwB⟩ : ∃ wB, w.alloc (.cells #[.slice ja js.length jc, .slice na ns.length nc] 25) = wB := ⟨_, rfl⟩
  have hb : Below w.heap.size w wB := by rw [← hwB]; exact (Below.refl _ _).alloc (Nat.le_refl _) _
  have p0 : wB.cell? ⟨w.heap.size, 0, none⟩ = some (.slice ja js.length jc) := by rw [← hwB]; simp [go_sem]
  have p1 : wB.cell? ⟨w.heap.size, 1, none⟩ = some (.slice na ns.length nc) := by rw [← hwB]; simp [go_sem]

  clear hI hJ hN
  go_enter Try.func12, Try.ntmps12
  go_wp2_with fail
  refine (HW.out _).mono ?_
  rintro e w1 ⟨rfl, hbx⟩
  have p0 := cell_below p0 hbx
  have p1 := cell_below p1 hbx
  have hb := below_onN hb hbx hb.size
  clear hbx
  go_wp2_with fail
  refine (HA.out _).mono ?_
  rintro e wz ⟨rfl, hbz⟩
  go_wp2_with fail
  go_ret
  exact ⟨rfl, below_onN hb hbz hb.size⟩

set_option maxRecDepth 100000 in
set_option maxHeartbeats 8000000 in
theorem topEither_c (ja : Option Addr) (js : List Jo) (jc : Nat) (na : Option Addr) (ns : List Ni) (nc : Nat) (a : Option Addr) (l : List Int) (ca : Nat) (w : World) (hJ : JobsS w ja js) (hN : NightsS w na ns) (hI : IntsS w a l) (h0 : wideB js.length ns.length 40 40 = false) (h1 : ¬ 40 < l.length) (h2 : (errL js ns == 0) = false) :
    Calls Try.prog 12 #[.agg #[.slice ja js.length jc, .slice na ns.length nc], .slice a l.length ca] w fun e w' => e = .returned (.bool true) ∧ Below w.heap.size w w' := by
  have HA := Lib.hid (fun W => awake_any W)
  have hl := hI.1
  have hjl := hJ.1
  have HW := Lib.hid (fun W => wide_v ja js.length jc na ns.length nc 40 40 W h0)
  have HV := Lib.hid (fun W (hW : Below w.heap.size w W) => refValid_r ja js jc na ns nc W (hJ.below hW) (hN.below hW) (v := false) h2)
  have d1 : decide ((40 : Int) < l.length) = false := decide_eq_false (by omega)
  clear h0 h1 h2
  obtain ⟨wB, hwB⟩ : ∃ wB, w.alloc (.cells #[.slice ja js.length jc, .slice na ns.length nc] 25) = wB := ⟨_, rfl⟩
  have hb : Below w.heap.size w wB := by rw [← hwB]; exact (Below.refl _ _).alloc (Nat.le_refl _) _
  have p0 : wB.cell? ⟨w.heap.size, 0, none⟩ = some (.slice ja js.length jc) := by rw [← hwB]; simp [go_sem]
  have p1 : wB.cell? ⟨w.heap.size, 1, none⟩ = some (.slice na ns.length nc) := by rw [← hwB]; simp [go_sem]

  clear hI hJ hN
  go_enter Try.func12, Try.ntmps12
  go_wp2_with fail
  refine (HW.out _).mono ?_
  rintro e w1 ⟨rfl, hbx⟩
  have p0 := cell_below p0 hbx
  have p1 := cell_below p1 hbx
  have hb := below_onN hb hbx hb.size
  clear hbx
  go_wp2_with fail
  refine (HV.out _ hb).mono ?_
  rintro e w2 ⟨rfl, hbx⟩
  have p0 := cell_below p0 hbx
  have p1 := cell_below p1 hbx
  have hb := below_onN hb hbx hb.size
  clear hbx
  go_wp2_with fail
  refine (HA.out _).mono ?_
  rintro e wz ⟨rfl, hbz⟩
  go_wp2_with fail
  go_ret
  exact ⟨rfl, below_onN hb hbz hb.size⟩

set_option maxRecDepth 100000 in
set_option maxHeartbeats 8000000 in
theorem topEither_e (ja : Option Addr) (js : List Jo) (jc : Nat) (na : Option Addr) (ns : List Ni) (nc : Nat) (a : Option Addr) (l : List Int) (ca : Nat) (w : World) (hJ : JobsS w ja js) (hN : NightsS w na ns) (hI : IntsS w a l) (h0 : wideB js.length ns.length 40 40 = false) (h1 : ¬ 40 < l.length) (h2 : (errL js ns == 0) = true) :
    Calls Try.prog 12 #[.agg #[.slice ja js.length jc, .slice na ns.length nc], .slice a l.length ca] w fun e w' => e = .returned (.bool true) ∧ Below w.heap.size w w' := by
  have HA := Lib.hid (fun W => awake_any W)
  have hl := hI.1
  have hjl := hJ.1
  have HW := Lib.hid (fun W => wide_v ja js.length jc na ns.length nc 40 40 W h0)
  have HV := Lib.hid (fun W (hW : Below w.heap.size w W) => refValid_r ja js jc na ns nc W (hJ.below hW) (hN.below hW) (v := true) h2)
  have he : errL js ns = 0 := by simpa using h2
  have v2 := (errL_ok he).2
  have hjn := jobsB_len (errL_ok he).1
  have hnn := nightsB_len v2
  have hps : ∀ i, i < ns.length → 0 ≤ (gn ns i).p ∧ (gn ns i).p ≤ 100 := fun i hi => nightB_p (nightsB_ok v2 hi)
  have hgood := grtL_good (js := js) (ns := ns) (fun i hi => (hps i hi).1)
  have HDl := Lib.hid (fun S (h : indB js.length S = true) => done_le hgood (fun i hi => (hps i hi).1) h)
  have HPb := Lib.hid (fun S => pS_b js ns S hps ns.length (Nat.le_refl _))
  have hM0 := (dnN_b (grtL js ns)).1
  have hM1 := (dnN_b (grtL js ns)).2
  rw [grtL_len] at hM1
  have hMM : dnN (grtL js ns) = mostN js ns := rfl
  rw [hMM] at hM0 hM1 HDl
  have HM := Lib.hid (fun W (hW : Below w.heap.size w W) => most_ok ja js jc na ns nc W (hJ.below hW) (hN.below hW) he)
  have HPn := Lib.hid (fun W (hW : Below w.heap.size w W) => plan_ok ja js jc na ns nc W (hJ.below hW) (hN.below hW) he)
  have HSh := Lib.hid (fun W (hW : Below w.heap.size w W) => shortage_ok ja js jc na ns nc W (hJ.below hW) (hN.below hW) he)
  have HIs := Lib.hid (fun (W : World) (S : List Int) (aS : Option Addr) (cS : Nat) (hW : Below w.heap.size w W) (hS : IntsC W aS S) => isShortage_r ja js jc na ns nc aS S cS W (hJ.below hW) (hN.below hW) hS)
  have HIV : Hid (∀ S, isB js ns S = true → isV js ns S = true) := Lib.hid fun S h => by unfold isV; rw [if_pos he]; exact h
  have HIx := Lib.hid (fun (W : World) (S : List Int) (aS : Option Addr) (cS : Nat) (hS : IntsC W aS S) => indexes_v ja js.length jc aS S cS W hjl hS)
  have HPl := Lib.hid (fun (W : World) (S : List Int) (aS : Option Addr) (cS : Nat) (hW : Below w.heap.size w W) (hS : IntsC W aS S) (h : indB js.length S = true) => places_v ja js jc na ns nc aS S cS W (hJ.below hW) (hN.below hW) hS (fun i hi => indB_nat h hi) hps (by omega))
  have HRt := Lib.hid (fun (W : World) (g c : Nat) (hW : Below w.heap.size w W) (hP : PlanR W g (planL js ns)) (hg : GoodP (chL js ns) (psL ns) js.length ns.length (planL js ns)) => refRight_ok ja js jc na ns nc (some ⟨g, 0, none⟩) (planL js ns) c W (hJ.below hW) (hN.below hW) (hP.ints (by rw [planL_len]; omega)) hg (by omega) he)
  have HDo := Lib.hid (fun (W : World) (g c : Nat) (hW : Below w.heap.size w W) (hP : PlanR W g (planL js ns)) (hg : GoodP (chL js ns) (psL ns) js.length ns.length (planL js ns)) (h0 : ∀ i, i < (planL js ns).length → 0 ≤ gi (planL js ns) i) => refDone_ok ja js jc na ns nc (some ⟨g, 0, none⟩) (planL js ns) c W (hJ.below hW) (hN.below hW) (hP.ints (by rw [planL_len]; omega)) hg (by omega) he h0)
  have hPLn := Lib.hid (planL_len js ns)
  have HComp : Hid ((∀ u, u < js.length → gi (grtL js ns) u ≠ -1) → GoodP (chL js ns) (psL ns) js.length ns.length (planL js ns) ∧ ∀ i, i < (planL js ns).length → 0 ≤ gi (planL js ns) i) := Lib.hid fun h => by
    have := lstK_good (fun i hi j hj => by
      rw [gr_chL js ns hi] at hj ⊢
      obtain ⟨m, h1, h2, _⟩ := selK_gi _ _ hj
      exact ⟨m, h1, h2⟩) hgood (fun i hi => by
      rcases hgood.ent i hi with h1 | ⟨m, h1, _⟩
      · exact absurd h1 (h i hi)
      · omega) js.length (Nat.le_refl _)
    exact ⟨this.1, fun i hi => this.2 i (by rw [planL_len] at hi; exact hi)⟩
  have HMl := Lib.hid (fun h => most_lt (js := js) (ns := ns) h)
  have HMe := Lib.hid (fun h => most_eq (js := js) (ns := ns) h)
  have HLI := Lib.hid (fun W (hW : Below w.heap.size w W) => (show IntsC W a l from ⟨(hI.below hW).1, (hI.below hW).2.2⟩))
  rw [he] at HIs
  clear he v2 hgood hMM h2
  have d1 : decide ((40 : Int) < l.length) = false := decide_eq_false (by omega)
  generalize mostN js ns = M at *
  have m0 : decide (M < 0) = false := decide_eq_false (by omega)
  have m1 : decide ((js.length : Int) < M) = false := decide_eq_false (by omega)
  clear h0
  obtain ⟨wB, hwB⟩ : ∃ wB, w.alloc (.cells #[.slice ja js.length jc, .slice na ns.length nc] 25) = wB := ⟨_, rfl⟩
  have hb : Below w.heap.size w wB := by rw [← hwB]; exact (Below.refl _ _).alloc (Nat.le_refl _) _
  have p0 : wB.cell? ⟨w.heap.size, 0, none⟩ = some (.slice ja js.length jc) := by rw [← hwB]; simp [go_sem]
  have p1 : wB.cell? ⟨w.heap.size, 1, none⟩ = some (.slice na ns.length nc) := by rw [← hwB]; simp [go_sem]

  clear hI hJ hN
  go_enter Try.func12, Try.ntmps12
  go_wp2_with fail
  refine (HW.out _).mono ?_
  rintro e w1 ⟨rfl, hbx⟩
  have p0 := cell_below p0 hbx
  have p1 := cell_below p1 hbx
  have hb := below_onN hb hbx hb.size
  clear hbx
  go_wp2_with fail
  refine (HV.out _ hb).mono ?_
  rintro e w2 ⟨rfl, hbx⟩
  have p0 := cell_below p0 hbx
  have p1 := cell_below p1 hbx
  have hb := below_onN hb hbx hb.size
  clear hbx
  go_wp2_with fail
  refine (HM.out _ hb).mono ?_
  rintro e w3 ⟨rfl, hbx⟩
  have p0 := cell_below p0 hbx
  have p1 := cell_below p1 hbx
  have hb := below_onN hb hbx hb.size
  clear hbx
  go_wp2_with fail
  refine (HPn.out _ hb).mono ?_
  rintro e w4 (⟨rfl, hbx, hu⟩ | ⟨⟨g, c, rfl, hPl, -, hgl⟩, hbx, hno⟩)
  · have p0 := cell_below p0 hbx
    have p1 := cell_below p1 hbx
    have hb := below_onN hb hbx hb.size
    clear hbx
    go_wp2_with fail
    refine (HSh.out _ hb).mono ?_
    rintro e w5 (⟨rfl, hbx, hno⟩ | ⟨S, aS, cS, rfl, hSI, hSb, hbx, -⟩)
    · obtain ⟨u, hu1, hu2⟩ := hu
      exact absurd hu2 (hno u hu1)
    · have p0 := cell_below p0 hbx
      have p1 := cell_below p1 hbx
      have hb := below_onN hb hbx hb.size
      clear hbx
      have hML := HMl.out hu
      have dL : decide (M < (js.length : Int)) = true := decide_eq_true hML
      obtain ⟨hSi, hSp⟩ : indB js.length S = true ∧ pS js ns S ns.length < S.length := by
        unfold isB at hSb
        rw [Bool.and_eq_true] at hSb
        exact ⟨hSb.1, of_decide_eq_true hSb.2⟩
      have HI6 := Lib.hid (HIs.out w5 S aS cS hb hSI)
      rw [HIV.out S hSb] at HI6
      go_wp2_with fail
      refine HI6.out.mono ?_
      rintro e w6 ⟨rfl, hbx⟩
      have p0 := cell_below p0 hbx
      have p1 := cell_below p1 hbx
      have hb := below_onN hb hbx hb.size
      have hSI := hSI.below hbx
      clear hbx HI6
      have HX6 := Lib.hid (HIx.out w6 S aS cS hSI)
      rw [hSi] at HX6
      go_wp2_with fail
      refine HX6.out.mono ?_
      rintro e w7 ⟨rfl, rfl⟩
      go_wp2_with fail
      have hz := block_lt p0
      have hleS := HDl.out S hSi
      have hpbS := HPb.out S
      have HPS := Lib.hid (fun W (hW : Below w.heap.size w W) (hW2 : Below w7.heap.size w7 W) => HPl.out W S aS cS hW (hSI.below hW2) hSi)
      generalize pS js ns S ns.length = QS at *
      have e1 : decide ((S.length : Int) ≤ QS) = false := decide_eq_false (by omega)
      have e2 : decide ((js.length : Int) - S.length + QS < M) = false := decide_eq_false (by omega)
      have hSl : S.length ≤ 1000000 := hSI.1 |> fun _ => by omega
      have w1 : IntKind.i64.wrap ((js.length : Int) - S.length) = js.length - S.length := IntWalk.i64_in _ (by omega)
      have w2 : IntKind.i64.wrap ((js.length : Int) - S.length + QS) = js.length - S.length + QS := IntWalk.i64_in _ (by omega)
      have hB := hb
      have hB2 : Below w7.heap.size w7 w7 := Below.refl _ _
      clear hb
      go_region_held3 (fun w' => w'.cell? ⟨w.heap.size, 0, none⟩ = some (.slice ja js.length jc) ∧ w'.cell? ⟨w.heap.size, 1, none⟩ = some (.slice na ns.length nc)) (go_keep)
        (first
          | (go_at_call 35
             refine (HPS.out _ (by first | exact hB | exact hB.drew) (by first | exact hB2 | exact hB2.drew)).mono ?_
             rintro E w9 ⟨rfl, hb9⟩
             have p0 := (hb9.cell (p := ⟨w.heap.size, 0, none⟩) hz).trans p0
             have p1 := (hb9.cell (p := ⟨w.heap.size, 1, none⟩) hz).trans p1
             have hB2 : Below w7.heap.size w7 w9 := by first | exact hB2.trans (hb9.mono hB2.size) | exact hB2.drew.trans (hb9.mono hB2.drew.size)
             have hz := Nat.lt_of_lt_of_le hz hb9.size
             have hB : Below w.heap.size w w9 := by first | exact below_onN hB hb9 hB.size | exact below_onN hB.drew hb9 hB.drew.size))
      all_goals
        go_wp2_with fail
        have hb : Below w.heap.size w w9 := hB
        clear hB hB2 HPS w1 w2 e1 e2
        have hz := block_lt p0
        cases hil : indB js.length l with
        | false =>
          have HX1 := Lib.hid (fun W (hW : Below w.heap.size w W) => HIx.out W l a ca (HLI.out W hW))
          rw [hil] at HX1
          go_quiet ((go_at_call 34; exact Calls.quiet_of_same (HX1.out _ (by first | exact below_drewN hb _ | exact below_drewN hb.drew _))))
          go_wp2_with fail
          refine (HA.out _).mono ?_
          rintro e wz ⟨rfl, hbz⟩
          go_wp2_with fail
          go_ret
          exact ⟨rfl, by first | exact below_onN hb hbz hb.size | exact below_onN hb.drew hbz hb.drew.size | exact below_onN (below_drewN hb _) hbz (below_drewN hb _).size⟩
        | true =>
          have hle := HDl.out l hil
          have hpb := HPb.out l
          have HP1 := Lib.hid (fun W (hW : Below w.heap.size w W) => HPl.out W l a ca hW (HLI.out W hW) hil)
          have HX1 := Lib.hid (fun W (hW : Below w.heap.size w W) => HIx.out W l a ca (HLI.out W hW))
          rw [hil] at HX1
          generalize pS js ns l ns.length = PS at *
          have g1 : decide ((js.length : Int) - l.length + PS < M) = false := decide_eq_false (by omega)
          have w1' : IntKind.i64.wrap ((js.length : Int) - l.length) = js.length - l.length := IntWalk.i64_in _ (by omega)
          have w2' : IntKind.i64.wrap ((js.length : Int) - l.length + PS) = js.length - l.length + PS := IntWalk.i64_in _ (by omega)
          have hB := hb
          clear hb
          go_region_held3 (fun w' => w'.cell? ⟨w.heap.size, 0, none⟩ = some (.slice ja js.length jc) ∧ w'.cell? ⟨w.heap.size, 1, none⟩ = some (.slice na ns.length nc)) (go_keep)
            (first
              | (go_at_call 34
                 refine (HX1.out _ (by first | exact hB | exact hB.drew)).mono ?_
                 rintro E w9 ⟨rfl, rfl⟩)
              | (go_at_call 35
                 refine (HP1.out _ (by first | exact hB | exact hB.drew)).mono ?_
                 rintro E w9 ⟨rfl, hb9⟩
                 have p0 := (hb9.cell (p := ⟨w.heap.size, 0, none⟩) hz).trans p0
                 have p1 := (hb9.cell (p := ⟨w.heap.size, 1, none⟩) hz).trans p1
                 have hz := Nat.lt_of_lt_of_le hz hb9.size
                 have hB : Below w.heap.size w w9 := by first | exact below_onN hB hb9 hB.size | exact below_onN hB.drew hb9 hB.drew.size))

          all_goals
            go_wp2_with fail
            refine (HA.out _).mono ?_
            rintro e wz ⟨rfl, hbz⟩
            go_wp2_with fail
            go_ret
            exact ⟨rfl, by first | exact below_onN hB hbz hB.size | exact below_onN hB.drew hbz hB.drew.size⟩

  · have p0 := cell_below p0 hbx
    have p1 := cell_below p1 hbx
    have hb := below_onN hb hbx hb.size
    clear hbx
    go_wp2_with fail
    refine (HSh.out _ hb).mono ?_
    rintro e w5 (⟨rfl, hbx, -⟩ | ⟨S, aS, cS, rfl, hSI, hSb, hbx, hu⟩)
    · have hPl := hPl.same (hbx.block g hgl)
      have hgl := Nat.lt_of_lt_of_le hgl hbx.size
      have p0 := cell_below p0 hbx
      have p1 := cell_below p1 hbx
      have hb := below_onN hb hbx hb.size
      clear hbx
      have hML := HMe.out hno
      have dL : decide (M < (js.length : Int)) = false := decide_eq_false (by omega)
      obtain ⟨hgp, hcp⟩ := HComp.out hno
      have HR6 := Lib.hid (HRt.out w5 g c hb hPl hgp)
      have HD6 := Lib.hid (fun W (hW : Below w5.heap.size w5 W) (hW2 : Below w.heap.size w W) => HDo.out W g c hW2 (hPl.same (hW.block g hgl)) hgp hcp)
      rw [hPLn.out] at HR6 HD6
      go_wp2_with fail
      refine HR6.out.mono ?_
      rintro e w6 ⟨rfl, hbx⟩
      have p0 := cell_below p0 hbx
      have p1 := cell_below p1 hbx
      have hb := below_onN hb hbx hb.size
      have hbx6 := hbx
      clear hbx HR6
      go_wp2_with fail
      refine (HD6.out _ hbx6 hb).mono ?_
      rintro e w7 ⟨rfl, hbx⟩
      have p0 := cell_below p0 hbx
      have p1 := cell_below p1 hbx
      have hb := below_onN hb hbx hb.size
      clear hbx HD6
      go_wp2_with fail
      have hz := block_lt p0
      cases hil : indB js.length l with
      | false =>
        have HX1 := Lib.hid (fun W (hW : Below w.heap.size w W) => HIx.out W l a ca (HLI.out W hW))
        rw [hil] at HX1
        go_quiet ((go_at_call 34; exact Calls.quiet_of_same (HX1.out _ (by first | exact below_drewN hb _ | exact below_drewN hb.drew _))))
        go_wp2_with fail
        refine (HA.out _).mono ?_
        rintro e wz ⟨rfl, hbz⟩
        go_wp2_with fail
        go_ret
        exact ⟨rfl, by first | exact below_onN hb hbz hb.size | exact below_onN hb.drew hbz hb.drew.size | exact below_onN (below_drewN hb _) hbz (below_drewN hb _).size⟩
      | true =>
        have hle := HDl.out l hil
        have hpb := HPb.out l
        have HP1 := Lib.hid (fun W (hW : Below w.heap.size w W) => HPl.out W l a ca hW (HLI.out W hW) hil)
        have HX1 := Lib.hid (fun W (hW : Below w.heap.size w W) => HIx.out W l a ca (HLI.out W hW))
        rw [hil] at HX1
        generalize pS js ns l ns.length = PS at *
        have g1 : decide ((js.length : Int) - l.length + PS < M) = false := decide_eq_false (by omega)
        have w1' : IntKind.i64.wrap ((js.length : Int) - l.length) = js.length - l.length := IntWalk.i64_in _ (by omega)
        have w2' : IntKind.i64.wrap ((js.length : Int) - l.length + PS) = js.length - l.length + PS := IntWalk.i64_in _ (by omega)
        have hB := hb
        clear hb
        go_region_held3 (fun w' => w'.cell? ⟨w.heap.size, 0, none⟩ = some (.slice ja js.length jc) ∧ w'.cell? ⟨w.heap.size, 1, none⟩ = some (.slice na ns.length nc)) (go_keep)
          (first
            | (go_at_call 34
               refine (HX1.out _ (by first | exact hB | exact hB.drew)).mono ?_
               rintro E w9 ⟨rfl, rfl⟩)
            | (go_at_call 35
               refine (HP1.out _ (by first | exact hB | exact hB.drew)).mono ?_
               rintro E w9 ⟨rfl, hb9⟩
               have p0 := (hb9.cell (p := ⟨w.heap.size, 0, none⟩) hz).trans p0
               have p1 := (hb9.cell (p := ⟨w.heap.size, 1, none⟩) hz).trans p1
               have hz := Nat.lt_of_lt_of_le hz hb9.size
               have hB : Below w.heap.size w w9 := by first | exact below_onN hB hb9 hB.size | exact below_onN hB.drew hb9 hB.drew.size))

        all_goals
          go_wp2_with fail
          refine (HA.out _).mono ?_
          rintro e wz ⟨rfl, hbz⟩
          go_wp2_with fail
          go_ret
          exact ⟨rfl, by first | exact below_onN hB hbz hB.size | exact below_onN hB.drew hbz hB.drew.size⟩

    · obtain ⟨u, hu1, hu2⟩ := hu
      exact absurd hu2 (hno u hu1)

theorem topEither_any (ja : Option Addr) (js : List Jo) (jc : Nat) (na : Option Addr) (ns : List Ni) (nc : Nat) (a : Option Addr) (l : List Int) (ca : Nat) (w : World) (hJ : JobsS w ja js) (hN : NightsS w na ns) (hI : IntsS w a l) :
    Calls Try.prog 12 #[.agg #[.slice ja js.length jc, .slice na ns.length nc], .slice a l.length ca] w fun e w' => e = .returned (.bool true) ∧ Below w.heap.size w w' := by
  cases h0 : wideB js.length ns.length 40 40 with
  | true => exact topEither_a ja js jc na ns nc a l ca w hJ hN hI h0
  | false =>
    by_cases h1 : 40 < l.length
    · exact topEither_b ja js jc na ns nc a l ca w hJ hN hI h0 h1
    · cases h2 : (errL js ns == 0) with
      | false => exact topEither_c ja js jc na ns nc a l ca w hJ hN hI h0 h1 h2
      | true => exact topEither_e ja js jc na ns nc a l ca w hJ hN hI h0 h1 h2
end Go.Proofs.Ytpkafkhdococeaa
