/-
  formed, right, Right, planError and Done of package night, at any plan. By an AI agent.; Sorting in place, and keeping equals in order: plain mathematics of rotations and of the symmetric merge. By an AI agent.; Swaps and rotations in place. By an AI agent.; The symmetric merge, insertion and stable sort of ints in place. By an AI agent.
-/
import Derived.Test.YtghlhjiomebmhaaMgNightRight4
import Derived.Test.YtghlhjiomebmhaaMgNightRight10
import Derived.Test.YtghlhjiomebmhaaMgNightRight15
import Derived.Deep.RegionHeld3
import Derived.BigRegion
import Derived.BigQuiet
import Derived.StillTailTactics
import Derived.Deep.DeepCutAuto

namespace Go.Proofs.Ytghlhjiomebmhaa
set_option linter.unusedVariables false
set_option linter.unusedSimpArgs false
open Go.RowKit

theorem win_pln {L N : Nat} {l : List Int} (hl : l.length = L) : winB (-1) ((N : Int) - 1) l = plnB L N l := by
  rw [winB_any]
  unfold plnB
  rw [decide_eq_true hl, Bool.and_true]
  congr 1
  have : ∀ k, anyK (fun j => !(btw (gi l j) (-1) ((N : Int) - 1))) k = anyK (badP N l) k := fun k => by
    induction k with
    | zero => rfl
    | succ k ih =>
      unfold anyK
      rw [ih]
      congr 1
      unfold badP
      rcases btw_casesN (gi l k) (-1) ((N : Int) - 1) with h | h
      · rw [h]; have := (btw_iff _ _ _).1 h
        rw [decide_eq_false (by omega), decide_eq_false (by omega)]; rfl
      · rw [h]
        have h2 : ¬ (-1 ≤ gi l k ∧ gi l k ≤ (N : Int) - 1) := fun hh => by rw [btw_t hh.1 hh.2] at h; cases h
        by_cases e : gi l k < -1
        · rw [decide_eq_true e]; rfl
        · rw [decide_eq_false e, decide_eq_true (by omega)]; rfl
  exact this _
set_option maxRecDepth 100000 in
theorem formed_r (ja : Option Addr) (js : List Jo) (jc : Nat) (na : Option Addr) (ns : List Ni) (nc : Nat) (a : Option Addr) (l : List Int) (ca : Nat) (w : World) (hJ : JobsS w ja js) (hN : NightsS w na ns) (hA : IntsC w a l) :
    Calls Try.prog 26 #[.slice ja js.length jc, .slice na ns.length nc, .slice a l.length ca] w fun e w' => e = .returned (.bool (plnB js.length ns.length l)) ∧ Below w.heap.size w w' := by
  have hjl := hJ.1
  have hnl := hN.1
  have hll := hA.1
  by_cases hl : l.length = js.length
  · have H1 := Lib.hid (withinN_any (-1) ((ns.length : Int) - 1) a l ca w hA)
    rw [win_pln hl] at H1
    have hel : ((l.length : Int) == (js.length : Int)) = true := by simp; omega
    clear hJ hN hA hl
    generalize plnB js.length ns.length l = R at *
    go_enter Try.func26, Try.ntmps26
    go_wp2_with fail
    refine H1.out.mono ?_
    rintro e w1 ⟨rfl, hb1⟩
    go_wp2_with fail
    go_ret
    exact ⟨rfl, hb1⟩
  · have hR : plnB js.length ns.length l = false := by unfold plnB; rw [decide_eq_false hl]; simp
    have hel : ((l.length : Int) == (js.length : Int)) = false := beq_false_of_ne (by omega)
    rw [hR]
    clear hJ hN hA hl hR
    go_enter Try.func26, Try.ntmps26
    go_wp2_with fail
    go_ret
    exact ⟨rfl, Below.refl _ _⟩
/-- How often each night was met among the first k jobs. -/
def mpK (l : List Int) : Nat → Int → Int
  | 0 => fun _ => 0
  | k + 1 => if gi l k = -1 then mpK l k else setAt (mpK l k) (gi l k) (mpK l k (gi l k) + 1)
theorem mpK_cK (l : List Int) : ∀ k (x : Int), x ≠ -1 → mpK l k x = (cK (fun i => gi l i == x) k : Nat)
  | 0, x, _ => rfl
  | k + 1, x, hx => by
    have ih := mpK_cK l k x hx
    unfold mpK cK
    by_cases e : gi l k = -1
    · rw [if_pos e, ih, if_neg (by rw [e]; simp; omega)]; rfl
    · rw [if_neg e]
      unfold setAt
      by_cases e2 : x = gi l k
      · rw [if_pos e2, ← e2, ih, if_pos (by simp)]; rfl
      · rw [if_neg e2, ih, if_neg (by simp; omega)]; rfl
theorem mpK_b (l : List Int) : ∀ k (x : Int), 0 ≤ mpK l k x ∧ mpK l k x ≤ k
  | 0, x => by simp [mpK]
  | k + 1, x => by
    have ih := mpK_b l k
    unfold mpK
    split
    · have := ih x; omega
    · unfold setAt
      split
      · have := ih (gi l k); omega
      · have := ih x; omega
/-- Is job k, in its night, too many or not fitting? -/
def badQ (js : List Jo) (ns : List Ni) (l : List Int) (k : Nat) : Bool := !(gi l k == -1) && (decide ((gn ns (gi l k).toNat).p < mpK l (k + 1) (gi l k)) || !(fitB (gj js k) (gn ns (gi l k).toNat)))
theorem rgt_prg {js : List Jo} {ns : List Ni} {l : List Int} (hp : ∀ i, i < l.length → -1 ≤ gi l i ∧ gi l i < ns.length) (hps : ∀ i, i < ns.length → 0 ≤ (gn ns i).p) : rgtB js ns l = !(anyK (badQ js ns l) l.length) := by
  rw [Bool.eq_iff_iff, rgtB_iff, Bool.not_eq_true', anyK_iff]
  constructor
  · intro h k hk
    unfold badQ
    by_cases e : gi l k = -1
    · rw [e]; rfl
    · have hb := hp k hk
      obtain ⟨m, hm⟩ : ∃ m : Nat, gi l k = m := ⟨(gi l k).toNat, by omega⟩
      obtain ⟨h1, h2⟩ := h m (by omega)
      rw [mpK_cK l (k + 1) (gi l k) e, hm, Int.toNat_natCast, h1 k hk hm]
      have h3 : cK (fun i => gi l i == (m : Int)) (k + 1) ≤ cK (fun i => gi l i == (m : Int)) l.length := by
        have : ∀ a b, a ≤ b → cK (fun i => gi l i == (m : Int)) a ≤ cK (fun i => gi l i == (m : Int)) b := fun a b hab => by
          induction b with
          | zero => obtain rfl : a = 0 := by omega
                    exact Nat.le_refl _
          | succ b ih =>
            by_cases e : a = b + 1
            · subst e; exact Nat.le_refl _
            · have := ih (by omega)
              show _ ≤ cK _ b + _
              omega
        exact this _ _ (by omega)
      rw [decide_eq_false (by omega)]; simp
  · intro h k hk
    have hbad : ∀ i, i < l.length → gi l i = (k : Int) → mpK l (i + 1) k ≤ (gn ns k).p ∧ fitB (gj js i) (gn ns k) = true := fun i hi e => by
      have := h i hi
      unfold badQ at this
      rw [e, Int.toNat_natCast] at this
      have hne : ((k : Int) == -1) = false := beq_false_of_ne (by omega)
      rw [hne] at this
      simp at this
      exact ⟨by omega, this.2⟩
    refine ⟨fun i hi e => (hbad i hi e).2, ?_⟩
    have : ∀ j, j ≤ l.length → (cK (fun i => gi l i == (k : Int)) j : Int) ≤ (gn ns k).p := fun j => by
      induction j with
      | zero => intro _; have := hps k hk; simpa [cK] using this
      | succ j ih =>
        intro hj
        by_cases e : gi l j = (k : Int)
        · have h1 := (hbad j (by omega) e).1
          rw [mpK_cK l (j + 1) k (by omega)] at h1
          exact h1
        · unfold cK
          rw [if_neg (by simp; exact e)]
          have := ih (by omega)
          simpa using this
    exact this _ (Nat.le_refl _)
set_option maxRecDepth 100000 in
set_option maxHeartbeats 1000000 in
theorem nRight_r (ja : Option Addr) (js : List Jo) (jc : Nat) (na : Option Addr) (ns : List Ni) (nc : Nat) (a : Option Addr) (l : List Int) (ca : Nat) (w : World) (hJ : JobsS w ja js) (hN : NightsS w na ns) (hA : IntsC w a l) (hp : ∀ i, i < l.length → -1 ≤ gi l i ∧ gi l i < ns.length) (hps : ∀ i, i < ns.length → 0 ≤ (gn ns i).p ∧ (gn ns i).p ≤ 100) (hle : l.length ≤ js.length) (hsm : js.length ≤ 1000) :
    Calls Try.prog 27 #[.slice ja js.length jc, .slice na ns.length nc, .slice a l.length ca] w fun e w' => e = .returned (.bool (rgtB js ns l)) ∧ Below w.heap.size w w' := by
  have HB : Hid (∀ k, k < l.length → badQ js ns l k = true → rgtB js ns l = false) := Lib.hid fun k hk h => by rw [rgt_prg hp (fun i hi => (hps i hi).1), anyK_true h _ hk]; rfl
  have HG : Hid ((∀ k, k < l.length → badQ js ns l k = false) → rgtB js ns l = true) := Lib.hid fun h => by rw [rgt_prg hp (fun i hi => (hps i hi).1), anyK_false _ h]; rfl
  have HD : Hid (∀ k (m : Nat), gi l k = m → badQ js ns l k = (decide ((gn ns m).p < mpK l (k + 1) m) || !(fitB (gj js k) (gn ns m)))) := Lib.hid fun k m e => by
    unfold badQ
    rw [e, Int.toNat_natCast, beq_false_of_ne (by omega)]; rfl
  have HN : Hid (∀ k, gi l k = -1 → badQ js ns l k = false) := Lib.hid fun k e => by unfold badQ; rw [e]; rfl
  have HS : Hid (∀ k (m : Nat), gi l k = m → mpK l (k + 1) = setAt (mpK l k) m (mpK l k m + 1)) := Lib.hid fun k m e => by
    show (if gi l k = -1 then _ else _) = _
    rw [e, if_neg (by omega)]
  have HS1 : Hid (∀ k, gi l k = -1 → mpK l (k + 1) = mpK l k) := Lib.hid fun k e => by
    show (if gi l k = -1 then _ else _) = _
    rw [if_pos e]
  have HMb := Lib.hid (mpK_b l)
  have HP := Lib.hid hp
  have HPs := Lib.hid hps
  have hnl := hN.1
  obtain ⟨jb, jo, HJa, HJc⟩ := jobs_cells hJ
  obtain ⟨nb, no, HNa, HNc⟩ := nights_cells hN
  obtain ⟨hl64, blk, off, hadr, hc⟩ := hA
  have HC := Lib.hid hc
  have HL : Hid (0 < l.length → a = some ⟨blk, off, none⟩) := Lib.hid fun h => hadr (pos_ne (n := 0) h)
  have hm0 : Hid (mpK l 0 = fun _ => 0) := Lib.hid rfl
  clear hc hadr hJ hN hp hps
  generalize rgtB js ns l = R at *
  have hmm := @run_makeMap Try.prog
  go_enter Try.func27, Try.ntmps27
  go_wp2_with fail
  go_loopw [13] (fun i wr => ∃ k : Nat, k ≤ l.length ∧ i = .int .i64 k ∧ Below w.heap.size w wr ∧ MapI Try.prog 3 3 wr w.heap.size k (mpK l k) ∧ Hid (∀ j, j < k → badQ js ns l j = false)) (fun i _ => l.length - (intOf i).toNat)
  case atStart => exact ⟨0, Nat.zero_le _, rfl, (Below.refl _ _).alloc (Nat.le_refl _) _, (by rw [hm0.out]; exact MapI.made _ _ _ _), Lib.hid fun j hj => absurd hj (Nat.not_lt_zero _)⟩
  case round =>
    obtain ⟨k, hk, rfl, hb, hM, hQ⟩ := hrel
    by_cases hlt : k < l.length
    · have hkj : k < js.length := by omega
      obtain rfl := HL.out (by omega)
      obtain rfl := HJa.out (by omega)
      have e0 := cell_below (HC.out k hlt) hb
      obtain ⟨hx1, hx2⟩ := HP.out k hlt
      have hwK : w.heap.size < wr.heap.size := hM.lt
      have HQ1 : Hid (badQ js ns l k = false → ∀ j, j < k + 1 → badQ js ns l j = false) := Lib.hid fun h j hj => by
        by_cases e : j = k
        · subst e; exact h
        · exact hQ.out j (by omega)
      by_cases hx : gi l k = -1
      · have hN0 := Lib.hid (HQ1.out (HN.out k hx))
        have hM1 : MapI Try.prog 3 3 wr w.heap.size (k + 1) (mpK l (k + 1)) := by rw [HS1.out k hx]; exact hM.mono (by omega)
        have HM1 := Lib.hid hM1
        clear HB HG HD HN HS HS1 HMb HP HPs HJa HJc HNa HNc HC HL hM hQ HQ1 hM1
        generalize gi l k = x at *
        have dx : (x == -1) = true := by simp [hx]
        clear hx
        go_wp2_with fail
        go_roundw
        case rel => exact ⟨k + 1, by omega, by go_num, hb, HM1.out, hN0⟩
        case measure => simp [intOf]; omega
      · obtain ⟨m, hm⟩ : ∃ m : Nat, gi l k = m := ⟨(gi l k).toNat, by omega⟩
        have hmn : m < ns.length := by omega
        obtain rfl := HNa.out (by omega)
        obtain ⟨c0, c1, c2, c3, c4, c5, c6, c7⟩ := HJc.out k hkj
        obtain ⟨d0, d1, d2, d3, d4, d5, d6, d7⟩ := HNc.out m hmn
        have HBk := Lib.hid (HB.out k hlt)
        have HDk := Lib.hid (HD.out k m hm)
        have hSk := HS.out k m hm
        obtain ⟨hb0, hb1⟩ := HMb.out k m
        obtain ⟨hp0, hp1⟩ := HPs.out m hmn
        have HV : Hid (mpK l (k + 1) m = mpK l k m + 1) := Lib.hid (by rw [hSk]; unfold setAt; rw [if_pos rfl])
        have HSk := Lib.hid hSk
        have HF := Lib.hid (fun W => fits_r (gj js k) (gn ns m) W)
        have dx : ((m : Int) == -1) = false := beq_false_of_ne (by omega)
        rw [hm] at e0
        clear HB HG HD HN HS HS1 HMb HP HPs HJa HJc HNa HNc HC HL hQ hm hx hx1 hx2 hSk
        generalize hf1 : mpK l (k + 1) = f1 at *
        have HF1 := Lib.hid hf1
        clear hf1
        generalize mpK l k = f at *
        generalize badQ js ns l k = bd at *
        generalize gj js k = jx at *
        generalize gn ns m = s at *
        have hlk := hM.look (t := 75) underI underMI underI (zeroI _) m (wf64 (by omega) (by omega))
        obtain ⟨v, hv⟩ : ∃ v, f m = v := ⟨_, rfl⟩
        rw [hv] at hlk hb0 hb1 HV HSk
        have hwv : IntKind.i64.wrap (v + 1) = v + 1 := IntWalk.i64_in _ (by omega)
        obtain ⟨u, hu⟩ : ∃ u, v + 1 = u := ⟨_, rfl⟩
        have hu1 : 0 ≤ u := by omega
        have hu2 : u ≤ 1000000 := by omega
        rw [hu] at HV
        have HU := Lib.hid hu
        clear hv hu
        go_wp2_with (first | (at_mapUpdate; refine wpList_putI _ rfl _ _ _ 75 rfl 3 3 _ _ _ rfl hM underI underMI underI _ _ rfl rfl (wf64 (by omega) (by omega)) (wf64 (by omega) (by omega)) (by unfold maxLen; omega) ?_; intro w3 hM3 hg3))
        rw [← HSk.out] at hM3
        have hb3 : Below w.heap.size w w3 := hb.grown hg3 hb.size (fun z hz => by cases hz; exact Nat.le_refl _)
        have hlk3 := hM3.look (t := 75) underI underMI underI (zeroI _) m (wf64 (by omega) (by omega))
        rw [HV.out] at hlk3
        have hlk4 := hM3.drew.look (t := 75) underI underMI underI (zeroI _) m (wf64 (by omega) (by omega))
        rw [HV.out] at hlk4
        have kJ1 : decide ((0 : Int) ≤ k) = true := decide_eq_true (by omega)
        have kJ2 : k < js.length := hkj
        have kN2 : m < ns.length := hmn
        have c0 := cell_below c0 hb3
        have d0 := cell_below d0 hb3
        have c1 := cell_below c1 hb3
        have d1 := cell_below d1 hb3
        have c2 := cell_below c2 hb3
        have d2 := cell_below d2 hb3
        have c3 := cell_below c3 hb3
        have d3 := cell_below d3 hb3
        have c4 := cell_below c4 hb3
        have d4 := cell_below d4 hb3
        have c5 := cell_below c5 hb3
        have d5 := cell_below d5 hb3
        have c6 := cell_below c6 hb3
        have d6 := cell_below d6 hb3
        have c7 := cell_below c7 hb3
        have d7 := cell_below d7 hb3
        clear hlk hM e0
        by_cases hov : s.p < u
        · have dov : decide (s.p < u) = true := decide_eq_true hov
          have hR := Lib.hid (HBk.out (by rw [HDk.out, HV.out, dov]; rfl))
          clear HBk HDk HF HV HSk HQ1 c0 c1 c2 c3 c4 c5 c6 c7
          go_wp2_with fail
          refine wp_region_still_tail 18 (by kernel_rfl) (by kernel_rfl) ?_
          simp only [List.take_succ_cons, List.take_zero, List.drop_succ_cons, List.drop_zero]
          repeat ((with_reducible refine wpStill_step (fun K hK => ?_)); go_simp; (with_reducible refine hK _ ?_); clear hK K)
          with_reducible refine wpStill_nil ?_
          change wpList _ _ _ _ _ w3.drew
          have hb3 := hb3.drew
          generalize w3.drew = w4 at hb3 ⊢
          clear hlk3 hlk4 hg3 d0 d1 d2 d3 d4 d5 d6 d7
          go_wp2_with fail
          go_ret
          exact ⟨by rw [hR.out]; rfl, hb3⟩
        · have dov : decide (s.p < u) = false := decide_eq_false hov
          cases hfit : fitB jx s with
          | true =>
            rw [hfit] at HF
            have hQ2 := Lib.hid (HQ1.out (by rw [HDk.out, HV.out, dov, hfit]; rfl))
            clear HBk HDk HV HSk HQ1 hfit
            go_wp2_with fail
            go_still_tail 18, (by kernel_rfl)
            change wpList _ _ _ _ _ w3.drew
            have hM3 := hM3.drew
            have hb3 := hb3.drew
            generalize w3.drew = w4 at hM3 hb3 ⊢
            clear c0 d0 c1 d1 c2 d2 c3 d3 c4 d4 c5 d5 c6 d6 c7 d7 hlk3 hlk4 hg3
            go_wp2_with fail
            refine (HF.out _).mono ?_
            rintro e w5 ⟨rfl, hb5⟩
            have hM5 := hM3.below hM3.lt hb5
            have hb5 := below_onN hb3 hb5 hb3.size
            go_wp2_with fail
            go_roundw
            case rel => exact ⟨k + 1, by omega, by go_num, hb5, (by rw [HF1.out]; exact hM5), hQ2⟩
            case measure => simp [intOf]; omega
          | false =>
            rw [hfit] at HF
            have hR := Lib.hid (HBk.out (by rw [HDk.out, hfit]; simp))
            clear HBk HDk HV HSk HQ1 hfit
            go_wp2_with fail
            go_still_tail 18, (by kernel_rfl)
            change wpList _ _ _ _ _ w3.drew
            have hb3 := hb3.drew
            generalize w3.drew = w4 at hb3 ⊢
            clear c0 d0 c1 d1 c2 d2 c3 d3 c4 d4 c5 d5 c6 d6 c7 d7 hlk3 hlk4 hg3
            go_wp2_with fail
            refine (HF.out _).mono ?_
            rintro e w5 ⟨rfl, hb5⟩
            have hb5 := below_onN hb3 hb5 hb3.size
            go_wp2_with fail
            go_ret
            exact ⟨by rw [hR.out]; rfl, hb5⟩
    · obtain rfl : k = l.length := by omega
      have hR := Lib.hid (HG.out hQ.out)
      clear HB HG HD HN HS HS1 HMb HP HPs HJa HJc HNa HNc HC HL hQ hM
      go_wp2_with fail
      go_ret
      exact ⟨by rw [hR.out]; rfl, hb⟩
theorem nRight_v (ja : Option Addr) (js : List Jo) (jc : Nat) (na : Option Addr) (ns : List Ni) (nc : Nat) (a : Option Addr) (l : List Int) (ca : Nat) (w : World) (hJ : JobsS w ja js) (hN : NightsS w na ns) (hA : IntsC w a l) (he : errL js ns = 0) (hp : plnB js.length ns.length l = true) :
    Calls Try.prog 27 #[.slice ja js.length jc, .slice na ns.length nc, .slice a l.length ca] w fun e w' => e = .returned (.bool (rgtB js ns l)) ∧ Below w.heap.size w w' := by
  obtain ⟨v1, v2⟩ := errL_ok he
  obtain ⟨h1, h2⟩ := plnB_iff.1 hp
  have := jobsB_len v1
  exact nRight_r ja js jc na ns nc a l ca w hJ hN hA h2 (fun i hi => nightB_p (nightsB_ok v2 hi)) (by omega) (by omega)
set_option maxRecDepth 100000 in
theorem nRt_1 (ja : Option Addr) (js : List Jo) (jc : Nat) (na : Option Addr) (ns : List Ni) (nc : Nat) (a : Option Addr) (l : List Int) (ca : Nat) (w : World) (hJ : JobsS w ja js) (hN : NightsS w na ns) (hA : IntsC w a l) (he : (errL js ns == 0) = false) :
    Calls Try.prog 9 #[.slice ja js.length jc, .slice na ns.length nc, .slice a l.length ca] w fun e w' => e = .returned (.tuple #[.bool false, .int .i64 (errL js ns)]) ∧ Below w.heap.size w w' := by
  have H1 := Lib.hid (listsError_r ja js jc na ns nc w hJ hN)
  clear hJ hN hA
  generalize errL js ns = E at *
  go_enter Try.func9, Try.ntmps9
  go_wp2_with fail
  refine H1.out.mono ?_
  rintro e w1 ⟨rfl, hb1⟩
  go_wp2_with fail
  go_ret2
  exact ⟨rfl, hb1⟩
set_option maxRecDepth 100000 in
theorem nRt_2 (ja : Option Addr) (js : List Jo) (jc : Nat) (na : Option Addr) (ns : List Ni) (nc : Nat) (a : Option Addr) (l : List Int) (ca : Nat) (w : World) (hJ : JobsS w ja js) (hN : NightsS w na ns) (hA : IntsC w a l) (he : errL js ns = 0) (h2 : plnB js.length ns.length l = false) :
    Calls Try.prog 9 #[.slice ja js.length jc, .slice na ns.length nc, .slice a l.length ca] w fun e w' => e = .returned (.tuple #[.bool false, .int .i64 82]) ∧ Below w.heap.size w w' := by
  have H1 := Lib.hid (listsError_r ja js jc na ns nc w hJ hN)
  have H2 := Lib.hid (fun W (hW : Below w.heap.size w W) => formed_r ja js jc na ns nc a l ca W (hJ.below hW) (hN.below hW) (hA.below hW))
  rw [he] at H1
  rw [h2] at H2
  clear hJ hN hA he h2
  go_enter Try.func9, Try.ntmps9
  go_wp2_with fail
  refine H1.out.mono ?_
  rintro e w1 ⟨rfl, hb1⟩
  go_wp2_with fail
  refine (H2.out _ hb1).mono ?_
  rintro e w2 ⟨rfl, hc2⟩
  have hb2 := below_onN hb1 hc2 hb1.size
  go_wp2_with fail
  go_ret2
  exact ⟨rfl, hb2⟩
set_option maxRecDepth 100000 in
theorem nRt_3 (ja : Option Addr) (js : List Jo) (jc : Nat) (na : Option Addr) (ns : List Ni) (nc : Nat) (a : Option Addr) (l : List Int) (ca : Nat) (w : World) (hJ : JobsS w ja js) (hN : NightsS w na ns) (hA : IntsC w a l) (he : errL js ns = 0) (h2 : plnB js.length ns.length l = true) :
    Calls Try.prog 9 #[.slice ja js.length jc, .slice na ns.length nc, .slice a l.length ca] w fun e w' => e = .returned (.tuple #[.bool (rgtB js ns l), .int .i64 0]) ∧ Below w.heap.size w w' := by
  have H1 := Lib.hid (listsError_r ja js jc na ns nc w hJ hN)
  have H2 := Lib.hid (fun W (hW : Below w.heap.size w W) => formed_r ja js jc na ns nc a l ca W (hJ.below hW) (hN.below hW) (hA.below hW))
  have H3 := Lib.hid (fun W (hW : Below w.heap.size w W) => nRight_v ja js jc na ns nc a l ca W (hJ.below hW) (hN.below hW) (hA.below hW) he h2)
  rw [he] at H1
  rw [h2] at H2
  clear hJ hN hA he h2
  generalize rgtB js ns l = R at *
  go_enter Try.func9, Try.ntmps9
  go_wp2_with fail
  refine H1.out.mono ?_
  rintro e w1 ⟨rfl, hb1⟩
  go_wp2_with fail
  refine (H2.out _ hb1).mono ?_
  rintro e w2 ⟨rfl, hc2⟩
  have hb2 := below_onN hb1 hc2 hb1.size
  go_wp2_with fail
  refine (H3.out _ hb2).mono ?_
  rintro e w3 ⟨rfl, hc3⟩
  have hb3 := below_onN hb2 hc3 hb2.size
  go_wp2_with fail
  go_ret2
  exact ⟨rfl, hb3⟩
theorem nRt_r (ja : Option Addr) (js : List Jo) (jc : Nat) (na : Option Addr) (ns : List Ni) (nc : Nat) (a : Option Addr) (l : List Int) (ca : Nat) (w : World) (hJ : JobsS w ja js) (hN : NightsS w na ns) (hA : IntsC w a l) :
    Calls Try.prog 9 #[.slice ja js.length jc, .slice na ns.length nc, .slice a l.length ca] w fun e w' => e = .returned (.tuple #[.bool (rtV js ns l), .int .i64 (rtE js ns l)]) ∧ Below w.heap.size w w' := by
  unfold rtV rtE
  by_cases he : errL js ns = 0
  · rw [if_pos he, decide_eq_true he]
    cases h2 : plnB js.length ns.length l with
    | false => exact nRt_2 ja js jc na ns nc a l ca w hJ hN hA he h2
    | true => exact nRt_3 ja js jc na ns nc a l ca w hJ hN hA he h2
  · rw [if_neg he, decide_eq_false he]
    exact nRt_1 ja js jc na ns nc a l ca w hJ hN hA (beq_false_of_ne he)
set_option maxRecDepth 100000 in
theorem nPE_1 (ja : Option Addr) (js : List Jo) (jc : Nat) (na : Option Addr) (ns : List Ni) (nc : Nat) (a : Option Addr) (l : List Int) (ca : Nat) (w : World) (hJ : JobsS w ja js) (hN : NightsS w na ns) (hA : IntsC w a l) (he : (errL js ns == 0) = false) :
    Calls Try.prog 31 #[.slice ja js.length jc, .slice na ns.length nc, .slice a l.length ca] w fun e w' => e = .returned (.int .i64 (errL js ns)) ∧ Below w.heap.size w w' := by
  have H1 := Lib.hid (listsError_r ja js jc na ns nc w hJ hN)
  clear hJ hN hA
  generalize errL js ns = E at *
  go_enter Try.func31, Try.ntmps31
  go_wp2_with fail
  refine H1.out.mono ?_
  rintro e w1 ⟨rfl, hb1⟩
  go_wp2_with fail
  go_ret
  exact ⟨rfl, hb1⟩
set_option maxRecDepth 100000 in
theorem nPE_2 (ja : Option Addr) (js : List Jo) (jc : Nat) (na : Option Addr) (ns : List Ni) (nc : Nat) (a : Option Addr) (l : List Int) (ca : Nat) (w : World) (hJ : JobsS w ja js) (hN : NightsS w na ns) (hA : IntsC w a l) (he : errL js ns = 0) (h2 : plnB js.length ns.length l = false) :
    Calls Try.prog 31 #[.slice ja js.length jc, .slice na ns.length nc, .slice a l.length ca] w fun e w' => e = .returned (.int .i64 82) ∧ Below w.heap.size w w' := by
  have H1 := Lib.hid (listsError_r ja js jc na ns nc w hJ hN)
  have H2 := Lib.hid (fun W (hW : Below w.heap.size w W) => formed_r ja js jc na ns nc a l ca W (hJ.below hW) (hN.below hW) (hA.below hW))
  rw [he] at H1
  rw [h2] at H2
  clear hJ hN hA he h2
  go_enter Try.func31, Try.ntmps31
  go_wp2_with fail
  refine H1.out.mono ?_
  rintro e w1 ⟨rfl, hb1⟩
  go_wp2_with fail
  refine (H2.out _ hb1).mono ?_
  rintro e w2 ⟨rfl, hc2⟩
  have hb2 := below_onN hb1 hc2 hb1.size
  go_wp2_with fail
  go_ret
  exact ⟨rfl, hb2⟩
set_option maxRecDepth 100000 in
theorem nPE_3 (ja : Option Addr) (js : List Jo) (jc : Nat) (na : Option Addr) (ns : List Ni) (nc : Nat) (a : Option Addr) (l : List Int) (ca : Nat) (w : World) (hJ : JobsS w ja js) (hN : NightsS w na ns) (hA : IntsC w a l) (he : errL js ns = 0) (h2 : plnB js.length ns.length l = true) (h3 : rgtB js ns l = false) :
    Calls Try.prog 31 #[.slice ja js.length jc, .slice na ns.length nc, .slice a l.length ca] w fun e w' => e = .returned (.int .i64 82) ∧ Below w.heap.size w w' := by
  have H1 := Lib.hid (listsError_r ja js jc na ns nc w hJ hN)
  have H2 := Lib.hid (fun W (hW : Below w.heap.size w W) => formed_r ja js jc na ns nc a l ca W (hJ.below hW) (hN.below hW) (hA.below hW))
  have H3 := Lib.hid (fun W (hW : Below w.heap.size w W) => nRight_v ja js jc na ns nc a l ca W (hJ.below hW) (hN.below hW) (hA.below hW) he h2)
  rw [he] at H1
  rw [h2] at H2
  rw [h3] at H3
  clear hJ hN hA he h2 h3
  go_enter Try.func31, Try.ntmps31
  go_wp2_with fail
  refine H1.out.mono ?_
  rintro e w1 ⟨rfl, hb1⟩
  go_wp2_with fail
  refine (H2.out _ hb1).mono ?_
  rintro e w2 ⟨rfl, hc2⟩
  have hb2 := below_onN hb1 hc2 hb1.size
  go_wp2_with fail
  refine (H3.out _ hb2).mono ?_
  rintro e w3 ⟨rfl, hc3⟩
  have hb3 := below_onN hb2 hc3 hb2.size
  go_wp2_with fail
  go_ret
  exact ⟨rfl, hb3⟩
set_option maxRecDepth 100000 in
theorem nPE_4 (ja : Option Addr) (js : List Jo) (jc : Nat) (na : Option Addr) (ns : List Ni) (nc : Nat) (a : Option Addr) (l : List Int) (ca : Nat) (w : World) (hJ : JobsS w ja js) (hN : NightsS w na ns) (hA : IntsC w a l) (he : errL js ns = 0) (h2 : plnB js.length ns.length l = true) (h3 : rgtB js ns l = true) :
    Calls Try.prog 31 #[.slice ja js.length jc, .slice na ns.length nc, .slice a l.length ca] w fun e w' => e = .returned (.int .i64 0) ∧ Below w.heap.size w w' := by
  have H1 := Lib.hid (listsError_r ja js jc na ns nc w hJ hN)
  have H2 := Lib.hid (fun W (hW : Below w.heap.size w W) => formed_r ja js jc na ns nc a l ca W (hJ.below hW) (hN.below hW) (hA.below hW))
  have H3 := Lib.hid (fun W (hW : Below w.heap.size w W) => nRight_v ja js jc na ns nc a l ca W (hJ.below hW) (hN.below hW) (hA.below hW) he h2)
  rw [he] at H1
  rw [h2] at H2
  rw [h3] at H3
  clear hJ hN hA he h2 h3
  go_enter Try.func31, Try.ntmps31
  go_wp2_with fail
  refine H1.out.mono ?_
  rintro e w1 ⟨rfl, hb1⟩
  go_wp2_with fail
  refine (H2.out _ hb1).mono ?_
  rintro e w2 ⟨rfl, hc2⟩
  have hb2 := below_onN hb1 hc2 hb1.size
  go_wp2_with fail
  refine (H3.out _ hb2).mono ?_
  rintro e w3 ⟨rfl, hc3⟩
  have hb3 := below_onN hb2 hc3 hb2.size
  go_wp2_with fail
  go_ret
  exact ⟨rfl, hb3⟩
theorem nPE_r (ja : Option Addr) (js : List Jo) (jc : Nat) (na : Option Addr) (ns : List Ni) (nc : Nat) (a : Option Addr) (l : List Int) (ca : Nat) (w : World) (hJ : JobsS w ja js) (hN : NightsS w na ns) (hA : IntsC w a l) :
    Calls Try.prog 31 #[.slice ja js.length jc, .slice na ns.length nc, .slice a l.length ca] w fun e w' => e = .returned (.int .i64 (plnE js ns l)) ∧ Below w.heap.size w w' := by
  unfold plnE
  by_cases he : errL js ns = 0
  · rw [if_pos he]
    cases h2 : plnB js.length ns.length l with
    | false => rw [if_neg (by decide)]; exact nPE_2 ja js jc na ns nc a l ca w hJ hN hA he h2
    | true =>
      rw [if_pos rfl]
      cases h3 : rgtB js ns l with
      | false => rw [if_neg (by decide)]; exact nPE_3 ja js jc na ns nc a l ca w hJ hN hA he h2 h3
      | true => rw [if_pos rfl]; exact nPE_4 ja js jc na ns nc a l ca w hJ hN hA he h2 h3
  · rw [if_neg he]
    exact nPE_1 ja js jc na ns nc a l ca w hJ hN hA (beq_false_of_ne he)
theorem plnE_ok {js : List Jo} {ns : List Ni} {l : List Int} (h : plnE js ns l = 0) : errL js ns = 0 ∧ plnB js.length ns.length l = true ∧ rgtB js ns l = true := by
  unfold plnE at h
  split at h
  · next he =>
    split at h
    · next h2 =>
      split at h
      · next h3 => exact ⟨he, h2, h3⟩
      · cases h
    · cases h
  · next he => exact absurd h he
set_option maxRecDepth 100000 in
theorem nDone_r (ja : Option Addr) (js : List Jo) (jc : Nat) (na : Option Addr) (ns : List Ni) (nc : Nat) (a : Option Addr) (l : List Int) (ca : Nat) (w : World) (hJ : JobsS w ja js) (hN : NightsS w na ns) (hA : IntsC w a l) :
    Calls Try.prog 11 #[.slice ja js.length jc, .slice na ns.length nc, .slice a l.length ca] w fun e w' => e = .returned (.tuple #[.int .i64 (doV js ns l), .int .i64 (plnE js ns l)]) ∧ Below w.heap.size w w' := by
  have H1 := Lib.hid (nPE_r ja js jc na ns nc a l ca w hJ hN hA)
  by_cases h : plnE js ns l = 0
  · obtain ⟨he, h2, h3⟩ := plnE_ok h
    have hg := (rgt_good h2).1 h3
    have hV : doV js ns l = dnN l := by unfold doV; rw [if_pos h, dn_dnK hg]
    have hs := jobs_small he
    have hll : l.length = js.length := hg.len
    have H2 := Lib.hid (fun W (hW : Below w.heap.size w W) => done_r a l ca W (hA.below hW) (by omega))
    rw [hV, h]
    rw [h] at H1
    clear hJ hN hA h he h2 h3 hg hV hs hll
    generalize dnN l = D at *
    go_enter Try.func11, Try.ntmps11
    go_wp2_with fail
    refine H1.out.mono ?_
    rintro e w1 ⟨rfl, hb1⟩
    go_wp2_with fail
    refine (H2.out _ hb1).mono ?_
    rintro e w2 ⟨rfl, hb2⟩
    go_wp2_with fail
    go_ret2
    exact ⟨rfl, below_onN hb1 hb2 hb1.size⟩
  · have hV : doV js ns l = 0 := by unfold doV; rw [if_neg h]
    have hE : (plnE js ns l == 0) = false := beq_false_of_ne h
    rw [hV]
    clear hJ hN hA h hV
    generalize plnE js ns l = E at *
    go_enter Try.func11, Try.ntmps11
    go_wp2_with fail
    refine H1.out.mono ?_
    rintro e w1 ⟨rfl, hb1⟩
    go_wp2_with fail
    go_ret2
    exact ⟨rfl, hb1⟩
end Go.Proofs.Ytghlhjiomebmhaa

namespace Go.Proofs.Ytghlhjiomebmhaa
set_option linter.unusedVariables false
set_option linter.unusedSimpArgs false
open Go.RowKit

/-- By a key, and of equal keys the lesser number first. -/
def ltK (K : Int → Int) (x y : Int) : Prop := K x < K y ∨ (K x = K y ∧ x < y)
theorem ltK_irrefl (K : Int → Int) (x : Int) : ¬ ltK K x x := by unfold ltK; omega
theorem ltK_trans {K : Int → Int} {x y z : Int} (h : ltK K x y) (h' : ltK K y z) : ltK K x z := by unfold ltK at *; omega
/-- The places from a up to b are in order. -/
def SrtS (K : Int → Int) (l : List Int) (a b : Nat) : Prop := ∀ i j, a ≤ i → i < j → j < b → ltK K (gi l i) (gi l j)
/-- What stands from a to m is less, as a number, than what stands from m to b. -/
def XLo (l : List Int) (a m b : Nat) : Prop := ∀ i j, a ≤ i → i < m → m ≤ j → j < b → gi l i < gi l j
/-- The places from a up to b hold the same in another order, all others the same. -/
structure Seg (a b : Nat) (l l' : List Int) : Prop where
  len : l'.length = l.length
  out : ∀ x, ¬ (a ≤ x ∧ x < b) → gi l' x = gi l x
  «to» : ∀ x, a ≤ x → x < b → ∃ y, a ≤ y ∧ y < b ∧ gi l' x = gi l y
  fro : ∀ y, a ≤ y → y < b → ∃ x, a ≤ x ∧ x < b ∧ gi l' x = gi l y
theorem Seg.refl (a b : Nat) (l : List Int) : Seg a b l l := ⟨rfl, fun _ _ => rfl, fun x h1 h2 => ⟨x, h1, h2, rfl⟩, fun x h1 h2 => ⟨x, h1, h2, rfl⟩⟩
theorem Seg.trans {a b : Nat} {l l' l'' : List Int} (h : Seg a b l l') (h' : Seg a b l' l'') : Seg a b l l'' where
  len := h'.len.trans h.len
  out x hx := (h'.out x hx).trans (h.out x hx)
  «to» x h1 h2 := by
    obtain ⟨y, h3, h4, h5⟩ := h'.to x h1 h2
    obtain ⟨z, h6, h7, h8⟩ := h.to y h3 h4
    exact ⟨z, h6, h7, h5.trans h8⟩
  fro y h1 h2 := by
    obtain ⟨x, h3, h4, h5⟩ := h.fro y h1 h2
    obtain ⟨z, h6, h7, h8⟩ := h'.fro x h3 h4
    exact ⟨z, h6, h7, h8.trans h5⟩
theorem Seg.widen {a b a' b' : Nat} {l l' : List Int} (h : Seg a b l l') (ha : a' ≤ a) (hb : b ≤ b') : Seg a' b' l l' where
  len := h.len
  out x hx := h.out x (by omega)
  «to» x h1 h2 := by
    by_cases c : a ≤ x ∧ x < b
    · obtain ⟨y, h3, h4, h5⟩ := h.to x c.1 c.2
      exact ⟨y, by omega, by omega, h5⟩
    · exact ⟨x, h1, h2, h.out x c⟩
  fro x h1 h2 := by
    by_cases c : a ≤ x ∧ x < b
    · obtain ⟨y, h3, h4, h5⟩ := h.fro x c.1 c.2
      exact ⟨y, by omega, by omega, h5⟩
    · exact ⟨x, h1, h2, h.out x c⟩
/-- A list that is moved by a map of places and its inverse. -/
theorem Seg.of {a b : Nat} {l l' : List Int} (hl : l'.length = l.length) (f g : Nat → Nat) (ho : ∀ x, ¬ (a ≤ x ∧ x < b) → gi l' x = gi l x) (hf : ∀ x, a ≤ x → x < b → a ≤ f x ∧ f x < b ∧ gi l' x = gi l (f x)) (hg : ∀ y, a ≤ y → y < b → a ≤ g y ∧ g y < b ∧ f (g y) = y) : Seg a b l l' where
  len := hl
  out := ho
  «to» x h1 h2 := ⟨f x, hf x h1 h2⟩
  fro y h1 h2 := by
    obtain ⟨h3, h4, h5⟩ := hg y h1 h2
    obtain ⟨_, _, h6⟩ := hf (g y) h3 h4
    exact ⟨g y, h3, h4, by rw [h6, h5]⟩
theorem SrtS.seg {K : Int → Int} {l l' : List Int} {a b a' b' : Nat} (h : SrtS K l a b) (hs : Seg a' b' l l') (hd : b ≤ a' ∨ b' ≤ a) : SrtS K l' a b := fun i j h1 h2 h3 => by
  rw [hs.out i (by omega), hs.out j (by omega)]; exact h i j h1 h2 h3
/-- The part from i to m and the part from m to e have changed places. -/
def rotF (f : Nat → Int) (i m e x : Nat) : Int :=
  if i ≤ x ∧ x < i + (e - m) then f (x - i + m) else if i + (e - m) ≤ x ∧ x < e then f (x - (e - m)) else f x
theorem rotF_none1 (f : Nat → Int) (m e x : Nat) (h : m ≤ e) : rotF f m m e x = f x := by
  unfold rotF
  split
  · congr 1; omega
  · split
    · omega
    · rfl
theorem rotF_none2 (f : Nat → Int) (i m x : Nat) (h : i ≤ m) : rotF f i m m x = f x := by
  unfold rotF
  split
  · omega
  · split
    · congr 1; omega
    · rfl
/-- n places from a on, and n from b on, have changed. -/
def swpF (f : Nat → Int) (a b n x : Nat) : Int := if a ≤ x ∧ x < a + n then f (x - a + b) else if b ≤ x ∧ x < b + n then f (x - b + a) else f x
theorem rot_gt (f : Nat → Int) {i m j : Nat} (hi : i ≤ m) (h : j < i) (x : Nat) : rotF (swpF f (m - i) m j) (m - (i - j)) m (m + j) x = rotF f (m - i) m (m + j) x := by
  unfold rotF swpF
  repeat' split
  all_goals first | (exfalso; omega) | (congr 1; omega) | rfl
theorem rot_lt (f : Nat → Int) {i m j : Nat} (hi : i ≤ m) (h : i < j) (x : Nat) : rotF (swpF f (m - i) (m + j - i) i) (m - i) m (m + (j - i)) x = rotF f (m - i) m (m + j) x := by
  unfold rotF swpF
  repeat' split
  all_goals first | (exfalso; omega) | (congr 1; omega) | rfl
theorem rot_eq (f : Nat → Int) {i m : Nat} (hi : i ≤ m) (x : Nat) : swpF f (m - i) m i x = rotF f (m - i) m (m + i) x := by
  unfold rotF swpF
  repeat' split
  all_goals first | (exfalso; omega) | (congr 1; omega) | rfl
theorem swpF_next {f c c' : Nat → Int} {a b k : Nat} (hab : a + k < b) (hc : ∀ x, c x = swpF f a b k x) (hc' : ∀ x, c' x = if x = a + k then c (b + k) else if x = b + k then c (a + k) else c x) (x : Nat) : c' x = swpF f a b (k + 1) x := by
  rw [hc', hc, hc, hc]
  unfold swpF
  repeat' split
  all_goals first | (exfalso; omega) | (congr 1; omega) | rfl
theorem rot_seg {l c : List Int} {i m e : Nat} (hi : i ≤ m) (he : m ≤ e) (hl : c.length = l.length) (hc : ∀ x, gi c x = rotF (gi l) i m e x) : Seg i e l c :=
  Seg.of hl (fun x => if x < i + (e - m) then x - i + m else x - (e - m)) (fun y => if m ≤ y then y - m + i else y + (e - m)) (fun x hx => by
    rw [hc]; unfold rotF; rw [if_neg (by omega), if_neg (by omega)]) (fun x h1 h2 => by
    rw [hc]; unfold rotF
    by_cases c1 : x < i + (e - m)
    · simp only [c1, if_true]
      rw [if_pos ⟨h1, trivial⟩]
      exact ⟨by omega, by omega, rfl⟩
    · simp only [c1, if_false]
      rw [if_neg (by simp), if_pos ⟨by omega, h2⟩]
      exact ⟨by omega, by omega, rfl⟩) (fun y h1 h2 => by
    by_cases c1 : m ≤ y
    · simp only [c1, if_true]
      rw [if_pos (by omega)]
      omega
    · simp only [c1, if_false]
      rw [if_neg (by omega)]
      omega)
/-- What the symmetric merge finds behind its rotation. -/
structure Mid (K : Int → Int) (l c : List Int) (a s d e b : Nat) : Prop where
  s1 : SrtS K c a s
  s2 : SrtS K c s d
  s3 : SrtS K c d e
  s4 : SrtS K c e b
  x1 : XLo c a s d
  x2 : XLo c d e b
  cr : ∀ i j, a ≤ i → i < d → d ≤ j → j < b → ltK K (gi c i) (gi c j)
  sg : Seg a b l c
theorem mid_of {K : Int → Int} {l c : List Int} {a m b d s : Nat} (h1 : a < m) (h2 : m < b) (hd : d = (a + b) / 2) (hL : SrtS K l a m) (hR : SrtS K l m b) (hX : XLo l a m b)
    (hs0 : a ≤ s) (hsm : s ≤ m) (hsd : s ≤ d) (hse : d + m - s ≤ b) (hem : m ≤ d + m - s)
    (hlo : s = a ∨ d + m - s = b ∨ ltK K (gi l (s - 1)) (gi l (d + m - s))) (hhi : s = m ∨ s = d ∨ ltK K (gi l (d + m - s - 1)) (gi l s))
    (hl : c.length = l.length) (hc : ∀ x, gi c x = rotF (gi l) s m (d + m - s) x) : Mid K l c a s d (d + m - s) b := by
  generalize he : d + m - s = e at *
  have c1 : ∀ x, x < s → gi c x = gi l x := fun x hx => by rw [hc]; unfold rotF; rw [if_neg (by omega), if_neg (by omega)]
  have c2 : ∀ x, s ≤ x → x < d → gi c x = gi l (x - s + m) := fun x hx hx2 => by rw [hc]; unfold rotF; rw [if_pos ⟨hx, by omega⟩]
  have c3 : ∀ x, d ≤ x → x < e → gi c x = gi l (x - (e - m)) := fun x hx hx2 => by rw [hc]; unfold rotF; rw [if_neg (by omega), if_pos ⟨by omega, hx2⟩]
  have c4 : ∀ x, e ≤ x → gi c x = gi l x := fun x hx => by rw [hc]; unfold rotF; rw [if_neg (by omega), if_neg (by omega)]
  have le_of : ∀ i j, a ≤ i → i ≤ j → j < m → gi l i = gi l j ∨ ltK K (gi l i) (gi l j) := fun i j q1 q2 q3 => by
    by_cases e : i = j
    · exact .inl (by rw [e])
    · exact .inr (hL i j q1 (by omega) q3)
  have re_of : ∀ i j, m ≤ i → i ≤ j → j < b → gi l i = gi l j ∨ ltK K (gi l i) (gi l j) := fun i j q1 q2 q3 => by
    by_cases e : i = j
    · exact .inl (by rw [e])
    · exact .inr (hR i j q1 (by omega) q3)
  refine ⟨fun i j q1 q2 q3 => ?_, fun i j q1 q2 q3 => ?_, fun i j q1 q2 q3 => ?_, fun i j q1 q2 q3 => ?_, fun i j q1 q2 q3 q4 => ?_, fun i j q1 q2 q3 q4 => ?_, fun i j q1 q2 q3 q4 => ?_, (rot_seg hsm (by omega) hl hc).widen hs0 hse⟩
  · rw [c1 i (by omega), c1 j (by omega)]; exact hL i j q1 q2 (by omega)
  · rw [c2 i (by omega) (by omega), c2 j (by omega) (by omega)]; exact hR _ _ (by omega) (by omega) (by omega)
  · rw [c3 i (by omega) (by omega), c3 j (by omega) (by omega)]; exact hL _ _ (by omega) (by omega) (by omega)
  · rw [c4 i (by omega), c4 j (by omega)]; exact hR i j (by omega) q2 q3
  · rw [c1 i (by omega), c2 j (by omega) (by omega)]; exact hX _ _ q1 (by omega) (by omega) (by omega)
  · rw [c3 i (by omega) (by omega), c4 j (by omega)]; exact hX _ _ (by omega) (by omega) (by omega) q4
  · by_cases p1 : i < s
    · by_cases p2 : j < e
      · rw [c1 i p1, c3 j q3 p2]; exact hL _ _ q1 (by omega) (by omega)
      · rw [c1 i p1, c4 j (by omega)]
        have hx : ltK K (gi l (s - 1)) (gi l e) := by
          rcases hlo with h | h | h
          · omega
          · omega
          · exact h
        have A := le_of i (s - 1) q1 (by omega) (by omega)
        have B := re_of e j (by omega) (by omega) q4
        rcases A with A | A <;> rcases B with B | B
        · rw [A, ← B]; exact hx
        · rw [A]; exact ltK_trans hx B
        · rw [← B]; exact ltK_trans A hx
        · exact ltK_trans A (ltK_trans hx B)
    · by_cases p2 : j < e
      · rw [c2 i (by omega) q2, c3 j q3 p2]
        have hx : ltK K (gi l (e - 1)) (gi l s) := by
          rcases hhi with h | h | h
          · omega
          · omega
          · exact h
        have A := re_of (i - s + m) (e - 1) (by omega) (by omega) (by omega)
        have B := le_of s (j - (e - m)) (by omega) (by omega) (by omega)
        rcases A with A | A <;> rcases B with B | B
        · rw [A, ← B]; exact hx
        · rw [A]; exact ltK_trans hx B
        · rw [← B]; exact ltK_trans A hx
        · exact ltK_trans A (ltK_trans hx B)
      · rw [c2 i (by omega) q2, c4 j (by omega)]; exact hR _ _ (by omega) (by omega) q4
/-- Both halves put in order make the whole. -/
theorem mid_done {K : Int → Int} {l c c1 c2 : List Int} {a s d e b : Nat} (hm : Mid K l c a s d e b) (had : a ≤ d) (hdb : d ≤ b) (g1 : Seg a d c c1) (t1 : SrtS K c1 a d) (g2 : Seg d b c1 c2) (t2 : SrtS K c2 d b) : Seg a b l c2 ∧ SrtS K c2 a b := by
  refine ⟨hm.sg.trans ((g1.widen (Nat.le_refl _) hdb).trans (g2.widen had (Nat.le_refl _))), fun i j q1 q2 q3 => ?_⟩
  by_cases p1 : j < d
  · rw [g2.out i (by omega), g2.out j (by omega)]; exact t1 i j q1 q2 p1
  · by_cases p2 : d ≤ i
    · exact t2 i j p2 q2 q3
    · rw [g2.out i (by omega)]
      obtain ⟨y, y1, y2, y3⟩ := g1.to i q1 (by omega)
      obtain ⟨z, z1, z2, z3⟩ := g2.to j (by omega) q3
      rw [y3, z3, g1.out z (by omega)]
      exact hm.cr y z y1 y2 z1 z2
/-- One element moved up behind those that are less. -/
theorem up_done {K : Int → Int} {l c : List Int} {a b i : Nat} (hab : a + 1 ≤ i) (hib : i ≤ b) (hR : SrtS K l (a + 1) b) (hX : XLo l a (a + 1) b)
    (hlo : i = a + 1 ∨ K (gi l (i - 1)) < K (gi l a)) (hhi : i = b ∨ ¬ K (gi l i) < K (gi l a)) (hl : c.length = l.length)
    (hc : ∀ x, gi c x = if a ≤ x ∧ x < i - 1 then gi l (x + 1) else if x = i - 1 then gi l a else gi l x) : Seg a b l c ∧ SrtS K c a b := by
  refine ⟨Seg.of hl (fun x => if x < i - 1 then x + 1 else if x = i - 1 then a else x) (fun y => if y = a then i - 1 else if y < i then y - 1 else y) (fun x hx => ?_) (fun x h1 h2 => ?_) (fun y h1 h2 => ?_), fun x y q1 q2 q3 => ?_⟩
  · rw [hc, if_neg (by omega), if_neg (by omega)]
  · rw [hc]
    by_cases c1 : x < i - 1
    · rw [if_pos c1, if_pos ⟨h1, c1⟩]; exact ⟨by omega, by omega, rfl⟩
    · by_cases c2 : x = i - 1
      · simp only [c1, c2, if_true, if_false]
        rw [if_neg (by omega), if_neg (by omega)]
        exact ⟨by omega, by omega, rfl⟩
      · rw [if_neg c1, if_neg c2, if_neg (by omega), if_neg c2]; exact ⟨h1, h2, rfl⟩
  · by_cases c1 : y = a
    · simp only [c1, if_true]; rw [if_neg (by omega)]; omega
    · by_cases c2 : y < i
      · simp only [c1, c2, if_true, if_false]; rw [if_pos (by omega)]; omega
      · simp only [c1, c2, if_false]; rw [if_neg (by omega), if_neg (by omega)]; omega
  · have hup : ∀ z, a + 1 ≤ z → z < i → ltK K (gi l z) (gi l a) := fun z z1 z2 => by
      have hx : K (gi l (i - 1)) < K (gi l a) := by
        rcases hlo with h | h
        · omega
        · exact h
      by_cases e : z = i - 1
      · rw [e]; exact .inl hx
      · exact ltK_trans (hR z (i - 1) z1 (by omega) (by omega)) (.inl hx)
    have hdn : ∀ z, i ≤ z → z < b → ltK K (gi l a) (gi l z) := fun z z1 z2 => by
      have hx : ¬ K (gi l i) < K (gi l a) := by
        rcases hhi with h | h
        · omega
        · exact h
      have h0 := hX a i (Nat.le_refl _) (by omega) (by omega) (by omega)
      have h3 : ltK K (gi l a) (gi l i) := by unfold ltK; omega
      by_cases e : z = i
      · rw [e]; exact h3
      · exact ltK_trans h3 (hR i z (by omega) (by omega) z2)
    rw [hc, hc]
    by_cases c1 : x < i - 1
    · rw [if_pos ⟨q1, c1⟩]
      by_cases c2 : y < i - 1
      · rw [if_pos ⟨by omega, c2⟩]; exact hR _ _ (by omega) (by omega) (by omega)
      · rw [if_neg (by omega)]
        by_cases c3 : y = i - 1
        · rw [if_pos c3]; exact hup _ (by omega) (by omega)
        · rw [if_neg c3]; exact hR _ _ (by omega) (by omega) q3
    · rw [if_neg (by omega)]
      by_cases c3 : x = i - 1
      · rw [if_pos c3, if_neg (by omega), if_neg (by omega)]; exact hdn y (by omega) q3
      · rw [if_neg c3, if_neg (by omega), if_neg (by omega)]; exact hR _ _ (by omega) q2 q3
/-- One element moved down ahead of those that are greater. -/
theorem dn_done {K : Int → Int} {l c : List Int} {a m i : Nat} (hai : a ≤ i) (him : i ≤ m) (hL : SrtS K l a m) (hX : ∀ x, a ≤ x → x < m → gi l x < gi l m)
    (hlo : i = a ∨ ¬ K (gi l m) < K (gi l (i - 1))) (hhi : i = m ∨ K (gi l m) < K (gi l i)) (hl : c.length = l.length)
    (hc : ∀ x, gi c x = if i < x ∧ x ≤ m then gi l (x - 1) else if x = i then gi l m else gi l x) : Seg a (m + 1) l c ∧ SrtS K c a (m + 1) := by
  refine ⟨Seg.of hl (fun x => if x < i then x else if x = i then m else x - 1) (fun y => if y = m then i else if y < i then y else y + 1) (fun x hx => ?_) (fun x h1 h2 => ?_) (fun y h1 h2 => ?_), fun x y q1 q2 q3 => ?_⟩
  · rw [hc, if_neg (by omega), if_neg (by omega)]
  · rw [hc]
    by_cases c1 : x < i
    · simp only [c1, if_true]; rw [if_neg (by omega), if_neg (by omega)]; exact ⟨by omega, by omega, rfl⟩
    · by_cases c2 : x = i
      · simp only [c1, c2, if_true, if_false]
        rw [if_neg (by omega), if_neg (by omega)]
        exact ⟨by omega, by omega, rfl⟩
      · simp only [c1, c2, if_false]; rw [if_pos (by omega)]; exact ⟨by omega, by omega, rfl⟩
  · refine ⟨?_, ?_, ?_⟩ <;> (repeat' split) <;> omega
  · have hup : ∀ z, a ≤ z → z < i → ltK K (gi l z) (gi l m) := fun z z1 z2 => by
      have hx : ¬ K (gi l m) < K (gi l (i - 1)) := by
        rcases hlo with h | h
        · omega
        · exact h
      have h0 := hX (i - 1) (by omega) (by omega)
      have h3 : ltK K (gi l (i - 1)) (gi l m) := by unfold ltK; omega
      by_cases e : z = i - 1
      · rw [e]; exact h3
      · exact ltK_trans (hL z (i - 1) z1 (by omega) (by omega)) h3
    have hdn : ∀ z, i ≤ z → z < m → ltK K (gi l m) (gi l z) := fun z z1 z2 => by
      have hx : K (gi l m) < K (gi l i) := by
        rcases hhi with h | h
        · omega
        · exact h
      by_cases e : z = i
      · rw [e]; exact .inl hx
      · exact ltK_trans (.inl hx) (hL i z (by omega) (by omega) z2)
    rw [hc, hc]
    by_cases c1 : x < i
    · rw [if_neg (by omega), if_neg (by omega)]
      by_cases c2 : y < i
      · rw [if_neg (by omega), if_neg (by omega)]; exact hL _ _ q1 q2 (by omega)
      · by_cases c3 : y = i
        · rw [if_neg (by omega), if_pos c3]; exact hup _ q1 c1
        · rw [if_pos (by omega)]; exact hL _ _ q1 (by omega) (by omega)
    · by_cases c3 : x = i
      · rw [if_neg (by omega), if_pos c3, if_pos (by omega)]; exact hdn _ (by omega) (by omega)
      · rw [if_pos (by omega), if_pos (by omega)]; exact hL _ _ (by omega) (by omega) (by omega)
/-- Two lists in order that hold the same are the same. -/
theorem srt_unique {K : Int → Int} {l l' : List Int} (h : l.Pairwise (ltK K)) (h' : l'.Pairwise (ltK K)) (hm : ∀ x, x ∈ l ↔ x ∈ l') : l = l' := by
  induction l generalizing l' with
  | nil =>
    cases l' with
    | nil => rfl
    | cons y r => have := (hm y).2 (by simp); cases this
  | cons x l ih =>
    cases l' with
    | nil => have := (hm x).1 (by simp); cases this
    | cons y r =>
      rw [List.pairwise_cons] at h h'
      have e : x = y := by
        have h1 := (hm x).1 (by simp)
        have h2 := (hm y).2 (by simp)
        rcases List.mem_cons.1 h1 with h1 | h1
        · exact h1
        · rcases List.mem_cons.1 h2 with h2 | h2
          · exact h2.symm
          · exact absurd (ltK_trans (h.1 _ h2) (h'.1 _ h1)) (ltK_irrefl _ _)
      subst e
      congr 1
      refine ih h.2 h'.2 fun z => ?_
      constructor
      · intro hz
        rcases List.mem_cons.1 ((hm z).1 (List.mem_cons_of_mem _ hz)) with e | e
        · subst e; exact absurd (h.1 _ hz) (ltK_irrefl _ _)
        · exact e
      · intro hz
        rcases List.mem_cons.1 ((hm z).2 (List.mem_cons_of_mem _ hz)) with e | e
        · subst e; exact absurd (h'.1 _ hz) (ltK_irrefl _ _)
        · exact e
theorem srt_pair {K : Int → Int} {l : List Int} (h : SrtS K l 0 l.length) : l.Pairwise (ltK K) := by
  rw [List.pairwise_iff_getElem]
  intro i j hi hj hij
  have := h i j (Nat.zero_le _) hij hj
  unfold gi at this
  rw [List.getD_eq_getElem?_getD, List.getD_eq_getElem?_getD, List.getElem?_eq_getElem hi, List.getElem?_eq_getElem hj] at this
  exact this
theorem mem_of_gi {l : List Int} {i : Nat} (hi : i < l.length) : gi l i ∈ l := by
  unfold gi
  rw [List.getD_eq_getElem?_getD, List.getElem?_eq_getElem hi]
  exact List.getElem_mem hi
theorem gi_of_mem {l : List Int} {x : Int} (h : x ∈ l) : ∃ i, i < l.length ∧ gi l i = x := by
  obtain ⟨i, hi, e⟩ := List.mem_iff_getElem.1 h
  refine ⟨i, hi, ?_⟩
  unfold gi
  rw [List.getD_eq_getElem?_getD, List.getElem?_eq_getElem hi]
  exact e
theorem seg_mem {l l' : List Int} (h : Seg 0 l.length l l') (x : Int) : x ∈ l' ↔ x ∈ l := by
  constructor
  · intro hx
    obtain ⟨i, hi, e⟩ := gi_of_mem hx
    obtain ⟨y, _, hy, e2⟩ := h.to i (Nat.zero_le _) (by have := h.len; omega)
    rw [← e, e2]; exact mem_of_gi hy
  · intro hx
    obtain ⟨i, hi, e⟩ := gi_of_mem hx
    obtain ⟨y, _, hy, e2⟩ := h.fro i (Nat.zero_le _) hi
    rw [← e, ← e2]; exact mem_of_gi (by have := h.len; omega)
end Go.Proofs.Ytghlhjiomebmhaa

namespace Go.Proofs.Ytghlhjiomebmhaa
set_option linter.unusedVariables false
set_option linter.unusedSimpArgs false
open Go.RowKit

theorem Two.drewN {bp bt : Nat} {w w' : World} (h : Two bp bt w w') (n : Nat) : Two bp bt w (w'.drewN n) := ⟨h.os, h.tape, h.output, h.size, h.block⟩
/-- Two elements in each other's places. -/
def swpL (l : List Int) (i j : Nat) : List Int := (l.set i (gi l j)).set j (gi l i)
theorem swpL_len (l : List Int) (i j : Nat) : (swpL l i j).length = l.length := by unfold swpL; simp
theorem gi_swpL {l : List Int} {i j : Nat} (hi : i < l.length) (hj : j < l.length) (hij : i ≠ j) (x : Nat) : gi (swpL l i j) x = if x = i then gi l j else if x = j then gi l i else gi l x := by
  unfold swpL
  rw [gi_set _ j _ x (by simp; exact hj), gi_set _ i _ x hi]
  by_cases e : x = j
  · rw [if_pos e, if_neg (by omega), if_pos e]
  · rw [if_neg e, if_neg e]
theorem PlanR.swap1 {w : World} {b : Nat} {pl : List Int} (h : PlanR w b pl) {i j : Nat} (hi : i < pl.length) (hj : j < pl.length) : PlanR ((w.setCell ⟨b, i, none⟩ (.int .i64 (gi pl j))).setCell ⟨b, j, none⟩ (.int .i64 (gi pl i))) b (swpL pl i j) :=
  (h.store hi _).store (by simp; exact hj) _
theorem PlanR.swap2 {w : World} {b : Nat} {pl : List Int} (h : PlanR w b pl) {i j : Nat} (hi : i < pl.length) (hj : j < pl.length) (hij : i ≠ j) : PlanR ((w.setCell ⟨b, j, none⟩ (.int .i64 (gi pl i))).setCell ⟨b, i, none⟩ (.int .i64 (gi pl j))) b (swpL pl i j) := by
  have := (h.store hj (gi pl i)).store (j := i) (by simp; exact hi) (gi pl j)
  have e : (pl.set j (gi pl i)).set i (gi pl j) = swpL pl i j := by unfold swpL; exact List.set_comm _ _ (Ne.symm hij)
  rw [e] at this
  exact this
theorem PlanR.drew {w : World} {b : Nat} {pl : List Int} (h : PlanR w b pl) : PlanR w.drew b pl := h
theorem PlanR.drewN {w : World} {b : Nat} {pl : List Int} (h : PlanR w b pl) (n : Nat) : PlanR (w.drewN n) b pl := h
/-- A list in the block, and nothing else has changed. -/
def SwE (g : Nat) (w : World) (c : List Int) (e : Ending) (w' : World) : Prop := e = .returned (.tuple #[]) ∧ PlanR w' g c ∧ Two g g w w'
set_option maxRecDepth 100000 in
set_option maxHeartbeats 4000000 in
theorem swapRange_r (g L cap a b n : Nat) (fv : Value) (l : List Int) (w : World) (hP : PlanR w g l) (hL : l.length = L) (hL2 : L ≤ 100000) (hab : a + n ≤ b) (hbn : b + n ≤ L) :
    Calls Try.prog 80 #[.slice (some ⟨g, 0, none⟩) L cap, .int .i64 a, .int .i64 b, .int .i64 n, fv] w fun e w' => ∃ c, SwE g w c e w' ∧ c.length = L ∧ ∀ x, gi c x = swpF (gi l) a b n x := by
  have HP := Lib.hid hP
  have HL := Lib.hid hL
  clear hP hL
  go_enter Try.func80, Try.ntmps80
  go_wp2_with fail
  go_loopw [10] (fun i wr => ∃ k : Nat, k ≤ n ∧ i = .int .i64 k ∧ Two g g w wr ∧ Hid (∃ c, PlanR wr g c ∧ c.length = L ∧ ∀ x, gi c x = swpF (gi l) a b k x)) (fun i _ => n - (intOf i).toNat)
  case atStart => exact ⟨0, Nat.zero_le _, rfl, Two.refl _ _ _, Lib.hid ⟨l, HP.out, HL.out, fun x => by unfold swpF; rw [if_neg (by omega), if_neg (by omega)]⟩⟩
  case round =>
    obtain ⟨k, hk, rfl, hb, HC⟩ := hrel
    by_cases hlt : k < n
    · obtain ⟨c, hc1, hc2, hc3⟩ := HC.out
      have v1 := hc1.1 (a + k) (by omega)
      have v2 := hc1.1 (b + k) (by omega)
      have f1 := hc1.2 (a + k) (by omega)
      have f2 := hc1.2 (b + k) (by omega)
      have HS1 := Lib.hid (hc1.swap1 (i := a + k) (j := b + k) (by omega) (by omega))
      have HS2 := Lib.hid (hc1.swap2 (i := a + k) (j := b + k) (by omega) (by omega) (by omega))
      have HN : Hid ((swpL c (a + k) (b + k)).length = L ∧ ∀ x, gi (swpL c (a + k) (b + k)) x = swpF (gi l) a b (k + 1) x) := Lib.hid ⟨by rw [swpL_len]; exact hc2, swpF_next (c := gi c) (by omega) hc3 fun x => gi_swpL (by omega) (by omega) (by omega) x⟩
      clear HP HL HC hc1 hc2 hc3
      generalize swpL c (a + k) (b + k) = c2 at *
      generalize gi c (a + k) = x at *
      generalize gi c (b + k) = y at *
      have hne : ¬ (a + k = b + k) := by omega
      have hne2 : ¬ (b + k = a + k) := by omega
      go_wp2_with fail
      go_region
      all_goals
        go_wp2_with fail
        go_roundw
        case rel => exact ⟨k + 1, by omega, by go_num, by first | exact (hb.trans (Two.set _ _ _)).trans (Two.set _ _ _) | exact ((hb.drew).trans (Two.set _ _ _)).trans (Two.set _ _ _), Lib.hid ⟨c2, by first | exact HS1.out | exact HS2.out, HN.out⟩⟩
        case measure => simp [intOf]; omega
    · obtain rfl : k = n := by omega
      obtain ⟨c, hc1, hc2, hc3⟩ := HC.out
      have HC1 := Lib.hid hc1
      have HC3 := Lib.hid hc3
      have HC2 := Lib.hid hc2
      clear HP HL HC hc1 hc2 hc3
      go_wp2_with fail
      go_end0
      exact ⟨c, ⟨rfl, HC1.out, hb⟩, HC2.out, HC3.out⟩
/-- A list of the same length that is a function of places. -/
def FnE (g : Nat) (w : World) (L : Nat) (f : Nat → Int) (e : Ending) (w' : World) : Prop := ∃ c, SwE g w c e w' ∧ c.length = L ∧ ∀ x, gi c x = f x
set_option maxRecDepth 100000 in
set_option maxHeartbeats 4000000 in
theorem rotate_r (g L cap a m b : Nat) (fv : Value) (l : List Int) (w : World) (hP : PlanR w g l) (hL : l.length = L) (hL2 : L ≤ 100000) (ham : a < m) (hmb : m < b) (hbL : b ≤ L) :
    Calls Try.prog 77 #[.slice (some ⟨g, 0, none⟩) L cap, .int .i64 a, .int .i64 m, .int .i64 b, fv] w fun e w' => FnE g w L (rotF (gi l) a m b) e w' := by
  have HS := Lib.hid (fun W (a b n : Nat) (c : List Int) (h1 : PlanR W g c) (h2 : c.length = L) (h3 : a + n ≤ b) (h4 : b + n ≤ L) => (show Calls Try.prog 80 #[.slice (some ⟨g, 0, none⟩) L cap, .int .i64 a, .int .i64 b, .int .i64 n, fv] W (fun e w' => FnE g W L (swpF (gi c) a b n) e w') from swapRange_r g L cap a b n fv c W h1 h2 hL2 h3 h4))
  have HP := Lib.hid hP
  have HL := Lib.hid hL
  clear hP hL
  go_enter Try.func77, Try.ntmps77
  go_wp2_with fail
  go_loopw [10, 11] (fun vi vj wr => ∃ i j : Nat, 1 ≤ i ∧ 1 ≤ j ∧ i ≤ m ∧ m + j ≤ L ∧ vi = .int .i64 i ∧ vj = .int .i64 j ∧ Two g g w wr ∧ Hid (∃ c, PlanR wr g c ∧ c.length = L ∧ ∀ x, rotF (gi c) (m - i) m (m + j) x = rotF (gi l) a m b x)) (fun vi vj _ => (intOf vi).toNat + (intOf vj).toNat)
  case atStart => exact ⟨m - a, b - m, by omega, by omega, by omega, by omega, by congr 1; omega, by congr 1; omega, Two.refl _ _ _, Lib.hid ⟨l, HP.out, HL.out, fun x => by rw [show m - (m - a) = a by omega, show m + (b - m) = b by omega]⟩⟩
  case round =>
    obtain ⟨i, j, h1, h2, h3, h4, rfl, rfl, hb, HC⟩ := hrel
    obtain ⟨c, hc1, hc2, hc3⟩ := HC.out
    have HC3 := Lib.hid hc3
    have e1 : ((m - i : Nat) : Int) = (m : Int) - i := by omega
    have e3 : ((m + j - i : Nat) : Int) = (m : Int) + j - i ∨ j ≤ i := by omega
    by_cases hij : i = j
    · have d1 : ((i : Int) != (j : Int)) = false := by simp [hij]
      have HSw := HS.out wr (m - i) m i c hc1 hc2 (by omega) (by omega)
      rw [e1] at HSw
      have HSw := Lib.hid HSw
      have HEq : Hid (∀ x, swpF (gi c) (m - i) m i x = rotF (gi l) a m b x) := Lib.hid fun x => by rw [rot_eq (gi c) h3, ← HC3.out x, hij]
      clear HC HP HL HS hc1 hc2 hc3 HC3 e1 e3 hij
      go_wp2_with fail
      refine HSw.out.mono ?_
      rintro e w1 ⟨c1, ⟨rfl, hP1, hT1⟩, hl1, hg1⟩
      have hP1 := Lib.hid hP1
      have hg1 := Lib.hid hg1
      have hl1 := Lib.hid hl1
      go_wp2_with fail
      go_end0
      exact ⟨c1, ⟨rfl, hP1.out, hb.trans hT1⟩, hl1.out, fun x => (hg1.out x).trans (HEq.out x)⟩
    · have d1 : ((i : Int) != (j : Int)) = true := by simp; omega
      by_cases hgt : j < i
      · have d2 : decide ((j : Int) < i) = true := decide_eq_true (by omega)
        have HSw := HS.out wr (m - i) m j c hc1 hc2 (by omega) (by omega)
        rw [e1] at HSw
        have HSw := Lib.hid HSw
        have HEq : Hid (∀ c1 : List Int, (∀ x, gi c1 x = swpF (gi c) (m - i) m j x) → ∀ x, rotF (gi c1) (m - (i - j)) m (m + j) x = rotF (gi l) a m b x) := Lib.hid fun c1 h x => by
          rw [← HC3.out x, ← rot_gt (gi c) h3 hgt x]
          unfold rotF
          simp only [h]
        clear HC HP HL HS hc1 hc2 hc3 HC3 e1 e3 hij
        go_wp2_with fail
        refine HSw.out.mono ?_
        rintro e w1 ⟨c1, ⟨rfl, hP1, hT1⟩, hl1, hg1⟩
        have HG : Hid (∃ c, PlanR w1 g c ∧ c.length = L ∧ ∀ x, rotF (gi c) (m - (i - j)) m (m + j) x = rotF (gi l) a m b x) := Lib.hid ⟨c1, hP1, hl1, HEq.out c1 hg1⟩
        have hb := hb.trans hT1
        clear hP1 hT1 hl1 hg1 HEq HSw
        go_wp2_with fail
        go_roundw
        case rel => exact ⟨i - j, j, by omega, by omega, by omega, by omega, by congr 1; omega, rfl, hb, HG⟩
        case measure => simp [intOf]; omega
      · have d2 : decide ((j : Int) < i) = false := decide_eq_false (by omega)
        have hlt : i < j := by omega
        have e4 : ((m + j - i : Nat) : Int) = (m : Int) + j - i := by omega
        have HSw := HS.out wr (m - i) (m + j - i) i c hc1 hc2 (by omega) (by omega)
        rw [e1, e4] at HSw
        have HSw := Lib.hid HSw
        have HEq : Hid (∀ c1 : List Int, (∀ x, gi c1 x = swpF (gi c) (m - i) (m + j - i) i x) → ∀ x, rotF (gi c1) (m - i) m (m + (j - i)) x = rotF (gi l) a m b x) := Lib.hid fun c1 h x => by
          rw [← HC3.out x, ← rot_lt (gi c) h3 hlt x]
          unfold rotF
          simp only [h]
        clear HC HP HL HS hc1 hc2 hc3 HC3 e1 e3 e4 hij
        go_wp2_with fail
        refine HSw.out.mono ?_
        rintro e w1 ⟨c1, ⟨rfl, hP1, hT1⟩, hl1, hg1⟩
        have HG : Hid (∃ c, PlanR w1 g c ∧ c.length = L ∧ ∀ x, rotF (gi c) (m - i) m (m + (j - i)) x = rotF (gi l) a m b x) := Lib.hid ⟨c1, hP1, hl1, HEq.out c1 hg1⟩
        have hb := hb.trans hT1
        clear hP1 hT1 hl1 hg1 HEq HSw
        go_wp2_with fail
        go_roundw
        case rel => exact ⟨i, j - i, by omega, by omega, by omega, by omega, rfl, by congr 1; omega, hb, HG⟩
        case measure => simp [intOf]; omega
end Go.Proofs.Ytghlhjiomebmhaa

namespace Go.Proofs.Ytghlhjiomebmhaa
set_option linter.unusedVariables false
set_option linter.unusedSimpArgs false
open Go.RowKit

/-- What a comparison by a key returns. -/
def cmpK (K : Int → Int) (x y : Int) : Int := if K x < K y then -1 else if K y < K x then 1 else 0
theorem cmpK_neg (K : Int → Int) (x y : Int) : decide (cmpK K x y < 0) = decide (K x < K y) := by
  unfold cmpK
  by_cases h : K x < K y
  · rw [if_pos h]; simp [h]
  · rw [if_neg h]
    split <;> simp [h]
/-- The closure compares by a key. -/
def CmpC (lb : Array Value) (K : Int → Int) (Ok : Int → Prop) (g : Nat) (w0 : World) : Prop := ∀ x y W n, Ok x → Ok y → Two g g w0 W →
  Calls Try.prog 39 (#[.int .i64 x, .int .i64 y] ++ lb) (W.drewN n) fun e w' => e = .returned (.int .i64 (cmpK K x y)) ∧ ∃ m, w' = (W.drewN n).drewN m
/-- The places from a to b in order. -/
def SoE (K : Int → Int) (g : Nat) (w : World) (L a b : Nat) (l : List Int) (e : Ending) (w' : World) : Prop := ∃ c, SwE g w c e w' ∧ c.length = L ∧ Seg a b l c ∧ SrtS K c a b
/-- The merge, for parts of at most d places. -/
def MergeC (lb : Array Value) (K : Int → Int) (Ok : Int → Prop) (g L cap : Nat) (w0 : World) (d : Nat) : Prop := ∀ (a m b : Nat) (l : List Int) (w : World), b - a ≤ d → a < m → m < b → b ≤ L → PlanR w g l → l.length = L → Two g g w0 w → (∀ i, i < L → Ok (gi l i)) → SrtS K l a m → SrtS K l m b → XLo l a m b →
  Calls Try.prog 73 #[.slice (some ⟨g, 0, none⟩) L cap, .int .i64 a, .int .i64 m, .int .i64 b, .func (.func 39) #[] lb] w fun e w' => SoE K g w L a b l e w'
set_option maxRecDepth 100000 in
set_option maxHeartbeats 8000000 in
theorem merge_a (lb : Array Value) (K : Int → Int) (Ok : Int → Prop) (g L cap : Nat) (w0 : World) (hC : CmpC lb K Ok g w0) (hL2 : L ≤ 100000) (a m b : Nat) (l : List Int) (w : World) (hm1 : m = a + 1) (hmb : m < b) (hbL : b ≤ L) (hP : PlanR w g l) (hl : l.length = L) (hT : Two g g w0 w) (hO : ∀ i, i < L → Ok (gi l i)) (hR : SrtS K l m b) (hX : XLo l a m b) :
    Calls Try.prog 73 #[.slice (some ⟨g, 0, none⟩) L cap, .int .i64 a, .int .i64 m, .int .i64 b, .func (.func 39) #[] lb] w fun e w' => SoE K g w L a b l e w' := by
  have d0 : ((m : Int) - a == 1) = true := by simp; omega
  have HC : Hid (∀ x y W n, Ok x → Ok y → Two g g w W → Calls Try.prog 39 (#[.int .i64 x, .int .i64 y] ++ lb) (W.drewN n) fun e w' => e = .returned (.int .i64 (cmpK K x y)) ∧ ∃ m, w' = (W.drewN n).drewN m) := Lib.hid fun x y W n h1 h2 h3 => hC x y W n h1 h2 (hT.trans h3)
  have HO := Lib.hid hO
  have HP0 := Lib.hid hP
  have HL := Lib.hid hl
  have HR : Hid (SrtS K l (a + 1) b) := Lib.hid (by rw [← hm1]; exact hR)
  have HX : Hid (XLo l a (a + 1) b) := Lib.hid (by rw [← hm1]; exact hX)
  have hma : a + 1 ≤ m := by omega
  have HM := Lib.hid hm1
  clear hC hO hP hl hR hX hm1 hT
  go_enter Try.func73, Try.ntmps73
  go_wp2_with fail
  go_loopw [10, 11] (fun vi vj wr => ∃ p q : Nat, m ≤ p ∧ p ≤ q ∧ q ≤ b ∧ vi = .int .i64 p ∧ vj = .int .i64 q ∧ Two g g w wr ∧ Hid (PlanR wr g l) ∧ Hid (p = a + 1 ∨ K (gi l (p - 1)) < K (gi l a)) ∧ Hid (q = b ∨ K (gi l a) ≤ K (gi l q))) (fun vi vj _ => (intOf vj).toNat - (intOf vi).toNat)
  case atStart => exact ⟨m, b, by omega, by omega, by omega, rfl, rfl, Two.refl _ _ _, HP0, Lib.hid (.inl HM.out), Lib.hid (.inl rfl)⟩
  case round =>
    obtain ⟨p, q, h1, h2, h3, rfl, rfl, hb, HP, HA, HB⟩ := hrel
    by_cases hpq : p < q
    · obtain ⟨h, hh⟩ : ∃ h : Nat, ((p : Int) + q) / 2 = h := ⟨(p + q) / 2, by omega⟩
      have q1 : p ≤ h := by omega
      have q2 : h < q := by omega
      have v1 := HP.out.1 h (by rw [HL.out]; omega)
      have v2 := HP.out.1 a (by rw [HL.out]; omega)
      have k7 : h < L := by omega
      have k8 : a < L := by omega
      have HCx := Lib.hid (fun n => HC.out (gi l h) (gi l a) wr n (HO.out h k7) (HO.out a k8) hb)
      have HD := Lib.hid (cmpK_neg K (gi l h) (gi l a))
      have HQ : Hid (K (gi l h) < K (gi l a) → K (gi l (h + 1 - 1)) < K (gi l a)) := Lib.hid fun hx => hx
      clear HC HO HR HX HP0 HL
      generalize hgx : gi l h = x at *
      generalize hgy : gi l a = y at *
      have hgx := Lib.hid hgx
      generalize cmpK K x y = cv at *
      by_cases hx : K x < K y
      · have hd : decide (cv < 0) = true := by rw [HD.out]; exact decide_eq_true hx
        have HA2 : Hid (h + 1 = a + 1 ∨ K (gi l (h + 1 - 1)) < K y) := Lib.hid (.inr (HQ.out hx))
        clear HQ HD hx HA hgx hgy
        go_wp2_with fail
        go_quiet ((go_at_call 39; exact Calls.quiet_of (HCx.out _)))
        go_wp2_with fail
        go_roundw
        case rel => exact ⟨h + 1, q, by omega, by omega, by omega, by go_num, rfl, hb.drewN _, Lib.hid (HP.out.drewN _), HA2, HB⟩
        case measure => simp [intOf]; omega
      · have hd : decide (cv < 0) = false := by rw [HD.out]; exact decide_eq_false hx
        have HB2 : Hid (h = b ∨ K y ≤ K (gi l h)) := Lib.hid (.inr (by rw [hgx.out]; omega))
        clear HQ HD hx HB hgx hgy
        go_wp2_with fail
        go_quiet ((go_at_call 39; exact Calls.quiet_of (HCx.out _)))
        go_wp2_with fail
        go_roundw
        case rel => exact ⟨p, h, by omega, by omega, by omega, rfl, rfl, hb.drewN _, Lib.hid (HP.out.drewN _), HA, HB2⟩
        case measure => simp [intOf]; omega
    · obtain rfl : p = q := by omega
      have HE : Hid (∀ c : List Int, c.length = l.length → (∀ x, gi c x = if a ≤ x ∧ x < p - 1 then gi l (x + 1) else if x = p - 1 then gi l a else gi l x) → Seg a b l c ∧ SrtS K c a b) := Lib.hid fun c hl hc => up_done (by omega) h3 HR.out HX.out HA.out (HB.out.imp id (fun h => by omega)) hl hc
      clear HC HO HR HX HP0 HA HB
      go_wp2_with fail
      obtain ⟨wo, rfl⟩ : ∃ wo : World, wo = wr := ⟨_, rfl⟩
      go_loopw [13] (fun vk wr => ∃ k : Nat, a ≤ k ∧ k + 1 ≤ p ∧ vk = .int .i64 k ∧ Two g g w wr ∧ Hid (∃ c, PlanR wr g c ∧ c.length = L ∧ ∀ x, gi c x = if a ≤ x ∧ x < k then gi l (x + 1) else if x = k then gi l a else gi l x)) (fun vk _ => p - (intOf vk).toNat)
      case atStart => exact ⟨a, by omega, by omega, rfl, hb, Lib.hid ⟨l, HP.out, HL.out, fun x => by
        rw [if_neg (by omega)]
        by_cases e : x = a
        · rw [if_pos e, e]
        · rw [if_neg e]⟩⟩
      case round =>
        obtain ⟨k, e1, e2, rfl, hb, HK⟩ := hrel
        obtain ⟨c, hc1, hc2, hc3⟩ := HK.out
        have hpe : ((p : Int) - 1) = ((p - 1 : Nat) : Int) := by omega
        by_cases hk : k < p - 1
        · have v1 := hc1.1 k (by omega)
          have v2 := hc1.1 (k + 1) (by omega)
          have f1 := hc1.2 k (by omega)
          have f2 := hc1.2 (k + 1) (by omega)
          have HS1 := Lib.hid (hc1.swap1 (i := k) (j := k + 1) (by omega) (by omega))
          have HS2 := Lib.hid (hc1.swap2 (i := k) (j := k + 1) (by omega) (by omega) (by omega))
          have HN : Hid ((swpL c k (k + 1)).length = L ∧ ∀ x, gi (swpL c k (k + 1)) x = if a ≤ x ∧ x < k + 1 then gi l (x + 1) else if x = k + 1 then gi l a else gi l x) := Lib.hid ⟨by rw [swpL_len]; exact hc2, fun x => by
            rw [gi_swpL (by omega) (by omega) (by omega), hc3, hc3, hc3]
            repeat' split
            all_goals first | (exfalso; omega) | (congr 1; omega) | rfl⟩
          have hlt : (k : Int) < (p : Int) - 1 := by omega
          have k1 : k < L := by omega
          have k2 : k + 1 < L := by omega
          clear HK hc1 hc2 hc3 HP HE hpe
          generalize swpL c k (k + 1) = c2 at *
          generalize gi c k = x at *
          generalize gi c (k + 1) = y at *
          go_wp2_with fail
          go_region
          all_goals
            go_wp2_with fail
            go_roundw
            case rel => exact ⟨k + 1, by omega, by omega, by go_num, by first | exact (hb.trans (Two.set _ _ _)).trans (Two.set _ _ _) | exact ((hb.drew).trans (Two.set _ _ _)).trans (Two.set _ _ _), Lib.hid ⟨c2, by first | exact HS1.out | exact HS2.out, HN.out⟩⟩
            case measure => simp [intOf]; omega
        · have hlt : ¬ ((k : Int) < (p : Int) - 1) := by omega
          obtain ⟨g1, g2⟩ := HE.out c (by rw [hc2, HL.out]) (by rw [show p - 1 = k by omega]; exact hc3)
          have G1 := Lib.hid g1
          have G2 := Lib.hid g2
          have HC1 := Lib.hid hc1
          have HC2 := Lib.hid hc2
          clear HK hc1 hc2 hc3 HP HE g1 g2 hpe
          go_wp2_with fail
          go_end0
          exact ⟨c, ⟨rfl, HC1.out, hb⟩, HC2.out, G1.out, G2.out⟩
set_option maxRecDepth 100000 in
set_option maxHeartbeats 8000000 in
theorem merge_b (lb : Array Value) (K : Int → Int) (Ok : Int → Prop) (g L cap : Nat) (w0 : World) (hC : CmpC lb K Ok g w0) (hL2 : L ≤ 100000) (a m b : Nat) (l : List Int) (w : World) (hb1 : b = m + 1) (ham : a + 1 < m) (hbL : b ≤ L) (hP : PlanR w g l) (hl : l.length = L) (hT : Two g g w0 w) (hO : ∀ i, i < L → Ok (gi l i)) (hR : SrtS K l a m) (hX : XLo l a m b) :
    Calls Try.prog 73 #[.slice (some ⟨g, 0, none⟩) L cap, .int .i64 a, .int .i64 m, .int .i64 b, .func (.func 39) #[] lb] w fun e w' => SoE K g w L a b l e w' := by
  have d0 : ((m : Int) - a == 1) = false := by simp; omega
  have d1 : ((b : Int) - m == 1) = true := by simp; omega
  have HC : Hid (∀ x y W n, Ok x → Ok y → Two g g w W → Calls Try.prog 39 (#[.int .i64 x, .int .i64 y] ++ lb) (W.drewN n) fun e w' => e = .returned (.int .i64 (cmpK K x y)) ∧ ∃ m, w' = (W.drewN n).drewN m) := Lib.hid fun x y W n h1 h2 h3 => hC x y W n h1 h2 (hT.trans h3)
  have HO := Lib.hid hO
  have HP0 := Lib.hid hP
  have HL := Lib.hid hl
  have HR := Lib.hid hR
  have HX : Hid (∀ x, a ≤ x → x < m → gi l x < gi l m) := Lib.hid fun x h1 h2 => hX x m h1 h2 (Nat.le_refl _) (by omega)
  have hmL : m < L := by omega
  have HB1 := Lib.hid hb1
  clear hC hO hP hl hR hX hb1 hT
  go_enter Try.func73, Try.ntmps73
  go_wp2_with fail
  go_loopw [14, 15] (fun vi vj wr => ∃ p q : Nat, a ≤ p ∧ p ≤ q ∧ q ≤ m ∧ vi = .int .i64 p ∧ vj = .int .i64 q ∧ Two g g w wr ∧ Hid (PlanR wr g l) ∧ Hid (p = a ∨ K (gi l (p - 1)) ≤ K (gi l m)) ∧ Hid (q = m ∨ K (gi l m) < K (gi l q))) (fun vi vj _ => (intOf vj).toNat - (intOf vi).toNat)
  case atStart => exact ⟨a, m, by omega, by omega, by omega, rfl, rfl, Two.refl _ _ _, HP0, Lib.hid (.inl rfl), Lib.hid (.inl rfl)⟩
  case round =>
    obtain ⟨p, q, h1, h2, h3, rfl, rfl, hb, HP, HA, HB⟩ := hrel
    by_cases hpq : p < q
    · obtain ⟨h, hh⟩ : ∃ h : Nat, ((p : Int) + q) / 2 = h := ⟨(p + q) / 2, by omega⟩
      have q1 : p ≤ h := by omega
      have q2 : h < q := by omega
      have v1 := HP.out.1 m (by rw [HL.out]; omega)
      have v2 := HP.out.1 h (by rw [HL.out]; omega)
      have k7 : m < L := by omega
      have k8 : h < L := by omega
      have HCx := Lib.hid (fun n => HC.out (gi l m) (gi l h) wr n (HO.out m k7) (HO.out h k8) hb)
      have HD := Lib.hid (cmpK_neg K (gi l m) (gi l h))
      have HQ : Hid (K (gi l h) ≤ K (gi l m) → K (gi l (h + 1 - 1)) ≤ K (gi l m)) := Lib.hid fun hx => hx
      clear HC HO HR HX HP0 HL
      generalize hgx : gi l h = x at *
      generalize hgy : gi l m = y at *
      have hgx := Lib.hid hgx
      generalize cmpK K y x = cv at *
      by_cases hx : K y < K x
      · have hd : decide (cv < 0) = true := by rw [HD.out]; exact decide_eq_true hx
        have HB2 : Hid (h = m ∨ K y < K (gi l h)) := Lib.hid (.inr (by rw [hgx.out]; omega))
        clear HQ HD hx HB hgx hgy
        go_wp2_with fail
        go_quiet ((go_at_call 39; exact Calls.quiet_of (HCx.out _)))
        go_wp2_with fail
        go_roundw
        case rel => exact ⟨p, h, by omega, by omega, by omega, rfl, rfl, hb.drewN _, Lib.hid (HP.out.drewN _), HA, HB2⟩
        case measure => simp [intOf]; omega
      · have hd : decide (cv < 0) = false := by rw [HD.out]; exact decide_eq_false hx
        have HA2 : Hid (h + 1 = a ∨ K (gi l (h + 1 - 1)) ≤ K y) := Lib.hid (.inr (HQ.out (by omega)))
        clear HQ HD hx HA hgx hgy
        go_wp2_with fail
        go_quiet ((go_at_call 39; exact Calls.quiet_of (HCx.out _)))
        go_wp2_with fail
        go_roundw
        case rel => exact ⟨h + 1, q, by omega, by omega, by omega, by go_num, rfl, hb.drewN _, Lib.hid (HP.out.drewN _), HA2, HB⟩
        case measure => simp [intOf]; omega
    · obtain rfl : p = q := by omega
      have HE : Hid (∀ c : List Int, c.length = l.length → (∀ x, gi c x = if p < x ∧ x ≤ m then gi l (x - 1) else if x = p then gi l m else gi l x) → Seg a b l c ∧ SrtS K c a b) := Lib.hid fun c hl hc => by
        rw [HB1.out]; exact dn_done h1 h3 HR.out HX.out (HA.out.imp id (fun h => by omega)) HB.out hl hc
      clear HC HO HR HX HP0 HA HB
      go_wp2_with fail
      obtain ⟨wo, rfl⟩ : ∃ wo : World, wo = wr := ⟨_, rfl⟩
      go_loopw [17] (fun vk wr => ∃ k : Nat, p ≤ k ∧ k ≤ m ∧ vk = .int .i64 k ∧ Two g g w wr ∧ Hid (∃ c, PlanR wr g c ∧ c.length = L ∧ ∀ x, gi c x = if k < x ∧ x ≤ m then gi l (x - 1) else if x = k then gi l m else gi l x)) (fun vk _ => (intOf vk).toNat - p)
      case atStart => exact ⟨m, by omega, by omega, rfl, hb, Lib.hid ⟨l, HP.out, HL.out, fun x => by
        rw [if_neg (by omega)]
        by_cases e : x = m
        · rw [if_pos e, e]
        · rw [if_neg e]⟩⟩
      case round =>
        obtain ⟨k, e1, e2, rfl, hb, HK⟩ := hrel
        obtain ⟨c, hc1, hc2, hc3⟩ := HK.out
        by_cases hk : p < k
        · obtain ⟨u, hu⟩ : ∃ u : Nat, (k : Int) - 1 = u := ⟨k - 1, by omega⟩
          have v1 := hc1.1 k (by omega)
          have v2 := hc1.1 u (by omega)
          have f1 := hc1.2 k (by omega)
          have f2 := hc1.2 u (by omega)
          have HS1 := Lib.hid (hc1.swap1 (i := k) (j := u) (by omega) (by omega))
          have HS2 := Lib.hid (hc1.swap2 (i := k) (j := u) (by omega) (by omega) (by omega))
          have HN : Hid ((swpL c k u).length = L ∧ ∀ x, gi (swpL c k u) x = if u < x ∧ x ≤ m then gi l (x - 1) else if x = u then gi l m else gi l x) := Lib.hid ⟨by rw [swpL_len]; exact hc2, fun x => by
            rw [gi_swpL (by omega) (by omega) (by omega), hc3, hc3, hc3]
            repeat' split
            all_goals first | (exfalso; omega) | (congr 1; omega) | rfl⟩
          have k1 : k < L := by omega
          have k2 : u < L := by omega
          have k3 : u ≠ k := by omega
          have k4 : k ≠ u := by omega
          have k5 : p ≤ u := by omega
          have k6 : u < k := by omega
          clear HK hc1 hc2 hc3 HP HE
          generalize swpL c k u = c2 at *
          generalize gi c k = x at *
          generalize gi c u = y at *
          go_wp2_with fail
          go_region
          all_goals
            go_wp2_with fail
            go_roundw
            case rel => exact ⟨u, by omega, by omega, by go_num, by first | exact (hb.trans (Two.set _ _ _)).trans (Two.set _ _ _) | exact ((hb.drew).trans (Two.set _ _ _)).trans (Two.set _ _ _), Lib.hid ⟨c2, by first | exact HS1.out | exact HS2.out, HN.out⟩⟩
            case measure => simp [intOf]; omega
        · obtain rfl : p = k := by omega
          obtain ⟨g1, g2⟩ := HE.out c (by rw [hc2, HL.out]) hc3
          have G1 := Lib.hid g1
          have G2 := Lib.hid g2
          have HC1 := Lib.hid hc1
          have HC2 := Lib.hid hc2
          clear HK hc1 hc2 hc3 HP HE g1 g2
          go_wp2_with fail
          go_end0
          exact ⟨c, ⟨rfl, HC1.out, hb⟩, HC2.out, G1.out, G2.out⟩
end Go.Proofs.Ytghlhjiomebmhaa
