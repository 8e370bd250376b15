/-
  planned, right, Right, plans, done and Done of the reference of package night, at any plan. By an AI agent.
-/
import Derived.Test.YtghlhjiomebmhaaNiRg
import Derived.Test.YtghlhjiomebmhaaNiQf
import Derived.Deep.RegionHeld3
import Derived.BigQuiet
import Derived.StillTailTactics
namespace Go.Proofs.Ytghlhjiomebmhaa
set_option linter.unusedVariables false
set_option linter.unusedSimpArgs false
open Go.RowKit

/-- Is an element of a plan neither -1 nor a night? -/
def badP (N : Nat) (l : List Int) (i : Nat) : Bool := decide (gi l i < -1) || decide ((N : Int) ≤ gi l i)
/-- Has a plan an element for each job, each -1 or a night? -/
def plnB (L N : Nat) (l : List Int) : Bool := !(anyK (badP N l) l.length) && decide (l.length = L)
/-- Does a job of a plan not fit its night k? -/
def misB (js : List Jo) (ns : List Ni) (l : List Int) (k i : Nat) : Bool := (gi l i == (k : Int)) && !(fitB (gj js i) (gn ns k))
/-- Is something wrong with night k? -/
def badN (js : List Jo) (ns : List Ni) (l : List Int) (k : Nat) : Bool := anyK (misB js ns l k) l.length || decide ((gn ns k).p < (cK (fun i => gi l i == (k : Int)) l.length : Nat))
/-- Is a plan right? -/
def rgtB (js : List Jo) (ns : List Ni) (l : List Int) : Bool := !(anyK (badN js ns l) ns.length)
/-- The error of jobs, nights and a plan that must be right. -/
def plnE (js : List Jo) (ns : List Ni) (l : List Int) : Int := if errL js ns = 0 then (if plnB js.length ns.length l = true then (if rgtB js ns l = true then 0 else 82) else 82) else errL js ns
theorem plnB_iff {L N : Nat} {l : List Int} : plnB L N l = true ↔ l.length = L ∧ ∀ i, i < l.length → -1 ≤ gi l i ∧ gi l i < N := by
  unfold plnB
  rw [Bool.and_eq_true, Bool.not_eq_true', anyK_iff, decide_eq_true_eq]
  constructor
  · rintro ⟨h1, h2⟩
    refine ⟨h2, fun i hi => ?_⟩
    have := h1 i hi
    unfold badP at this
    rw [Bool.or_eq_false_iff, decide_eq_false_iff_not, decide_eq_false_iff_not] at this
    omega
  · rintro ⟨h1, h2⟩
    refine ⟨fun i hi => ?_, h1⟩
    have := h2 i hi
    unfold badP
    rw [Bool.or_eq_false_iff, decide_eq_false_iff_not, decide_eq_false_iff_not]
    omega
theorem rgtB_iff {js : List Jo} {ns : List Ni} {l : List Int} : rgtB js ns l = true ↔ ∀ k, k < ns.length → (∀ i, i < l.length → gi l i = (k : Int) → fitB (gj js i) (gn ns k) = true) ∧ (cK (fun i => gi l i == (k : Int)) l.length : Int) ≤ (gn ns k).p := by
  unfold rgtB
  rw [Bool.not_eq_true', anyK_iff]
  constructor
  · intro h k hk
    have := h k hk
    unfold badN at this
    rw [Bool.or_eq_false_iff, anyK_iff, decide_eq_false_iff_not] at this
    refine ⟨fun i hi e => ?_, by omega⟩
    have h2 := this.1 i hi
    unfold misB at h2
    rw [e] at h2
    simpa using h2
  · intro h k hk
    unfold badN
    rw [Bool.or_eq_false_iff, anyK_iff, decide_eq_false_iff_not]
    refine ⟨fun i hi => ?_, by have := (h k hk).2; omega⟩
    unfold misB
    by_cases e : gi l i = (k : Int)
    · rw [(h k hk).1 i hi e]; simp
    · rw [beq_false_of_ne e]; rfl
/-- A plan is right just where it is good. -/
theorem rgt_good {js : List Jo} {ns : List Ni} {l : List Int} (hp : plnB js.length ns.length l = true) : rgtB js ns l = true ↔ GoodP (chL js ns) (psL ns) js.length ns.length l := by
  obtain ⟨hl, he⟩ := plnB_iff.1 hp
  rw [rgtB_iff]
  constructor
  · intro h
    refine ⟨hl, fun i hi => ?_, fun m hm => ?_⟩
    · have h1 := he i (by omega)
      by_cases e : gi l i = -1
      · exact .inl e
      · obtain ⟨m, hm⟩ : ∃ m : Nat, gi l i = m := ⟨(gi l i).toNat, by omega⟩
        refine .inr ⟨m, hm, by omega, ?_⟩
        rw [gr_chL js ns hi]
        exact mem_row.2 ⟨by omega, (h m (by omega)).1 i (by omega) hm⟩
    · rw [cntN_cK, gi_psL ns hm]; exact (h m hm).2
  · intro hg k hk
    refine ⟨fun i hi e => ?_, by have := hg.cap k hk; rw [cntN_cK, gi_psL ns hk] at this; exact this⟩
    rcases hg.ent i (by omega) with h1 | ⟨m, h1, h2, h3⟩
    · omega
    · obtain rfl : k = m := by omega
      rw [gr_chL js ns (by omega)] at h3
      exact (mem_row.1 h3).2
theorem good_pln {js : List Jo} {ns : List Ni} {l : List Int} (hg : GoodP (chL js ns) (psL ns) js.length ns.length l) : plnB js.length ns.length l = true := plnB_iff.2 ⟨hg.len, fun i hi => by
  rcases hg.ent i (by have := hg.len; omega) with h | ⟨m, h, hm, _⟩ <;> omega⟩
set_option maxRecDepth 100000 in
set_option maxHeartbeats 2000000 in
theorem planned_r (ja : Option Addr) (js : List Jo) (jc : Nat) (na : Option Addr) (ns : List Ni) (nc : Nat) (a : Option Addr) (l : List Int) (ca : Nat) (w : World) (hJ : JobsS w ja js) (hN : NightsS w na ns) (hA : IntsC w a l) :
    Calls Try.prog 29 #[.slice ja js.length jc, .slice na ns.length nc, .slice a l.length ca] w fun e w' => e = .returned (.bool (plnB js.length ns.length l)) ∧ w' = w := by
  have hjl := hJ.1
  have HB : Hid (∀ k, k < l.length → badP ns.length l k = true → plnB js.length ns.length l = false) := Lib.hid fun k hk h => by unfold plnB; rw [anyK_true h _ hk]; rfl
  have HG : Hid ((∀ k, k < l.length → badP ns.length l k = false) → plnB js.length ns.length l = ((l.length : Int) == (js.length : Int))) := Lib.hid fun h => by
    unfold plnB
    rw [anyK_false _ h, Bool.eq_iff_iff]
    simp only [Bool.not_false, Bool.true_and, decide_eq_true_eq, beq_iff_eq]
    omega
  have HD : Hid (∀ k, badP ns.length l k = (decide (gi l k < -1) || decide ((ns.length : Int) ≤ gi l k))) := Lib.hid fun k => rfl
  obtain ⟨hl64, blk, off, hadr, hc⟩ := hA
  have HC := Lib.hid hc
  have HL : Hid (0 < l.length → a = some ⟨blk, off, none⟩) := Lib.hid fun h => hadr (pos_ne (n := 0) h)
  generalize plnB js.length ns.length l = R at *
  clear hc hadr hJ hN
  go_enter Try.func29, Try.ntmps29
  go_wp2_with fail
  go_loopw [7] (fun i wr => ∃ k : Nat, k ≤ l.length ∧ i = .int .i64 k ∧ wr = w ∧ Hid (∀ j, j < k → badP ns.length l j = false)) (fun i _ => l.length - (intOf i).toNat)
  case atStart => exact ⟨0, Nat.zero_le _, rfl, rfl, Lib.hid fun j hj => absurd hj (Nat.not_lt_zero _)⟩
  case round =>
    obtain ⟨k, hk, rfl, rfl, hN⟩ := hrel
    by_cases hlt : k < l.length
    · obtain rfl := HL.out (by omega)
      have c0 := HC.out k hlt
      have HBk := Lib.hid (HB.out k hlt)
      have HDk := Lib.hid (HD.out k)
      have HN1 : Hid (badP ns.length l k = false → ∀ j, j < k + 1 → badP ns.length l j = false) := Lib.hid fun h j hj => by
        by_cases e : j = k
        · subst e; exact h
        · exact hN.out j (by omega)
      clear HC HL HB HG HD hN
      generalize hx : gi l k = x at *
      generalize badP ns.length l k = bd at *
      by_cases h1 : x < -1
      · have d1 : decide (x < -1) = true := decide_eq_true h1
        have hR := Lib.hid (HBk.out (by rw [HDk.out, d1]; rfl))
        clear HBk HDk HN1 hx
        go_wp2_with fail
        go_ret
        exact ⟨by rw [hR.out]; rfl, rfl⟩
      · have d1 : decide (x < -1) = false := decide_eq_false h1
        by_cases h2 : (ns.length : Int) ≤ x
        · have d2 : decide ((ns.length : Int) ≤ x) = true := decide_eq_true h2
          have hR := Lib.hid (HBk.out (by rw [HDk.out, d2]; simp))
          clear HBk HDk HN1 hx
          go_wp2_with fail
          go_ret
          exact ⟨by rw [hR.out]; rfl, rfl⟩
        · have d2 : decide ((ns.length : Int) ≤ x) = false := decide_eq_false h2
          have hN2 := Lib.hid (HN1.out (by rw [HDk.out, d1, d2]; rfl))
          clear HBk HDk HN1
          subst hx
          go_wp2_with fail
          go_roundw
          case rel => exact ⟨k + 1, by omega, by go_num, by first | rfl | trivial, hN2⟩
          case measure => simp [intOf]; omega
    · obtain rfl : k = l.length := by omega
      have hR := Lib.hid (HG.out hN.out)
      clear HC HL HB HG HD
      go_wp2_with fail
      go_ret
      exact ⟨by rw [hR.out]; rfl, rfl⟩
set_option maxRecDepth 100000 in
set_option maxHeartbeats 4000000 in
theorem right_r (ja : Option Addr) (js : List Jo) (jc : Nat) (na : Option Addr) (ns : List Ni) (nc : Nat) (a : Option Addr) (l : List Int) (ca : Nat) (w : World) (hJ : JobsS w ja js) (hN : NightsS w na ns) (hA : IntsC w a l) (hle : l.length ≤ js.length) (hsm : js.length ≤ 1000) :
    Calls Try.prog 30 #[.slice ja js.length jc, .slice na ns.length nc, .slice a l.length ca] w fun e w' => e = .returned (.bool (rgtB js ns l)) ∧ Below w.heap.size w w' := by
  have HB : Hid (∀ k, k < ns.length → badN js ns l k = true → rgtB js ns l = false) := Lib.hid fun k hk h => by unfold rgtB; rw [anyK_true h _ hk]; rfl
  have HG : Hid ((∀ k, k < ns.length → badN js ns l k = false) → rgtB js ns l = true) := Lib.hid fun h => by unfold rgtB; rw [anyK_false _ h]; rfl
  have HM1 : Hid (∀ k q, q < l.length → misB js ns l k q = true → badN js ns l k = true) := Lib.hid fun k q hq h => by unfold badN; rw [anyK_true h _ hq]; rfl
  have HM2 : Hid (∀ k, (∀ q, q < l.length → misB js ns l k q = false) → badN js ns l k = decide ((gn ns k).p < (cK (fun i => gi l i == (k : Int)) l.length : Nat))) := Lib.hid fun k h => by unfold badN; rw [anyK_false _ h]; rfl
  have HM3 : Hid (∀ k q, misB js ns l k q = ((gi l q == (k : Int)) && !(fitB (gj js q) (gn ns k)))) := Lib.hid fun k q => rfl
  have HS : Hid (∀ (k q : Nat), cK (fun i => gi l i == (k : Int)) (q + 1) = cK (fun i => gi l i == (k : Int)) q + (if (gi l q == (k : Int)) = true then 1 else 0)) := Lib.hid fun k q => rfl
  have HS0 : Hid (∀ k : Nat, cK (fun i => gi l i == (k : Int)) 0 = 0) := Lib.hid fun k => rfl
  have HSl : Hid (∀ (k q : Nat), cK (fun i => gi l i == (k : Int)) q ≤ q) := Lib.hid fun k q => by
    have := cK_not (fun i => gi l i == (k : Int)) q
    omega
  have hl2 := hN.1
  obtain ⟨jb, jo, HJa, HJc⟩ := jobs_cells hJ
  obtain ⟨nb, no, HNa, HNc⟩ := nights_cells hN
  obtain ⟨hl64, blk, off, hadr, hc⟩ := hA
  have HC := Lib.hid hc
  have HL : Hid (0 < l.length → a = some ⟨blk, off, none⟩) := Lib.hid fun h => hadr (pos_ne (n := 0) h)
  clear hc hadr hJ hN
  generalize rgtB js ns l = R at *
  go_enter Try.func30, Try.ntmps30
  go_wp2_with fail
  go_loopw [7] (fun i wr => ∃ k : Nat, k ≤ ns.length ∧ i = .int .i64 k ∧ Below w.heap.size w wr ∧ Hid (∀ j, j < k → badN js ns l j = false)) (fun i _ => ns.length - (intOf i).toNat)
  case atStart => exact ⟨0, Nat.zero_le _, rfl, Below.refl _ _, Lib.hid fun j hj => absurd hj (Nat.not_lt_zero _)⟩
  case round =>
    obtain ⟨k, hk, rfl, hb, hN⟩ := hrel
    by_cases hlt : k < ns.length
    · obtain rfl := HNa.out (by omega)
      obtain ⟨d0, d1, d2, d3, d4, d5, d6, d7⟩ := HNc.out k hlt
      have HBk := Lib.hid (HB.out k hlt)
      have HM1k := Lib.hid (HM1.out k)
      have HM2k := Lib.hid (HM2.out k)
      have HM3k := Lib.hid (HM3.out k)
      have HSk := Lib.hid (HS.out k)
      have HS0k := Lib.hid (HS0.out k)
      have HSlk := Lib.hid (HSl.out k)
      have HN1 : Hid (badN js ns l k = false → ∀ j, j < k + 1 → badN js ns l j = false) := Lib.hid fun h j hj => by
        by_cases e : j = k
        · subst e; exact h
        · exact hN.out j (by omega)
      clear HNa HNc HB HG HM1 HM2 HM3 HS HS0 HSl hN
      generalize gn ns k = s at *
      generalize cK (fun i => gi l i == (k : Int)) = cc at *
      generalize badN js ns l k = bd at *
      generalize misB js ns l k = mb at *
      have k3 : decide ((0 : Int) ≤ k) = true := decide_eq_true (by omega)
      have k4 : decide ((k : Int) < ns.length) = true := decide_eq_true (by omega)
      go_wp2_with fail
      obtain ⟨wo, rfl⟩ : ∃ wo : World, wo = wr := ⟨_, rfl⟩
      go_loopw [8, 9] (fun v i wr => ∃ q : Nat, q ≤ l.length ∧ i = .int .i64 q ∧ v = .int .i64 (cc q) ∧ Below w.heap.size w wr ∧ Hid (∀ j, j < q → mb j = false)) (fun _ i _ => l.length - (intOf i).toNat)
      case atStart => exact ⟨0, Nat.zero_le _, rfl, by rw [HS0k.out]; rfl, hb, Lib.hid fun j hj => absurd hj (Nat.not_lt_zero _)⟩
      case round =>
        obtain ⟨q, hq, rfl, rfl, hb, hQ⟩ := hrel
        by_cases hlq : q < l.length
        · have hqj : q < js.length := by omega
          have hls : l.length ≤ 1000 := by omega
          obtain rfl := HL.out (by omega)
          obtain rfl := HJa.out (by omega)
          obtain ⟨c0, c1, c2, c3, c4, c5, c6, c7⟩ := HJc.out q hqj
          have e0 := HC.out q hlq
          have HM1q := Lib.hid (HM1k.out q hlq)
          have HM3q := Lib.hid (HM3k.out q)
          have hSq := Lib.hid (HSk.out q)
          have hcl := HSlk.out q
          have HQ1 : Hid (mb q = false → ∀ j, j < q + 1 → mb j = false) := Lib.hid fun h j hj => by
            by_cases e : j = q
            · subst e; exact h
            · exact hQ.out j (by omega)
          clear HM1k HM2k HM3k HSk HS0k HSlk HL HJa HJc HC hQ HN1
          generalize gj js q = j at *
          generalize gi l q = y at *
          have e0 := cell_below e0 hb
          have c0 := cell_below c0 hb
          have c1 := cell_below c1 hb
          have c2 := cell_below c2 hb
          have c3 := cell_below c3 hb
          have c4 := cell_below c4 hb
          have c5 := cell_below c5 hb
          have c6 := cell_below c6 hb
          have c7 := cell_below c7 hb
          have d0 := cell_below d0 hb
          have d1 := cell_below d1 hb
          have d2 := cell_below d2 hb
          have d3 := cell_below d3 hb
          have d4 := cell_below d4 hb
          have d5 := cell_below d5 hb
          have d6 := cell_below d6 hb
          have d7 := cell_below d7 hb
          have k1 : decide ((0 : Int) ≤ q) = true := decide_eq_true (by omega)
          have k2 : decide ((q : Int) < js.length) = true := decide_eq_true (by omega)
          by_cases hy : y = k
          · have hyd : (y == (k : Int)) = true := by simpa using hy
            have hyd2 : (y != (k : Int)) = false := by simp [hy]
            have hc1 : Hid (((cc (q + 1) : Nat) : Int) = (cc q : Int) + 1) := Lib.hid (by rw [hSq.out, if_pos hyd]; omega)
            have HFt := Lib.hid (fun W => refFits_r j s W)
            have hwc : IntKind.i64.wrap ((cc q : Int) + 1) = cc q + 1 := IntWalk.i64_in _ (by omega)
            cases hfit : fitB j s with
            | true =>
              rw [hfit] at HFt
              have hQ2 := Lib.hid (HQ1.out (by rw [HM3q.out, hfit, hyd]; rfl))
              clear hSq hy hfit HM1q HM3q HQ1 HBk
              go_wp2_with fail
              go_still_tail 8, (by kernel_rfl)
              change wpList _ _ _ _ _ wr.drew
              have hb := hb.drew
              generalize wr.drew = wq at hb ⊢
              clear c0 c1 c2 c3 c4 c5 c6 c7 d0 d1 d2 d3 d4 d5 d6 d7 e0
              go_wp2_with fail
              refine (HFt.out _).mono ?_
              rintro e w1 ⟨rfl, hb1⟩
              go_wp2_with fail
              go_roundw
              case rel => exact ⟨q + 1, by omega, by go_num, by rw [hc1.out], below_onN hb hb1 hb.size, hQ2⟩
              case measure => simp [intOf]; omega
            | false =>
              rw [hfit] at HFt
              have hR := Lib.hid (HBk.out (HM1q.out (by rw [HM3q.out, hfit, hyd]; rfl)))
              clear hSq hy hfit HM1q HM3q HQ1 HBk
              go_wp2_with fail
              go_still_tail 8, (by kernel_rfl)
              change wpList _ _ _ _ _ wr.drew
              have hb := hb.drew
              generalize wr.drew = wq at hb ⊢
              clear c0 c1 c2 c3 c4 c5 c6 c7 d0 d1 d2 d3 d4 d5 d6 d7 e0
              go_wp2_with fail
              refine (HFt.out _).mono ?_
              rintro e w1 ⟨rfl, hb1⟩
              go_wp2_with fail
              go_ret
              exact ⟨by rw [hR.out]; rfl, below_onN hb hb1 hb.size⟩
          · have hyd : (y == (k : Int)) = false := beq_false_of_ne hy
            have hc1 : Hid (cc (q + 1) = cc q) := Lib.hid (by rw [hSq.out, if_neg (by rw [hyd]; decide)]; rfl)
            have hQ2 := Lib.hid (HQ1.out (by rw [HM3q.out, hyd]; rfl))
            clear hSq hy HM1q HM3q HQ1 HBk
            go_wp2_with fail
            go_roundw
            case rel => exact ⟨q + 1, by omega, by go_num, by rw [hc1.out], hb, hQ2⟩
            case measure => simp [intOf]; omega
        · obtain rfl : q = l.length := by omega
          have d5 := cell_below d5 hb
          have HM2 := Lib.hid (HM2k.out hQ.out)
          clear HM1k HM2k HM3k HSk HS0k HSlk HL HJa HJc HC hQ
          by_cases hpc : s.p < (cc l.length : Int)
          · have dle : decide (s.p < (cc l.length : Int)) = true := decide_eq_true hpc
            have hR := Lib.hid (HBk.out (HM2.out.trans dle))
            clear HBk HM2 HN1
            go_wp2_with fail
            go_ret
            exact ⟨by rw [hR.out]; rfl, hb⟩
          · have dle : decide (s.p < (cc l.length : Int)) = false := decide_eq_false hpc
            have hN2 := Lib.hid (HN1.out (HM2.out.trans dle))
            clear HBk HM2 HN1
            go_wp2_with fail
            go_roundw
            case rel => exact ⟨k + 1, by omega, by go_num, hb, hN2⟩
            case measure => simp [intOf]; omega
    · obtain rfl : k = ns.length := by omega
      have hR := Lib.hid (HG.out hN.out)
      go_wp2_with fail
      go_ret
      exact ⟨by rw [hR.out]; rfl, hb⟩
set_option maxRecDepth 100000 in
set_option maxHeartbeats 2000000 in
theorem refRight_1 (ja : Option Addr) (js : List Jo) (jc : Nat) (na : Option Addr) (ns : List Ni) (nc : Nat) (a : Option Addr) (l : List Int) (ca : Nat) (w : World) (hJ : JobsS w ja js) (hN : NightsS w na ns) (hA : IntsC w a l) (hsm : l.length ≤ js.length → js.length ≤ 1000) (he : (errL js ns == 0) = false) :
    Calls Try.prog 10 #[.slice ja js.length jc, .slice na ns.length nc, .slice a l.length ca] w fun e w' => e = .returned (.tuple #[.bool false, .int .i64 (errL js ns)]) ∧ Below w.heap.size w w' := by
  have H1 := Lib.hid (wrong_r ja js jc na ns nc w hJ hN)
  clear hJ hN hA
  generalize errL js ns = E at *
  go_enter Try.func10, Try.ntmps10
  go_wp2_with fail
  refine H1.out.mono ?_
  rintro e w1 ⟨rfl, hb1⟩
  go_wp2_with fail
  go_ret2
  exact ⟨rfl, hb1⟩
set_option maxRecDepth 100000 in
set_option maxHeartbeats 2000000 in
theorem refRight_2 (ja : Option Addr) (js : List Jo) (jc : Nat) (na : Option Addr) (ns : List Ni) (nc : Nat) (a : Option Addr) (l : List Int) (ca : Nat) (w : World) (hJ : JobsS w ja js) (hN : NightsS w na ns) (hA : IntsC w a l) (hsm : l.length ≤ js.length → js.length ≤ 1000) (he : errL js ns = 0) (h2 : plnB js.length ns.length l = false) :
    Calls Try.prog 10 #[.slice ja js.length jc, .slice na ns.length nc, .slice a l.length ca] w fun e w' => e = .returned (.tuple #[.bool false, .int .i64 82]) ∧ Below w.heap.size w w' := by
  have H1 := Lib.hid (wrong_r ja js jc na ns nc w hJ hN)
  have H2 := Lib.hid (fun W (hW : Below w.heap.size w W) => planned_r ja js jc na ns nc a l ca W (hJ.below hW) (hN.below hW) (hA.below hW))
  rw [he] at H1
  rw [h2] at H2
  clear hJ hN hA he h2
  go_enter Try.func10, Try.ntmps10
  go_wp2_with fail
  refine H1.out.mono ?_
  rintro e w1 ⟨rfl, hb1⟩
  go_wp2_with fail
  refine (H2.out _ hb1).mono ?_
  rintro e w2 ⟨rfl, rfl⟩
  go_wp2_with fail
  go_ret2
  exact ⟨rfl, hb1⟩
set_option maxRecDepth 100000 in
set_option maxHeartbeats 2000000 in
theorem refRight_3 (ja : Option Addr) (js : List Jo) (jc : Nat) (na : Option Addr) (ns : List Ni) (nc : Nat) (a : Option Addr) (l : List Int) (ca : Nat) (w : World) (hJ : JobsS w ja js) (hN : NightsS w na ns) (hA : IntsC w a l) (hsm : l.length ≤ js.length → js.length ≤ 1000) (he : errL js ns = 0) (h2 : plnB js.length ns.length l = true) :
    Calls Try.prog 10 #[.slice ja js.length jc, .slice na ns.length nc, .slice a l.length ca] w fun e w' => e = .returned (.tuple #[.bool (rgtB js ns l), .int .i64 0]) ∧ Below w.heap.size w w' := by
  have H1 := Lib.hid (wrong_r ja js jc na ns nc w hJ hN)
  have H2 := Lib.hid (fun W (hW : Below w.heap.size w W) => planned_r ja js jc na ns nc a l ca W (hJ.below hW) (hN.below hW) (hA.below hW))
  have H3 := Lib.hid (fun W (hW : Below w.heap.size w W) => right_r ja js jc na ns nc a l ca W (hJ.below hW) (hN.below hW) (hA.below hW) (by have := (plnB_iff.1 h2).1; omega) (hsm (by have := (plnB_iff.1 h2).1; omega)))
  rw [he] at H1
  rw [h2] at H2
  clear hJ hN hA he h2
  generalize rgtB js ns l = R at *
  go_enter Try.func10, Try.ntmps10
  go_wp2_with fail
  refine H1.out.mono ?_
  rintro e w1 ⟨rfl, hb1⟩
  go_wp2_with fail
  refine (H2.out _ hb1).mono ?_
  rintro e w2 ⟨rfl, rfl⟩
  go_wp2_with fail
  refine (H3.out _ hb1).mono ?_
  rintro e w3 ⟨rfl, hb3⟩
  go_wp2_with fail
  go_ret2
  exact ⟨rfl, below_onN hb1 hb3 hb1.size⟩
/-- What Right says. -/
def rtV (js : List Jo) (ns : List Ni) (l : List Int) : Bool := decide (errL js ns = 0) && plnB js.length ns.length l && rgtB js ns l
def rtE (js : List Jo) (ns : List Ni) (l : List Int) : Int := if errL js ns = 0 then (if plnB js.length ns.length l = true then 0 else 82) else errL js ns
theorem jobs_small {js : List Jo} {ns : List Ni} (h : errL js ns = 0) : js.length ≤ 1000 := by have := jobsB_len (errL_ok h).1; omega
theorem refRight_r (ja : Option Addr) (js : List Jo) (jc : Nat) (na : Option Addr) (ns : List Ni) (nc : Nat) (a : Option Addr) (l : List Int) (ca : Nat) (w : World) (hJ : JobsS w ja js) (hN : NightsS w na ns) (hA : IntsC w a l) :
    Calls Try.prog 10 #[.slice ja js.length jc, .slice na ns.length nc, .slice a l.length ca] w fun e w' => e = .returned (.tuple #[.bool (rtV js ns l), .int .i64 (rtE js ns l)]) ∧ Below w.heap.size w w' := by
  by_cases he : errL js ns = 0
  · have hs := jobs_small he
    cases h2 : plnB js.length ns.length l with
    | false =>
      have := refRight_2 ja js jc na ns nc a l ca w hJ hN hA (fun _ => hs) he h2
      unfold rtV rtE
      rw [decide_eq_true he, h2, if_pos he, if_neg (by decide)]
      exact this
    | true =>
      have := refRight_3 ja js jc na ns nc a l ca w hJ hN hA (fun _ => hs) he h2
      unfold rtV rtE
      rw [decide_eq_true he, h2, if_pos he, if_pos rfl]
      exact this
  · unfold rtV rtE
    rw [decide_eq_false he, if_neg he]
    by_cases hs : js.length ≤ 1000
    · exact refRight_1 ja js jc na ns nc a l ca w hJ hN hA (fun _ => hs) (beq_false_of_ne he)
    · have H1 := Lib.hid (wrong_r ja js jc na ns nc w hJ hN)
      have hE : (errL js ns == 0) = false := beq_false_of_ne he
      clear hJ hN hA he
      generalize errL js ns = E at *
      go_enter Try.func10, Try.ntmps10
      go_wp2_with fail
      refine H1.out.mono ?_
      rintro e w1 ⟨rfl, hb1⟩
      go_wp2_with fail
      go_ret2
      exact ⟨rfl, hb1⟩
theorem plnE_eq (js : List Jo) (ns : List Ni) (l : List Int) : plnE js ns l = if rtE js ns l = 0 ∧ rtV js ns l = false then 82 else rtE js ns l := by
  unfold plnE rtE rtV
  by_cases he : errL js ns = 0
  · rw [if_pos he, if_pos he, decide_eq_true he]
    cases plnB js.length ns.length l <;> cases rgtB js ns l <;> rfl
  · rw [if_neg he, if_neg he, if_neg (by omega)]
set_option maxRecDepth 100000 in
set_option maxHeartbeats 2000000 in
theorem refPlans_r (ja : Option Addr) (js : List Jo) (jc : Nat) (na : Option Addr) (ns : List Ni) (nc : Nat) (a : Option Addr) (l : List Int) (ca : Nat) (w : World) (hJ : JobsS w ja js) (hN : NightsS w na ns) (hA : IntsC w a l) :
    Calls Try.prog 33 #[.slice ja js.length jc, .slice na ns.length nc, .slice a l.length ca] w fun e w' => e = .returned (.int .i64 (plnE js ns l)) ∧ Below w.heap.size w w' := by
  have H1 := Lib.hid (refRight_r ja js jc na ns nc a l ca w hJ hN hA)
  have HE := Lib.hid (plnE_eq js ns l)
  clear hJ hN hA
  generalize plnE js ns l = X at *
  generalize rtE js ns l = E at *
  by_cases h : E = 0
  · subst h
    cases hv : rtV js ns l with
    | true =>
      rw [hv] at H1 HE
      have hX : X = 0 := by rw [HE.out, if_neg (by simp)]
      subst hX
      clear hv HE
      go_enter Try.func33, Try.ntmps33
      go_wp2_with fail
      refine H1.out.mono ?_
      rintro e w1 ⟨rfl, hb1⟩
      go_wp2_with fail
      go_ret
      exact ⟨rfl, hb1⟩
    | false =>
      rw [hv] at H1 HE
      have hX : X = 82 := by rw [HE.out, if_pos ⟨rfl, rfl⟩]
      subst hX
      clear hv HE
      go_enter Try.func33, Try.ntmps33
      go_wp2_with fail
      refine H1.out.mono ?_
      rintro e w1 ⟨rfl, hb1⟩
      go_wp2_with fail
      go_ret
      exact ⟨rfl, hb1⟩
  · have hX : X = E := by rw [HE.out, if_neg (by omega)]
    subst hX
    have hE : (X == 0) = false := beq_false_of_ne h
    clear HE h
    generalize rtV js ns l = V at *
    go_enter Try.func33, Try.ntmps33
    go_wp2_with fail
    refine H1.out.mono ?_
    rintro e w1 ⟨rfl, hb1⟩
    go_wp2_with fail
    go_ret
    exact ⟨rfl, hb1⟩
/-- How many of the first k jobs have a night. -/
def dnK (l : List Int) : Nat → Nat := cK (fun i => decide (0 ≤ gi l i))
set_option maxRecDepth 100000 in
set_option maxHeartbeats 2000000 in
theorem refDone_v (a : Option Addr) (l : List Int) (ca : Nat) (w : World) (hA : IntsC w a l) :
    Calls Try.prog 34 #[.slice a l.length ca] w fun e w' => e = .returned (.int .i64 (dnK l l.length)) ∧ w' = w := by
  obtain ⟨hl64, blk, off, hadr, hc⟩ := hA
  have HC := Lib.hid hc
  have HL : Hid (0 < l.length → a = some ⟨blk, off, none⟩) := Lib.hid fun h => hadr (pos_ne (n := 0) h)
  have HS : Hid (∀ k, dnK l (k + 1) = dnK l k + (if decide (0 ≤ gi l k) = true then 1 else 0)) := Lib.hid fun k => rfl
  have HN : Hid (∀ k, dnK l k ≤ k) := Lib.hid fun k => by have := cK_not (fun i => decide (0 ≤ gi l i)) k; unfold dnK; omega
  have H0 : Hid (dnK l 0 = 0) := Lib.hid rfl
  clear hc hadr
  generalize dnK l = D at *
  go_enter Try.func34, Try.ntmps34
  go_wp2_with fail
  go_loopw [3, 4] (fun v i wr => ∃ k : Nat, k ≤ l.length ∧ i = .int .i64 k ∧ v = .int .i64 (D k) ∧ wr = w) (fun _ i _ => l.length - (intOf i).toNat)
  case atStart => exact ⟨0, Nat.zero_le _, rfl, by rw [H0.out]; rfl, rfl⟩
  case round =>
    obtain ⟨k, hk, rfl, rfl, rfl⟩ := hrel
    by_cases hlt : k < l.length
    · obtain rfl := HL.out (by omega)
      have c0 := HC.out k hlt
      have hS := Lib.hid (HS.out k)
      have hn := HN.out k
      clear HC HL HS HN H0
      generalize gi l k = x at *
      by_cases h1 : 0 ≤ x
      · have d1 : decide ((0 : Int) ≤ x) = true := decide_eq_true h1
        have hS1 : Hid (((D (k + 1) : Nat) : Int) = (D k : Int) + 1) := Lib.hid (by rw [hS.out, if_pos d1]; omega)
        clear hS
        go_wp2_with fail
        go_roundw
        case rel => exact ⟨k + 1, by omega, by go_num, by rw [hS1.out], by first | rfl | trivial⟩
        case measure => simp [intOf]; omega
      · have d1 : decide ((0 : Int) ≤ x) = false := decide_eq_false h1
        have hS1 : Hid (D (k + 1) = D k) := Lib.hid (by rw [hS.out, if_neg (by rw [d1]; decide)]; rfl)
        clear hS
        go_wp2_with fail
        go_roundw
        case rel => exact ⟨k + 1, by omega, by go_num, by rw [hS1.out], by first | rfl | trivial⟩
        case measure => simp [intOf]; omega
    · obtain rfl : k = l.length := by omega
      go_wp2_with fail
      go_ret
      exact ⟨rfl, rfl⟩
/-- What Done says. -/
def doV (js : List Jo) (ns : List Ni) (l : List Int) : Int := if plnE js ns l = 0 then (dnK l l.length : Nat) else 0
set_option maxRecDepth 100000 in
set_option maxHeartbeats 2000000 in
theorem refDone_r (ja : Option Addr) (js : List Jo) (jc : Nat) (na : Option Addr) (ns : List Ni) (nc : Nat) (a : Option Addr) (l : List Int) (ca : Nat) (w : World) (hJ : JobsS w ja js) (hN : NightsS w na ns) (hA : IntsC w a l) :
    Calls Try.prog 12 #[.slice ja js.length jc, .slice na ns.length nc, .slice a l.length ca] w fun e w' => e = .returned (.tuple #[.int .i64 (doV js ns l), .int .i64 (plnE js ns l)]) ∧ Below w.heap.size w w' := by
  have H1 := Lib.hid (refPlans_r ja js jc na ns nc a l ca w hJ hN hA)
  have H2 := Lib.hid (fun W (hW : Below w.heap.size w W) => refDone_v a l ca W (hA.below hW))
  have HV : Hid (doV js ns l = (if plnE js ns l = 0 then ((dnK l l.length : Nat) : Int) else 0)) := Lib.hid rfl
  clear hJ hN hA
  generalize doV js ns l = V at *
  generalize plnE js ns l = E at *
  generalize dnK l l.length = D at *
  by_cases h : E = 0
  · subst h
    have hV : V = D := by rw [HV.out, if_pos rfl]
    subst hV
    clear HV
    go_enter Try.func12, Try.ntmps12
    go_wp2_with fail
    refine H1.out.mono ?_
    rintro e w1 ⟨rfl, hb1⟩
    go_wp2_with fail
    refine (H2.out _ hb1).mono ?_
    rintro e w2 ⟨rfl, rfl⟩
    go_wp2_with fail
    go_ret2
    exact ⟨rfl, hb1⟩
  · have hV : V = 0 := by rw [HV.out, if_neg h]
    subst hV
    have hE : (E == 0) = false := beq_false_of_ne h
    have hE2 : (E != 0) = true := by simp [h]
    clear HV h
    go_enter Try.func12, Try.ntmps12
    go_wp2_with fail
    refine H1.out.mono ?_
    rintro e w1 ⟨rfl, hb1⟩
    go_wp2_with fail
    go_ret2
    exact ⟨rfl, hb1⟩
theorem dn_dnK {C : List (List Int)} {P : List Int} {L N : Nat} {l : List Int} (hg : GoodP C P L N l) : (dnK l l.length : Int) = dnN l := by
  unfold dnN dnK
  rw [cntN_cK]
  have h1 := cK_not (fun i => gi l i == -1) l.length
  rw [cK_congr (g := fun i => !(gi l i == -1)) l.length fun i hi => by
    rcases hg.ent i (by have := hg.len; omega) with e | ⟨m, e, _⟩
    · rw [e]; rfl
    · rw [e, decide_eq_true (by omega), beq_false_of_ne (by omega)]; rfl]
  omega
end Go.Proofs.Ytghlhjiomebmhaa
