/-
  Right and Done of the reference of package night, at a plan that is right and complete. By an AI agent.
-/
import Derived.Test.YtghlhjiomebmhaaNiPl
import Derived.Deep.RegionHeld3
import Derived.BigQuiet
import Derived.StillTailTactics
namespace Go.Proofs.Ytghlhjiomebmhaa
set_option linter.unusedVariables false
set_option linter.unusedSimpArgs false
open Go.RowKit

set_option maxRecDepth 100000 in
set_option maxHeartbeats 2000000 in
theorem planned_ok (ja : Option Addr) (js : List Jo) (jc : Nat) (na : Option Addr) (ns : List Ni) (nc : Nat) (a : Option Addr) (l : List Int) (ca : Nat) (w : World) (hJ : JobsS w ja js) (hN : NightsS w na ns) (hA : IntsC w a l) (hg : GoodP (chL js ns) (psL ns) js.length ns.length l) :
    Calls Try.prog 29 #[.slice ja js.length jc, .slice na ns.length nc, .slice a l.length ca] w fun e w' => e = .returned (.bool true) ∧ w' = w := by
  have hlen := hg.len
  have HE : Hid (∀ i, i < l.length → -1 ≤ gi l i ∧ gi l i < ns.length) := Lib.hid fun i hi => by
    rcases hg.ent i (by omega) with h | ⟨m, h, hm, _⟩ <;> omega
  obtain ⟨hl64, blk, off, hadr, hc⟩ := hA
  have HC := Lib.hid hc
  have HL : Hid (0 < l.length → a = some ⟨blk, off, none⟩) := Lib.hid fun h => hadr (pos_ne (n := 0) h)
  have hel : ((l.length : Int) == (js.length : Int)) = true := by rw [hlen]; simp
  clear hc hadr hg hJ hN hlen
  go_enter Try.func29, Try.ntmps29
  go_wp2_with fail
  go_loopw [7] (fun i wr => ∃ k : Nat, k ≤ l.length ∧ i = .int .i64 k ∧ wr = w) (fun i _ => l.length - (intOf i).toNat)
  case atStart => exact ⟨0, Nat.zero_le _, rfl, rfl⟩
  case round =>
    obtain ⟨k, hk, rfl, rfl⟩ := hrel
    by_cases hlt : k < l.length
    · obtain rfl := HL.out (by omega)
      have c0 := HC.out k hlt
      obtain ⟨h1, h2⟩ := HE.out k hlt
      clear HC HE HL
      generalize gi l k = x at *
      have d1 : decide (x < -1) = false := decide_eq_false (by omega)
      have d2 : decide ((ns.length : Int) ≤ x) = false := decide_eq_false (by omega)
      go_wp2_with fail
      go_roundw
      case rel => exact ⟨k + 1, by omega, by go_num, by first | rfl | trivial⟩
      case measure => simp [intOf]; omega
    · obtain rfl : k = l.length := by omega
      go_wp2_with fail
      go_ret
      exact ⟨by simp_all, rfl⟩
set_option maxRecDepth 100000 in
set_option maxHeartbeats 4000000 in
theorem right_ok (ja : Option Addr) (js : List Jo) (jc : Nat) (na : Option Addr) (ns : List Ni) (nc : Nat) (a : Option Addr) (l : List Int) (ca : Nat) (w : World) (hJ : JobsS w ja js) (hN : NightsS w na ns) (hA : IntsC w a l) (hg : GoodP (chL js ns) (psL ns) js.length ns.length l) (hsm : js.length ≤ 1000) :
    Calls Try.prog 30 #[.slice ja js.length jc, .slice na ns.length nc, .slice a l.length ca] w fun e w' => e = .returned (.bool true) ∧ Below w.heap.size w w' := by
  have hlen := hg.len
  have hlenH := Lib.hid hlen
  have HF : Hid (∀ q k : Nat, q < l.length → k < ns.length → gi l q = k → fitB (gj js q) (gn ns k) = true) := Lib.hid fun q k hq hk h => by
    rcases hg.ent q (by omega) with h1 | ⟨m, h1, h2, h3⟩
    · omega
    · rw [gr_chL js ns (by omega)] at h3
      obtain ⟨m', e1, e2, e3⟩ := selK_mem _ _ _ h3
      obtain rfl : k = m' := by omega
      exact e3
  have HP : Hid (∀ k : Nat, k < ns.length → (cK (fun i => gi l i == (k : Int)) l.length : Int) ≤ (gn ns k).p) := Lib.hid fun k hk => by
    have := hg.cap k hk
    rw [cntN_cK, gi_psL ns hk] at this
    exact this
  have HS : Hid (∀ (k q : Nat), cK (fun i => gi l i == (k : Int)) (q + 1) = cK (fun i => gi l i == (k : Int)) q + (if (gi l q == (k : Int)) = true then 1 else 0)) := Lib.hid fun k q => rfl
  have HS0 : Hid (∀ k : Nat, cK (fun i => gi l i == (k : Int)) 0 = 0) := Lib.hid fun k => rfl
  have HSl : Hid (∀ (k q : Nat), cK (fun i => gi l i == (k : Int)) q ≤ q) := Lib.hid fun k q => by
    have := cK_not (fun i => gi l i == (k : Int)) q
    omega
  have hl2 := hN.1
  obtain ⟨jb, jo, HJa, HJc⟩ := jobs_cells hJ
  obtain ⟨nb, no, HNa, HNc⟩ := nights_cells hN
  obtain ⟨hl64, blk, off, hadr, hc⟩ := hA
  have HC := Lib.hid hc
  have HL : Hid (0 < l.length → a = some ⟨blk, off, none⟩) := Lib.hid fun h => hadr (pos_ne (n := 0) h)
  clear hc hadr hg hJ hN hlen
  go_enter Try.func30, Try.ntmps30
  go_wp2_with fail
  go_loopw [7] (fun i wr => ∃ k : Nat, k ≤ ns.length ∧ i = .int .i64 k ∧ Below w.heap.size w wr) (fun i _ => ns.length - (intOf i).toNat)
  case atStart => exact ⟨0, Nat.zero_le _, rfl, Below.refl _ _⟩
  case round =>
    obtain ⟨k, hk, rfl, hb⟩ := hrel
    by_cases hlt : k < ns.length
    · obtain rfl := HNa.out (by omega)
      obtain ⟨d0, d1, d2, d3, d4, d5, d6, d7⟩ := HNc.out k hlt
      have HFk := Lib.hid (fun q hq => HF.out q k hq hlt)
      have hPk := HP.out k hlt
      have HSk := Lib.hid (HS.out k)
      have HS0k := Lib.hid (HS0.out k)
      have HSlk := Lib.hid (HSl.out k)
      clear HNa HNc HF HP HS HS0 HSl
      generalize gn ns k = s at *
      generalize cK (fun i => gi l i == (k : Int)) = cc at *
      have k3 : decide ((0 : Int) ≤ k) = true := decide_eq_true (by omega)
      have k4 : decide ((k : Int) < ns.length) = true := decide_eq_true (by omega)
      go_wp2_with fail
      obtain ⟨wo, rfl⟩ : ∃ wo : World, wo = wr := ⟨_, rfl⟩
      go_loopw [8, 9] (fun v i wr => ∃ q : Nat, q ≤ l.length ∧ i = .int .i64 q ∧ v = .int .i64 (cc q) ∧ Below w.heap.size w wr) (fun _ i _ => l.length - (intOf i).toNat)
      case atStart => exact ⟨0, Nat.zero_le _, rfl, by rw [HS0k.out]; rfl, hb⟩
      case round =>
        obtain ⟨q, hq, rfl, rfl, hb⟩ := hrel
        by_cases hlq : q < l.length
        · have hqj : q < js.length := by rw [← hlenH.out]; exact hlq
          have hls : l.length ≤ 1000 := by rw [hlenH.out]; exact hsm
          obtain rfl := HL.out (by omega)
          obtain rfl := HJa.out (by omega)
          obtain ⟨c0, c1, c2, c3, c4, c5, c6, c7⟩ := HJc.out q hqj
          have e0 := HC.out q hlq
          have hfq := Lib.hid (HFk.out q hlq)
          have hSq := Lib.hid (HSk.out q)
          have hcl := HSlk.out q
          clear HFk HSk HS0k HSlk HL HJa HJc HC
          generalize gj js q = j at *
          generalize gi l q = y at *
          have e0 := cell_below e0 hb
          have c0 := cell_below c0 hb
          have c1 := cell_below c1 hb
          have c2 := cell_below c2 hb
          have c3 := cell_below c3 hb
          have c4 := cell_below c4 hb
          have c5 := cell_below c5 hb
          have c6 := cell_below c6 hb
          have c7 := cell_below c7 hb
          have d0 := cell_below d0 hb
          have d1 := cell_below d1 hb
          have d2 := cell_below d2 hb
          have d3 := cell_below d3 hb
          have d4 := cell_below d4 hb
          have d5 := cell_below d5 hb
          have d6 := cell_below d6 hb
          have d7 := cell_below d7 hb
          have k1 : decide ((0 : Int) ≤ q) = true := decide_eq_true (by omega)
          have k2 : decide ((q : Int) < js.length) = true := decide_eq_true (by omega)
          by_cases hy : y = k
          · have hyd : (y == (k : Int)) = true := by simpa using hy
            have hyd2 : (y != (k : Int)) = false := by simp [hy]
            have hc1 : Hid (((cc (q + 1) : Nat) : Int) = (cc q : Int) + 1) := Lib.hid (by rw [hSq.out, if_pos hyd]; omega)
            have hfit := hfq.out hy
            have HFt := Lib.hid (fun W => refFits_r j s W)
            rw [hfit] at HFt
            have hwc : IntKind.i64.wrap ((cc q : Int) + 1) = cc q + 1 := IntWalk.i64_in _ (by omega)
            clear hSq hfq hfit hy
            go_wp2_with fail
            go_still_tail 8, (by kernel_rfl)
            change wpList _ _ _ _ _ wr.drew
            have hb := hb.drew
            generalize wr.drew = wq at hb ⊢
            clear c0 c1 c2 c3 c4 c5 c6 c7 d0 d1 d2 d3 d4 d5 d6 d7 e0
            go_wp2_with fail
            refine (HFt.out _).mono ?_
            rintro e w1 ⟨rfl, hb1⟩
            go_wp2_with fail
            go_roundw
            case rel => exact ⟨q + 1, by omega, by go_num, by rw [hc1.out], below_onN hb hb1 hb.size⟩
            case measure => simp [intOf]; omega
          · have hyd : (y == (k : Int)) = false := beq_false_of_ne hy
            have hc1 : Hid (cc (q + 1) = cc q) := Lib.hid (by rw [hSq.out, if_neg (by rw [hyd]; decide)]; rfl)
            clear hSq hfq hy
            go_wp2_with fail
            go_roundw
            case rel => exact ⟨q + 1, by omega, by go_num, by rw [hc1.out], hb⟩
            case measure => simp [intOf]; omega
        · obtain rfl : q = l.length := by omega
          have d5 := cell_below d5 hb
          have dle : decide (s.p < (cc l.length : Int)) = false := decide_eq_false (by omega)
          clear HFk HSk HS0k HSlk HL HJa HJc HC
          go_wp2_with fail
          go_roundw
          case rel => exact ⟨k + 1, by omega, by go_num, hb⟩
          case measure => simp [intOf]; omega
    · obtain rfl : k = ns.length := by omega
      go_wp2_with fail
      go_ret
      exact ⟨rfl, hb⟩
set_option maxRecDepth 100000 in
set_option maxHeartbeats 2000000 in
theorem refRight_ok (ja : Option Addr) (js : List Jo) (jc : Nat) (na : Option Addr) (ns : List Ni) (nc : Nat) (a : Option Addr) (l : List Int) (ca : Nat) (w : World) (hJ : JobsS w ja js) (hN : NightsS w na ns) (hA : IntsC w a l) (hg : GoodP (chL js ns) (psL ns) js.length ns.length l) (hsm : js.length ≤ 1000) (he : errL js ns = 0) :
    Calls Try.prog 10 #[.slice ja js.length jc, .slice na ns.length nc, .slice a l.length ca] w fun e w' => e = .returned (.tuple #[.bool true, .int .i64 0]) ∧ Below w.heap.size w w' := by
  have H1 := Lib.hid (wrong_r ja js jc na ns nc w hJ hN)
  rw [he] at H1
  have H2 := Lib.hid (fun W (hW : Below w.heap.size w W) => planned_ok ja js jc na ns nc a l ca W (hJ.below hW) (hN.below hW) (hA.below hW) hg)
  have H3 := Lib.hid (fun W (hW : Below w.heap.size w W) => right_ok ja js jc na ns nc a l ca W (hJ.below hW) (hN.below hW) (hA.below hW) hg hsm)
  clear hJ hN hA hg he
  go_enter Try.func10, Try.ntmps10
  go_wp2_with fail
  refine H1.out.mono ?_
  rintro e w1 ⟨rfl, hb1⟩
  go_wp2_with fail
  refine (H2.out _ hb1).mono ?_
  rintro e w2 ⟨rfl, rfl⟩
  go_wp2_with fail
  refine (H3.out _ hb1).mono ?_
  rintro e w3 ⟨rfl, hb3⟩
  go_wp2_with fail
  go_ret2
  exact ⟨rfl, below_onN hb1 hb3 hb1.size⟩
set_option maxRecDepth 100000 in
set_option maxHeartbeats 2000000 in
theorem refDone_all (a : Option Addr) (l : List Int) (ca : Nat) (w : World) (hA : IntsC w a l) (h0 : ∀ i, i < l.length → 0 ≤ gi l i) :
    Calls Try.prog 34 #[.slice a l.length ca] w fun e w' => e = .returned (.int .i64 l.length) ∧ w' = w := by
  obtain ⟨hl64, blk, off, hadr, hc⟩ := hA
  have HC := Lib.hid hc
  have H0 := Lib.hid h0
  have HL : Hid (0 < l.length → a = some ⟨blk, off, none⟩) := Lib.hid fun h => hadr (pos_ne (n := 0) h)
  clear hc hadr h0
  go_enter Try.func34, Try.ntmps34
  go_wp2_with fail
  go_loopw [3, 4] (fun v i wr => ∃ k : Nat, k ≤ l.length ∧ i = .int .i64 k ∧ v = .int .i64 k ∧ wr = w) (fun _ i _ => l.length - (intOf i).toNat)
  case atStart => exact ⟨0, Nat.zero_le _, rfl, rfl, rfl⟩
  case round =>
    obtain ⟨k, hk, rfl, rfl, rfl⟩ := hrel
    by_cases hlt : k < l.length
    · obtain rfl := HL.out (by omega)
      have c0 := HC.out k hlt
      have h1 := H0.out k hlt
      clear HC H0 HL
      generalize gi l k = x at *
      have d1 : decide ((0 : Int) ≤ x) = true := decide_eq_true h1
      go_wp2_with fail
      go_roundw
      case rel => exact ⟨k + 1, by omega, by go_num, by go_num, by first | rfl | trivial⟩
      case measure => simp [intOf]; omega
    · obtain rfl : k = l.length := by omega
      go_wp2_with fail
      go_ret
      exact ⟨rfl, rfl⟩
set_option maxRecDepth 100000 in
set_option maxHeartbeats 2000000 in
theorem refPlans_ok (ja : Option Addr) (js : List Jo) (jc : Nat) (na : Option Addr) (ns : List Ni) (nc : Nat) (a : Option Addr) (l : List Int) (ca : Nat) (w : World) (hJ : JobsS w ja js) (hN : NightsS w na ns) (hA : IntsC w a l) (hg : GoodP (chL js ns) (psL ns) js.length ns.length l) (hsm : js.length ≤ 1000) (he : errL js ns = 0) :
    Calls Try.prog 33 #[.slice ja js.length jc, .slice na ns.length nc, .slice a l.length ca] w fun e w' => e = .returned (.int .i64 0) ∧ Below w.heap.size w w' := by
  have H1 := Lib.hid (refRight_ok ja js jc na ns nc a l ca w hJ hN hA hg hsm he)
  clear hJ hN hA hg he
  go_enter Try.func33, Try.ntmps33
  go_wp2_with fail
  refine H1.out.mono ?_
  rintro e w1 ⟨rfl, hb1⟩
  go_wp2_with fail
  go_ret
  exact ⟨rfl, hb1⟩
set_option maxRecDepth 100000 in
set_option maxHeartbeats 2000000 in
theorem refDone_ok (ja : Option Addr) (js : List Jo) (jc : Nat) (na : Option Addr) (ns : List Ni) (nc : Nat) (a : Option Addr) (l : List Int) (ca : Nat) (w : World) (hJ : JobsS w ja js) (hN : NightsS w na ns) (hA : IntsC w a l) (hg : GoodP (chL js ns) (psL ns) js.length ns.length l) (hsm : js.length ≤ 1000) (he : errL js ns = 0) (h0 : ∀ i, i < l.length → 0 ≤ gi l i) :
    Calls Try.prog 12 #[.slice ja js.length jc, .slice na ns.length nc, .slice a l.length ca] w fun e w' => e = .returned (.tuple #[.int .i64 js.length, .int .i64 0]) ∧ Below w.heap.size w w' := by
  have H1 := Lib.hid (refPlans_ok ja js jc na ns nc a l ca w hJ hN hA hg hsm he)
  have H2 := Lib.hid (fun W (hW : Below w.heap.size w W) => refDone_all a l ca W (hA.below hW) h0)
  have hlen := Lib.hid hg.len
  clear hJ hN hA hg he h0
  go_enter Try.func12, Try.ntmps12
  go_wp2_with fail
  refine H1.out.mono ?_
  rintro e w1 ⟨rfl, hb1⟩
  go_wp2_with fail
  refine (H2.out _ hb1).mono ?_
  rintro e w2 ⟨rfl, rfl⟩
  rw [hlen.out]
  go_wp2_with fail
  go_ret2
  exact ⟨rfl, hb1⟩
end Go.Proofs.Ytghlhjiomebmhaa
