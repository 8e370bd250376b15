/-
  Right and Done of the reference of package night, at a plan that is right and complete. By an AI agent.; No right plan does more jobs than the search of package night finds: plain mathematics. By an AI agent.; One more night, job, place or day, and the greatest number of jobs of package night: plain mathematics. By an AI agent.; planned, right, Right, plans, done and Done of the reference of package night, at any plan. By an AI agent.
-/
import Derived.Test.YtghlhjiomebmhaaMgNightRight13
import Derived.Test.YtghlhjiomebmhaaMgNightRight14
import Derived.Deep.RegionHeld3
import Derived.BigQuiet
import Derived.StillTailTactics

namespace Go.Proofs.Ytghlhjiomebmhaa
set_option linter.unusedVariables false
set_option linter.unusedSimpArgs false
open Go.RowKit

set_option maxRecDepth 100000 in
set_option maxHeartbeats 2000000 in
theorem planned_ok (ja : Option Addr) (js : List Jo) (jc : Nat) (na : Option Addr) (ns : List Ni) (nc : Nat) (a : Option Addr) (l : List Int) (ca : Nat) (w : World) (hJ : JobsS w ja js) (hN : NightsS w na ns) (hA : IntsC w a l) (hg : GoodP (chL js ns) (psL ns) js.length ns.length l) :
    Calls Try.prog 29 #[.slice ja js.length jc, .slice na ns.length nc, .slice a l.length ca] w fun e w' => e = .returned (.bool true) ∧ w' = w := by
  have hlen := hg.len
  have HE : Hid (∀ i, i < l.length → -1 ≤ gi l i ∧ gi l i < ns.length) := Lib.hid fun i hi => by
    rcases hg.ent i (by omega) with h | ⟨m, h, hm, _⟩ <;> omega
  obtain ⟨hl64, blk, off, hadr, hc⟩ := hA
  have HC := Lib.hid hc
  have HL : Hid (0 < l.length → a = some ⟨blk, off, none⟩) := Lib.hid fun h => hadr (pos_ne (n := 0) h)
  have hel : ((l.length : Int) == (js.length : Int)) = true := by rw [hlen]; simp
  clear hc hadr hg hJ hN hlen
  go_enter Try.func29, Try.ntmps29
  go_wp2_with fail
  go_loopw [7] (fun i wr => ∃ k : Nat, k ≤ l.length ∧ i = .int .i64 k ∧ wr = w) (fun i _ => l.length - (intOf i).toNat)
  case atStart => exact ⟨0, Nat.zero_le _, rfl, rfl⟩
  case round =>
    obtain ⟨k, hk, rfl, rfl⟩ := hrel
    by_cases hlt : k < l.length
    · obtain rfl := HL.out (by omega)
      have c0 := HC.out k hlt
      obtain ⟨h1, h2⟩ := HE.out k hlt
      clear HC HE HL
      generalize gi l k = x at *
      have d1 : decide (x < -1) = false := decide_eq_false (by omega)
      have d2 : decide ((ns.length : Int) ≤ x) = false := decide_eq_false (by omega)
      go_wp2_with fail
      go_roundw
      case rel => exact ⟨k + 1, by omega, by go_num, by first | rfl | trivial⟩
      case measure => simp [intOf]; omega
    · obtain rfl : k = l.length := by omega
      go_wp2_with fail
      go_ret
      exact ⟨by simp_all, rfl⟩
set_option maxRecDepth 100000 in
set_option maxHeartbeats 4000000 in
theorem right_ok (ja : Option Addr) (js : List Jo) (jc : Nat) (na : Option Addr) (ns : List Ni) (nc : Nat) (a : Option Addr) (l : List Int) (ca : Nat) (w : World) (hJ : JobsS w ja js) (hN : NightsS w na ns) (hA : IntsC w a l) (hg : GoodP (chL js ns) (psL ns) js.length ns.length l) (hsm : js.length ≤ 1000) :
    Calls Try.prog 30 #[.slice ja js.length jc, .slice na ns.length nc, .slice a l.length ca] w fun e w' => e = .returned (.bool true) ∧ Below w.heap.size w w' := by
  have hlen := hg.len
  have hlenH := Lib.hid hlen
  have HF : Hid (∀ q k : Nat, q < l.length → k < ns.length → gi l q = k → fitB (gj js q) (gn ns k) = true) := Lib.hid fun q k hq hk h => by
    rcases hg.ent q (by omega) with h1 | ⟨m, h1, h2, h3⟩
    · omega
    · rw [gr_chL js ns (by omega)] at h3
      obtain ⟨m', e1, e2, e3⟩ := selK_mem _ _ _ h3
      obtain rfl : k = m' := by omega
      exact e3
  have HP : Hid (∀ k : Nat, k < ns.length → (cK (fun i => gi l i == (k : Int)) l.length : Int) ≤ (gn ns k).p) := Lib.hid fun k hk => by
    have := hg.cap k hk
    rw [cntN_cK, gi_psL ns hk] at this
    exact this
  have HS : Hid (∀ (k q : Nat), cK (fun i => gi l i == (k : Int)) (q + 1) = cK (fun i => gi l i == (k : Int)) q + (if (gi l q == (k : Int)) = true then 1 else 0)) := Lib.hid fun k q => rfl
  have HS0 : Hid (∀ k : Nat, cK (fun i => gi l i == (k : Int)) 0 = 0) := Lib.hid fun k => rfl
  have HSl : Hid (∀ (k q : Nat), cK (fun i => gi l i == (k : Int)) q ≤ q) := Lib.hid fun k q => by
    have := cK_not (fun i => gi l i == (k : Int)) q
    omega
  have hl2 := hN.1
  obtain ⟨jb, jo, HJa, HJc⟩ := jobs_cells hJ
  obtain ⟨nb, no, HNa, HNc⟩ := nights_cells hN
  obtain ⟨hl64, blk, off, hadr, hc⟩ := hA
  have HC := Lib.hid hc
  have HL : Hid (0 < l.length → a = some ⟨blk, off, none⟩) := Lib.hid fun h => hadr (pos_ne (n := 0) h)
  clear hc hadr hg hJ hN hlen
  go_enter Try.func30, Try.ntmps30
  go_wp2_with fail
  go_loopw [7] (fun i wr => ∃ k : Nat, k ≤ ns.length ∧ i = .int .i64 k ∧ Below w.heap.size w wr) (fun i _ => ns.length - (intOf i).toNat)
  case atStart => exact ⟨0, Nat.zero_le _, rfl, Below.refl _ _⟩
  case round =>
    obtain ⟨k, hk, rfl, hb⟩ := hrel
    by_cases hlt : k < ns.length
    · obtain rfl := HNa.out (by omega)
      obtain ⟨d0, d1, d2, d3, d4, d5, d6, d7⟩ := HNc.out k hlt
      have HFk := Lib.hid (fun q hq => HF.out q k hq hlt)
      have hPk := HP.out k hlt
      have HSk := Lib.hid (HS.out k)
      have HS0k := Lib.hid (HS0.out k)
      have HSlk := Lib.hid (HSl.out k)
      clear HNa HNc HF HP HS HS0 HSl
      generalize gn ns k = s at *
      generalize cK (fun i => gi l i == (k : Int)) = cc at *
      have k3 : decide ((0 : Int) ≤ k) = true := decide_eq_true (by omega)
      have k4 : decide ((k : Int) < ns.length) = true := decide_eq_true (by omega)
      go_wp2_with fail
      obtain ⟨wo, rfl⟩ : ∃ wo : World, wo = wr := ⟨_, rfl⟩
      go_loopw [8, 9] (fun v i wr => ∃ q : Nat, q ≤ l.length ∧ i = .int .i64 q ∧ v = .int .i64 (cc q) ∧ Below w.heap.size w wr) (fun _ i _ => l.length - (intOf i).toNat)
      case atStart => exact ⟨0, Nat.zero_le _, rfl, by rw [HS0k.out]; rfl, hb⟩
      case round =>
        obtain ⟨q, hq, rfl, rfl, hb⟩ := hrel
        by_cases hlq : q < l.length
        · have hqj : q < js.length := by rw [← hlenH.out]; exact hlq
          have hls : l.length ≤ 1000 := by rw [hlenH.out]; exact hsm
          obtain rfl := HL.out (by omega)
          obtain rfl := HJa.out (by omega)
          obtain ⟨c0, c1, c2, c3, c4, c5, c6, c7⟩ := HJc.out q hqj
          have e0 := HC.out q hlq
          have hfq := Lib.hid (HFk.out q hlq)
          have hSq := Lib.hid (HSk.out q)
          have hcl := HSlk.out q
          clear HFk HSk HS0k HSlk HL HJa HJc HC
          generalize gj js q = j at *
          generalize gi l q = y at *
          have e0 := cell_below e0 hb
          have c0 := cell_below c0 hb
          have c1 := cell_below c1 hb
          have c2 := cell_below c2 hb
          have c3 := cell_below c3 hb
          have c4 := cell_below c4 hb
          have c5 := cell_below c5 hb
          have c6 := cell_below c6 hb
          have c7 := cell_below c7 hb
          have d0 := cell_below d0 hb
          have d1 := cell_below d1 hb
          have d2 := cell_below d2 hb
          have d3 := cell_below d3 hb
          have d4 := cell_below d4 hb
          have d5 := cell_below d5 hb
          have d6 := cell_below d6 hb
          have d7 := cell_below d7 hb
          have k1 : decide ((0 : Int) ≤ q) = true := decide_eq_true (by omega)
          have k2 : decide ((q : Int) < js.length) = true := decide_eq_true (by omega)
          by_cases hy : y = k
          · have hyd : (y == (k : Int)) = true := by simpa using hy
            have hyd2 : (y != (k : Int)) = false := by simp [hy]
            have hc1 : Hid (((cc (q + 1) : Nat) : Int) = (cc q : Int) + 1) := Lib.hid (by rw [hSq.out, if_pos hyd]; omega)
            have hfit := hfq.out hy
            have HFt := Lib.hid (fun W => refFits_r j s W)
            rw [hfit] at HFt
            have hwc : IntKind.i64.wrap ((cc q : Int) + 1) = cc q + 1 := IntWalk.i64_in _ (by omega)
            clear hSq hfq hfit hy
            go_wp2_with fail
            go_still_tail 8, (by kernel_rfl)
            change wpList _ _ _ _ _ wr.drew
            have hb := hb.drew
            generalize wr.drew = wq at hb ⊢
            clear c0 c1 c2 c3 c4 c5 c6 c7 d0 d1 d2 d3 d4 d5 d6 d7 e0
            go_wp2_with fail
            refine (HFt.out _).mono ?_
            rintro e w1 ⟨rfl, hb1⟩
            go_wp2_with fail
            go_roundw
            case rel => exact ⟨q + 1, by omega, by go_num, by rw [hc1.out], below_onN hb hb1 hb.size⟩
            case measure => simp [intOf]; omega
          · have hyd : (y == (k : Int)) = false := beq_false_of_ne hy
            have hc1 : Hid (cc (q + 1) = cc q) := Lib.hid (by rw [hSq.out, if_neg (by rw [hyd]; decide)]; rfl)
            clear hSq hfq hy
            go_wp2_with fail
            go_roundw
            case rel => exact ⟨q + 1, by omega, by go_num, by rw [hc1.out], hb⟩
            case measure => simp [intOf]; omega
        · obtain rfl : q = l.length := by omega
          have d5 := cell_below d5 hb
          have dle : decide (s.p < (cc l.length : Int)) = false := decide_eq_false (by omega)
          clear HFk HSk HS0k HSlk HL HJa HJc HC
          go_wp2_with fail
          go_roundw
          case rel => exact ⟨k + 1, by omega, by go_num, hb⟩
          case measure => simp [intOf]; omega
    · obtain rfl : k = ns.length := by omega
      go_wp2_with fail
      go_ret
      exact ⟨rfl, hb⟩
set_option maxRecDepth 100000 in
set_option maxHeartbeats 2000000 in
theorem refRight_ok (ja : Option Addr) (js : List Jo) (jc : Nat) (na : Option Addr) (ns : List Ni) (nc : Nat) (a : Option Addr) (l : List Int) (ca : Nat) (w : World) (hJ : JobsS w ja js) (hN : NightsS w na ns) (hA : IntsC w a l) (hg : GoodP (chL js ns) (psL ns) js.length ns.length l) (hsm : js.length ≤ 1000) (he : errL js ns = 0) :
    Calls Try.prog 10 #[.slice ja js.length jc, .slice na ns.length nc, .slice a l.length ca] w fun e w' => e = .returned (.tuple #[.bool true, .int .i64 0]) ∧ Below w.heap.size w w' := by
  have H1 := Lib.hid (wrong_r ja js jc na ns nc w hJ hN)
  rw [he] at H1
  have H2 := Lib.hid (fun W (hW : Below w.heap.size w W) => planned_ok ja js jc na ns nc a l ca W (hJ.below hW) (hN.below hW) (hA.below hW) hg)
  have H3 := Lib.hid (fun W (hW : Below w.heap.size w W) => right_ok ja js jc na ns nc a l ca W (hJ.below hW) (hN.below hW) (hA.below hW) hg hsm)
  clear hJ hN hA hg he
  go_enter Try.func10, Try.ntmps10
  go_wp2_with fail
  refine H1.out.mono ?_
  rintro e w1 ⟨rfl, hb1⟩
  go_wp2_with fail
  refine (H2.out _ hb1).mono ?_
  rintro e w2 ⟨rfl, rfl⟩
  go_wp2_with fail
  refine (H3.out _ hb1).mono ?_
  rintro e w3 ⟨rfl, hb3⟩
  go_wp2_with fail
  go_ret2
  exact ⟨rfl, below_onN hb1 hb3 hb1.size⟩
set_option maxRecDepth 100000 in
set_option maxHeartbeats 2000000 in
theorem refDone_all (a : Option Addr) (l : List Int) (ca : Nat) (w : World) (hA : IntsC w a l) (h0 : ∀ i, i < l.length → 0 ≤ gi l i) :
    Calls Try.prog 34 #[.slice a l.length ca] w fun e w' => e = .returned (.int .i64 l.length) ∧ w' = w := by
  obtain ⟨hl64, blk, off, hadr, hc⟩ := hA
  have HC := Lib.hid hc
  have H0 := Lib.hid h0
  have HL : Hid (0 < l.length → a = some ⟨blk, off, none⟩) := Lib.hid fun h => hadr (pos_ne (n := 0) h)
  clear hc hadr h0
  go_enter Try.func34, Try.ntmps34
  go_wp2_with fail
  go_loopw [3, 4] (fun v i wr => ∃ k : Nat, k ≤ l.length ∧ i = .int .i64 k ∧ v = .int .i64 k ∧ wr = w) (fun _ i _ => l.length - (intOf i).toNat)
  case atStart => exact ⟨0, Nat.zero_le _, rfl, rfl, rfl⟩
  case round =>
    obtain ⟨k, hk, rfl, rfl, rfl⟩ := hrel
    by_cases hlt : k < l.length
    · obtain rfl := HL.out (by omega)
      have c0 := HC.out k hlt
      have h1 := H0.out k hlt
      clear HC H0 HL
      generalize gi l k = x at *
      have d1 : decide ((0 : Int) ≤ x) = true := decide_eq_true h1
      go_wp2_with fail
      go_roundw
      case rel => exact ⟨k + 1, by omega, by go_num, by go_num, by first | rfl | trivial⟩
      case measure => simp [intOf]; omega
    · obtain rfl : k = l.length := by omega
      go_wp2_with fail
      go_ret
      exact ⟨rfl, rfl⟩
set_option maxRecDepth 100000 in
set_option maxHeartbeats 2000000 in
theorem refPlans_ok (ja : Option Addr) (js : List Jo) (jc : Nat) (na : Option Addr) (ns : List Ni) (nc : Nat) (a : Option Addr) (l : List Int) (ca : Nat) (w : World) (hJ : JobsS w ja js) (hN : NightsS w na ns) (hA : IntsC w a l) (hg : GoodP (chL js ns) (psL ns) js.length ns.length l) (hsm : js.length ≤ 1000) (he : errL js ns = 0) :
    Calls Try.prog 33 #[.slice ja js.length jc, .slice na ns.length nc, .slice a l.length ca] w fun e w' => e = .returned (.int .i64 0) ∧ Below w.heap.size w w' := by
  have H1 := Lib.hid (refRight_ok ja js jc na ns nc a l ca w hJ hN hA hg hsm he)
  clear hJ hN hA hg he
  go_enter Try.func33, Try.ntmps33
  go_wp2_with fail
  refine H1.out.mono ?_
  rintro e w1 ⟨rfl, hb1⟩
  go_wp2_with fail
  go_ret
  exact ⟨rfl, hb1⟩
set_option maxRecDepth 100000 in
set_option maxHeartbeats 2000000 in
theorem refDone_ok (ja : Option Addr) (js : List Jo) (jc : Nat) (na : Option Addr) (ns : List Ni) (nc : Nat) (a : Option Addr) (l : List Int) (ca : Nat) (w : World) (hJ : JobsS w ja js) (hN : NightsS w na ns) (hA : IntsC w a l) (hg : GoodP (chL js ns) (psL ns) js.length ns.length l) (hsm : js.length ≤ 1000) (he : errL js ns = 0) (h0 : ∀ i, i < l.length → 0 ≤ gi l i) :
    Calls Try.prog 12 #[.slice ja js.length jc, .slice na ns.length nc, .slice a l.length ca] w fun e w' => e = .returned (.tuple #[.int .i64 js.length, .int .i64 0]) ∧ Below w.heap.size w w' := by
  have H1 := Lib.hid (refPlans_ok ja js jc na ns nc a l ca w hJ hN hA hg hsm he)
  have H2 := Lib.hid (fun W (hW : Below w.heap.size w W) => refDone_all a l ca W (hA.below hW) h0)
  have hlen := Lib.hid hg.len
  clear hJ hN hA hg he h0
  go_enter Try.func12, Try.ntmps12
  go_wp2_with fail
  refine H1.out.mono ?_
  rintro e w1 ⟨rfl, hb1⟩
  go_wp2_with fail
  refine (H2.out _ hb1).mono ?_
  rintro e w2 ⟨rfl, rfl⟩
  rw [hlen.out]
  go_wp2_with fail
  go_ret2
  exact ⟨rfl, hb1⟩
end Go.Proofs.Ytghlhjiomebmhaa

namespace Go.Proofs.Ytghlhjiomebmhaa
set_option linter.unusedVariables false
set_option linter.unusedSimpArgs false
open Go.RowKit

theorem cK_add {f g : Nat → Bool} : ∀ n, (∀ i, i < n → f i = true → g i = false) → cK (fun i => f i || g i) n = cK f n + cK g n
  | 0, _ => rfl
  | k + 1, h => by
    have ih := cK_add (f := f) (g := g) k (fun i hi => h i (by omega))
    have h1 := h k (by omega)
    unfold cK
    rw [ih]
    cases e : f k <;> cases e2 : g k <;> simp_all <;> omega
/-- The nights that were tried for some job that is left. -/
def allT (C : List (List Int)) (P : List Int) (L N : Nat) (p : List Int) : Int → Bool := fun x => anyK (fun u => (gi p u == -1) && (plF C P 0 (N + 1) u p noT).2.2 x) L
theorem anyK_ex {f : Nat → Bool} : ∀ n, anyK f n = true → ∃ u, u < n ∧ f u = true
  | 0, h => by cases h
  | k + 1, h => by
    unfold anyK at h
    rw [Bool.or_eq_true] at h
    rcases h with h | h
    · obtain ⟨u, h1, h2⟩ := anyK_ex k h; exact ⟨u, by omega, h2⟩
    · exact ⟨k, by omega, h⟩
/-- All jobs that are left, and those that have one of these nights, have no other choices. -/
theorem allT_closed {C : List (List Int)} {P : List Int} {L N : Nat} (hE : ∀ i, i < L → ∀ j, j < (gr C i).length → ∃ m : Nat, gi (gr C i) j = m ∧ m < N) {p : List Int} (hg : GoodP C P L N p) (hf : ∀ u, u < L → gi p u = -1 → (plF C P 0 (N + 1) u p noT).1 = false) :
    Closed C P L N (allT C P L N p) p ∧ ∀ u, u < L → gi p u = -1 → ∀ x, x ∈ gr C u → allT C P L N p x = true := by
  have hex : ∀ x, allT C P L N p x = true → ∃ u, u < L ∧ gi p u = -1 ∧ (plF C P 0 (N + 1) u p noT).2.2 x = true := fun x h => by
    obtain ⟨u, h1, h2⟩ := anyK_ex L h
    rw [Bool.and_eq_true] at h2
    exact ⟨u, h1, by simpa using h2.1, h2.2⟩
  have hin : ∀ u x, u < L → gi p u = -1 → (plF C P 0 (N + 1) u p noT).2.2 x = true → allT C P L N p x = true := fun u x h1 h2 h3 => anyK_true (j := u) (by rw [h2, h3]; rfl) _ h1
  have hc := fun u hu hn => closed_of hE (k := u) hu hg (hf u hu hn)
  refine ⟨⟨?_, fun m hm hT => ?_, fun k hk hT x hx => ?_⟩, fun u hu hn x hx => hin u x hu hn ((hc u hu hn).2 x hx)⟩
  · cases e : allT C P L N p (-1) with
    | false => rfl
    | true =>
      obtain ⟨u, h1, h2, h3⟩ := hex _ e
      rw [(hc u h1 h2).1.neg] at h3; cases h3
  · obtain ⟨u, h1, h2, h3⟩ := hex _ hT
    exact (hc u h1 h2).1.full m hm h3
  · obtain ⟨u, h1, h2, h3⟩ := hex _ hT
    exact hin u x h1 h2 ((hc u h1 h2).1.clo k hk h3 x hx)
/-- A plan all of whose jobs that are left, with what holds them up, are closed in, does as many jobs as any. -/
theorem done_max {C : List (List Int)} {P : List Int} {L N : Nat} {p q : List Int} {T : Int → Bool} (hp : GoodP C P L N p) (hq : GoodP C P L N q) (hc : Closed C P L N T p) (hu : ∀ u, u < L → gi p u = -1 → ∀ x, x ∈ gr C u → T x = true) : dnN q ≤ dnN p := by
  have e1 : dnN q = L - (cK (fun i => gi q i == -1) L : Nat) := by unfold dnN; rw [cntN_cK, hq.len]
  have e2 : dnN p = L - (cK (fun i => gi p i == -1) L : Nat) := by unfold dnN; rw [cntN_cK, hp.len]
  have h1 := cK_not (fun i => gi q i == -1) L
  -- the jobs that are left or lie in these nights
  have h2 := cK_add (f := fun i => gi p i == -1) (g := fun i => T (gi p i)) L (fun i _ h => by
    have : gi p i = -1 := by simpa using h
    rw [this]; exact hc.neg)
  have h3 := cK_not (fun i => (gi p i == -1) || T (gi p i)) L
  have h4 : cK (fun i => !(gi q i == -1)) L ≤ cK (fun i => !((gi p i == -1) || T (gi p i)) || (((gi p i == -1) || T (gi p i)) && !(gi q i == -1))) L := cK_le _ fun i _ h => by
    cases ((gi p i == -1) || T (gi p i)) <;> simp_all
  have h5 := cK_or (fun i => !((gi p i == -1) || T (gi p i))) (fun i => ((gi p i == -1) || T (gi p i)) && !(gi q i == -1)) L
  have h6 : cK (fun i => ((gi p i == -1) || T (gi p i)) && !(gi q i == -1)) L ≤ sumW (fun m => T (m : Int)) (fun m => cK (fun i => gi q i == (m : Int)) L) N := cK_sum (p := fun i => gi q i) L fun i hi h => by
    rw [Bool.and_eq_true, Bool.or_eq_true] at h
    rcases hq.ent i hi with e | ⟨m, e, hm, hmC⟩
    · rw [e] at h; simp at h
    · refine ⟨m, e, hm, ?_⟩
      rcases h.1 with hA | hA
      · exact hu i hi (by simpa using hA) _ hmC
      · exact hc.clo i hi hA _ hmC
  have h7 : sumW (fun m => T (m : Int)) (fun m => cK (fun i => gi q i == (m : Int)) L) N ≤ sumW (fun m => T (m : Int)) (fun m => cK (fun i => gi p i == (m : Int)) L) N := sumW_imp _ fun m hm hT => ⟨hT, by
    have c1 := hq.cap m hm
    have c2 := hc.full m hm hT
    rw [cntN_cK, hq.len] at c1
    rw [cntN_cK, hp.len] at c2
    omega⟩
  have h8 := sumW_cK T (fun i => gi p i) N L
  omega
/-- Most is the greatest number of jobs that a right plan does. -/
theorem most_max {js : List Jo} {ns : List Ni} (hps : ∀ i, i < ns.length → 0 ≤ (gn ns i).p) {q : List Int} (hq : GoodP (chL js ns) (psL ns) js.length ns.length q) : dnN q ≤ mostN js ns := by
  have hE : ∀ i, i < js.length → ∀ j, j < (gr (chL js ns) i).length → ∃ m : Nat, gi (gr (chL js ns) i) j = m ∧ m < ns.length := fun i hi j hj => by
    rw [gr_chL js ns hi] at hj ⊢
    obtain ⟨m, h1, h2, _⟩ := selK_gi _ _ hj
    exact ⟨m, h1, h2⟩
  have hg := grtL_good (js := js) (ns := ns) hps
  have hf : ∀ u, u < js.length → gi (grtL js ns) u = -1 → (plF (chL js ns) (psL ns) 0 (ns.length + 1) u (grtL js ns) noT).1 = false := fun u hu hn => grt_final hE (good_none (fun m hm => by rw [gi_psL ns hm]; exact hps m hm)) hu hn
  obtain ⟨h1, h2⟩ := allT_closed hE hg hf
  exact done_max hg hq h1 h2
end Go.Proofs.Ytghlhjiomebmhaa

namespace Go.Proofs.Ytghlhjiomebmhaa
set_option linter.unusedVariables false
set_option linter.unusedSimpArgs false
open Go.RowKit

theorem cntN_zero {C : List (List Int)} {P : List Int} {L N : Nat} {p : List Int} (hg : GoodP C P L N p) {m : Nat} (hm : N ≤ m) : cntN p m = 0 := by
  rw [cntN_cK, cK_zero]
  · rfl
  · intro i hi
    refine beq_false_of_ne fun e => ?_
    rcases hg.ent i (by rw [← hg.len]; exact hi) with h | ⟨m', h, h2, _⟩ <;> omega
theorem good_mono {C C' : List (List Int)} {P P' : List Int} {L N N' : Nat} {p : List Int} (hN : N ≤ N') (hC : ∀ i, i < L → ∀ m : Nat, m < N → (m : Int) ∈ gr C i → (m : Int) ∈ gr C' i) (hP : ∀ m, m < N → gi P m ≤ gi P' m) (hP0 : ∀ m, N ≤ m → m < N' → 0 ≤ gi P' m) (hg : GoodP C P L N p) : GoodP C' P' L N' p := by
  refine ⟨hg.len, fun i hi => ?_, fun m hm => ?_⟩
  · rcases hg.ent i hi with h | ⟨m, h, h2, h3⟩
    · exact .inl h
    · exact .inr ⟨m, h, by omega, hC i hi m h2 h3⟩
  · by_cases e : m < N
    · have h1 := hg.cap m e
      have h2 := hP m e
      omega
    · rw [cntN_zero hg (by omega)]
      exact hP0 m (by omega) hm
theorem cnt_drop {q : List Int} {k : Nat} (hk : k < q.length) (m : Nat) : cntN (q.set k (-1)) m ≤ cntN q m ∧ (gi q k = m → cntN (q.set k (-1)) m < cntN q m) := by
  rw [cntN_cK, cntN_cK, List.length_set]
  have himp : ∀ i, i < q.length → (gi (q.set k (-1)) i == (m : Int)) = true → (gi q i == (m : Int)) = true := fun i hi h => by
    rw [gi_set q k (-1) i hk] at h
    by_cases e : i = k
    · rw [if_pos e] at h; simp at h
    · rw [if_neg e] at h; exact h
  refine ⟨?_, fun hm => ?_⟩
  · have := cK_le (f := fun i => gi (q.set k (-1)) i == (m : Int)) (g := fun i => gi q i == (m : Int)) q.length himp
    omega
  · have := cK_lt (f := fun i => gi (q.set k (-1)) i == (m : Int)) (g := fun i => gi q i == (m : Int)) (j := k) (by
      simp only [gi_set q k (-1) k hk, if_pos]; exact beq_false_of_ne (by omega)) (by simp [hm]) q.length hk himp
    omega
theorem dn_drop {q : List Int} {k : Nat} (hk : k < q.length) : dnN q ≤ dnN (q.set k (-1)) + 1 := by
  unfold dnN
  rw [cntN_cK, cntN_cK, List.length_set]
  have := cK_one (f := fun i => gi (q.set k (-1)) i == -1) (g := fun i => gi q i == -1) (j := k) q.length fun i hi hne h => by
    simp only [gi_set q k (-1) i hk, if_neg hne] at h; exact h
  omega
theorem good_drop {C C' : List (List Int)} {P P' : List Int} {L N : Nat} {q : List Int} {k : Nat} (hk : k < L) (hC : ∀ i, i < L → i ≠ k → ∀ m : Nat, m < N → (m : Int) ∈ gr C i → (m : Int) ∈ gr C' i) (hP : ∀ m : Nat, m < N → cntN (q.set k (-1)) m ≤ gi P' m) (hg : GoodP C P L N q) : GoodP C' P' L N (q.set k (-1)) ∧ dnN q ≤ dnN (q.set k (-1)) + 1 := by
  have hkq : k < q.length := by rw [hg.len]; exact hk
  refine ⟨⟨by rw [List.length_set]; exact hg.len, fun i hi => ?_, hP⟩, dn_drop hkq⟩
  rw [gi_set q k (-1) i hkq]
  by_cases e : i = k
  · rw [if_pos e]; exact .inl rfl
  · rw [if_neg e]
    rcases hg.ent i hi with h | ⟨m, h, h2, h3⟩
    · exact .inl h
    · exact .inr ⟨m, h, h2, hC i hi e m h2 h3⟩
theorem mem_row {ns : List Ni} {j : Jo} {m : Nat} : (m : Int) ∈ rowF ns j ↔ m < ns.length ∧ fitB j (gn ns m) = true := by
  constructor
  · intro h
    obtain ⟨m', e, h1, h2⟩ := selK_mem _ _ _ h
    obtain rfl : m = m' := by omega
    exact ⟨h1, h2⟩
  · intro ⟨h1, h2⟩; exact mem_selK _ m h1 h2
theorem most_good (js : List Jo) (ns : List Ni) (hps : ∀ i, i < ns.length → 0 ≤ (gn ns i).p) : ∃ p, GoodP (chL js ns) (psL ns) js.length ns.length p ∧ dnN p = mostN js ns := ⟨grtL js ns, grtL_good hps, rfl⟩
theorem gn_app (ns : List Ni) (x : Ni) (m : Nat) : gn (ns ++ [x]) m = if m < ns.length then gn ns m else if m = ns.length then x else gn ns m := by
  unfold gn
  rw [List.getD_eq_getElem?_getD, List.getD_eq_getElem?_getD, List.getElem?_append]
  by_cases h : m < ns.length
  · rw [if_pos h, if_pos h]
  · rw [if_neg h, if_neg h]
    by_cases e : m = ns.length
    · subst e; simp
    · rw [if_neg e]
      rw [List.getElem?_eq_none (by simp; omega), List.getElem?_eq_none (by omega)]
theorem gj_app (js : List Jo) (x : Jo) (m : Nat) : gj (js ++ [x]) m = if m < js.length then gj js m else if m = js.length then x else gj js m := by
  unfold gj
  rw [List.getD_eq_getElem?_getD, List.getD_eq_getElem?_getD, List.getElem?_append]
  by_cases h : m < js.length
  · rw [if_pos h, if_pos h]
  · rw [if_neg h, if_neg h]
    by_cases e : m = js.length
    · subst e; simp
    · rw [if_neg e]
      rw [List.getElem?_eq_none (by simp; omega), List.getElem?_eq_none (by omega)]
/-- One more night never makes it less. -/
theorem most_night {js : List Jo} {ns : List Ni} {x : Ni} (hps : ∀ i, i < ns.length → 0 ≤ (gn ns i).p) (hx : 0 ≤ x.p) : mostN js ns ≤ mostN js (ns ++ [x]) := by
  obtain ⟨p, hg, hd⟩ := most_good js ns hps
  have hps2 : ∀ i, i < (ns ++ [x]).length → 0 ≤ (gn (ns ++ [x]) i).p := fun i hi => by
    rw [gn_app]
    split
    · exact hps i (by assumption)
    · split
      · exact hx
      · simp at hi; omega
  rw [← hd]
  refine most_max hps2 (good_mono (by simp) (fun i hi m hm h => ?_) (fun m hm => ?_) (fun m hm hm2 => ?_) hg)
  · rw [gr_chL _ _ hi] at h ⊢
    rw [mem_row] at h ⊢
    exact ⟨by simp; omega, by rw [gn_app, if_pos hm]; exact h.2⟩
  · rw [gi_psL ns hm, gi_psL (ns ++ [x]) (by simp; omega), gn_app, if_pos hm]; exact Int.le_refl _
  · rw [gi_psL (ns ++ [x]) hm2]; exact hps2 m hm2
/-- One more job makes it greater by at most 1, and never less. -/
theorem most_job {js : List Jo} {ns : List Ni} {x : Jo} (hps : ∀ i, i < ns.length → 0 ≤ (gn ns i).p) : mostN js ns ≤ mostN (js ++ [x]) ns ∧ mostN (js ++ [x]) ns ≤ mostN js ns + 1 := by
  constructor
  · obtain ⟨p, hg, hd⟩ := most_good js ns hps
    have hgi : ∀ i, gi (p ++ [-1]) i = if i < js.length then gi p i else if i = js.length then -1 else 0 := fun i => by rw [gi_app, hg.len]
    have hcnt : ∀ m : Int, m ≠ -1 → cntN (p ++ [-1]) m = cntN p m := fun m hm => by
      rw [cntN_cK, cntN_cK, List.length_append, hg.len]
      show ((cK (fun k => gi (p ++ [-1]) k == m) js.length + (if (gi (p ++ [-1]) js.length == m) = true then 1 else 0) : Nat) : Int) = _
      rw [if_neg (by rw [hgi, if_neg (by omega), if_pos rfl]; simp; omega), cK_congr (g := fun k => gi p k == m) js.length (fun i hi => by rw [hgi, if_pos hi])]
      rfl
    have hg2 : GoodP (chL (js ++ [x]) ns) (psL ns) (js ++ [x]).length ns.length (p ++ [-1]) := by
      refine ⟨by simp [hg.len], fun i hi => ?_, fun m hm => ?_⟩
      · rw [hgi]
        by_cases e : i < js.length
        · rw [if_pos e]
          rcases hg.ent i e with h | ⟨m, h, h2, h3⟩
          · exact .inl h
          · refine .inr ⟨m, h, h2, ?_⟩
            rw [gr_chL _ _ hi, gj_app, if_pos e]
            rw [gr_chL _ _ e] at h3
            exact h3
        · rw [if_neg e, if_pos (by simp at hi; omega)]; exact .inl rfl
      · rw [hcnt m (by omega)]; exact hg.cap m hm
    have h1 := most_max hps hg2
    have h2 : dnN (p ++ [-1]) = dnN p := by
      unfold dnN
      rw [cntN_cK, cntN_cK, List.length_append, hg.len]
      show _ - ((cK (fun k => gi (p ++ [-1]) k == -1) js.length + (if (gi (p ++ [-1]) js.length == -1) = true then 1 else 0) : Nat) : Int) = _
      rw [if_pos (by rw [hgi, if_neg (by omega), if_pos rfl]; rfl), cK_congr (g := fun k => gi p k == -1) js.length (fun i hi => by rw [hgi, if_pos hi])]
      simp; omega
    omega
  · obtain ⟨q, hg, hd⟩ := most_good (js ++ [x]) ns hps
    have hlen : q.length = js.length + 1 := by rw [hg.len]; simp
    have hgi : ∀ i, i < js.length → gi (q.take js.length) i = gi q i := fun i hi => by
      unfold gi
      rw [List.getD_eq_getElem?_getD, List.getD_eq_getElem?_getD, List.getElem?_take, if_pos hi]
    have hl : (q.take js.length).length = js.length := by rw [List.length_take]; omega
    have hcnt : ∀ m : Int, cK (fun k => gi (q.take js.length) k == m) js.length = cK (fun k => gi q k == m) js.length := fun m => cK_congr _ (fun i hi => by rw [hgi i hi])
    have hg2 : GoodP (chL js ns) (psL ns) js.length ns.length (q.take js.length) := by
      refine ⟨hl, fun i hi => ?_, fun m hm => ?_⟩
      · rw [hgi i hi]
        rcases hg.ent i (by simp; omega) with h | ⟨m, h, h2, h3⟩
        · exact .inl h
        · refine .inr ⟨m, h, h2, ?_⟩
          rw [gr_chL _ _ (by simp; omega), gj_app, if_pos hi] at h3
          rw [gr_chL _ _ hi]; exact h3
      · have h1 := hg.cap m hm
        rw [cntN_cK, hlen] at h1
        rw [cntN_cK, hl, hcnt]
        have : cK (fun k => gi q k == (m : Int)) (js.length + 1) = cK (fun k => gi q k == (m : Int)) js.length + (if (gi q js.length == (m : Int)) = true then 1 else 0) := rfl
        omega
    have h1 := most_max hps hg2
    have h2 : dnN q ≤ dnN (q.take js.length) + 1 := by
      unfold dnN
      rw [cntN_cK, cntN_cK, hlen, hl, hcnt]
      have : cK (fun k => gi q k == -1) (js.length + 1) = cK (fun k => gi q k == -1) js.length + (if (gi q js.length == -1) = true then 1 else 0) := rfl
      omega
    omega
/-- One more place, where nothing else changes. -/
theorem most_place {js : List Jo} {ns ns' : List Ni} {i0 : Nat} (hl : ns'.length = ns.length) (hi0 : i0 < ns.length) (hps : ∀ i, i < ns.length → 0 ≤ (gn ns i).p)
    (hfit : ∀ j m, m < ns.length → fitB j (gn ns' m) = fitB j (gn ns m)) (hsame : ∀ m, m < ns.length → m ≠ i0 → (gn ns' m).p = (gn ns m).p) (hp1 : (gn ns i0).p ≤ (gn ns' i0).p) (hp2 : (gn ns' i0).p ≤ (gn ns i0).p + 1) :
    mostN js ns ≤ mostN js ns' ∧ mostN js ns' ≤ mostN js ns + 1 := by
  have hP : ∀ m, m < ns.length → gi (psL ns) m ≤ gi (psL ns') m := fun m hm => by
    rw [gi_psL ns hm, gi_psL ns' (by omega)]
    by_cases e : m = i0
    · subst e; exact hp1
    · rw [hsame m hm e]; exact Int.le_refl _
  have hps' : ∀ i, i < ns'.length → 0 ≤ (gn ns' i).p := fun i hi => by
    have h1 := hP i (by omega)
    rw [gi_psL ns (by omega), gi_psL ns' hi] at h1
    have h2 := hps i (by omega)
    omega
  have hrow : ∀ (i m : Nat), i < js.length → m < ns.length → ((m : Int) ∈ gr (chL js ns) i ↔ (m : Int) ∈ gr (chL js ns') i) := fun i m hi hm => by
    rw [gr_chL _ _ hi, gr_chL _ _ hi, mem_row, mem_row, hfit _ m hm, hl]
  constructor
  · obtain ⟨p, hg, hd⟩ := most_good js ns hps
    rw [← hd]
    have := good_mono (C' := chL js ns') (P' := psL ns') (N' := ns'.length) (by omega) (fun i hi m hm h => (hrow i m hi hm).1 h) hP (fun m h1 h2 => by omega) hg
    exact most_max hps' this
  · obtain ⟨q, hg, hd⟩ := most_good js ns' hps'
    rw [hl] at hg
    by_cases hc : cntN q i0 ≤ (gn ns i0).p
    · have hg2 : GoodP (chL js ns) (psL ns) js.length ns.length q := by
        refine ⟨hg.len, fun i hi => ?_, fun m hm => ?_⟩
        · rcases hg.ent i hi with h | ⟨m, h, h2, h3⟩
          · exact .inl h
          · exact .inr ⟨m, h, h2, (hrow i m hi h2).2 h3⟩
        · rw [gi_psL ns hm]
          by_cases e : m = i0
          · subst e; exact hc
          · have := hg.cap m hm
            rw [gi_psL ns' (by omega), hsame m hm e] at this
            exact this
      have := most_max hps hg2
      omega
    · have hcap := hg.cap i0 hi0
      rw [gi_psL ns' (by omega)] at hcap
      have hpos := hps i0 hi0
      obtain ⟨k, hk, hqk⟩ : ∃ k, k < q.length ∧ gi q k = i0 := by
        apply Classical.byContradiction
        intro hno
        have : cntN q i0 = 0 := by
          rw [cntN_cK, cK_zero]
          · rfl
          · intro i hi; exact beq_false_of_ne fun e => hno ⟨i, hi, e⟩
        omega
      have hkL : k < js.length := by rw [← hg.len]; exact hk
      obtain ⟨hg2, hd2⟩ := good_drop (C' := chL js ns) (P' := psL ns) hkL (fun i hi _ m hm h => (hrow i m hi hm).2 h) (fun m hm => by
        rw [gi_psL ns hm]
        have h1 := cnt_drop hk m
        by_cases e : m = i0
        · subst e; have := h1.2 hqk; omega
        · have h2 := hg.cap m hm
          rw [gi_psL ns' (by omega), hsame m hm e] at h2
          have := h1.1
          omega) hg
      have := most_max hps hg2
      omega
/-- One job fits more nights. -/
theorem most_day {js js' : List Jo} {ns : List Ni} {i0 : Nat} (hl : js'.length = js.length) (hi0 : i0 < js.length) (hps : ∀ i, i < ns.length → 0 ≤ (gn ns i).p)
    (hsame : ∀ i, i < js.length → i ≠ i0 → gj js' i = gj js i) (hfit : ∀ s, nightB s = true → fitB (gj js i0) s = true → fitB (gj js' i0) s = true) (hn : ∀ m, m < ns.length → nightB (gn ns m) = true) :
    mostN js ns ≤ mostN js' ns ∧ mostN js' ns ≤ mostN js ns + 1 := by
  constructor
  · obtain ⟨p, hg, hd⟩ := most_good js ns hps
    rw [← hd]
    have := good_mono (C' := chL js' ns) (P' := psL ns) (N' := ns.length) (Nat.le_refl _) (fun i hi m hm h => by
      rw [gr_chL _ _ hi, mem_row] at h
      rw [gr_chL _ _ (by omega), mem_row]
      refine ⟨hm, ?_⟩
      by_cases e : i = i0
      · subst e; exact hfit _ (hn m hm) h.2
      · rw [hsame i hi e]; exact h.2) (fun m _ => Int.le_refl _) (fun m h1 h2 => by omega) hg
    rw [← hl] at this
    exact most_max hps this
  · obtain ⟨q, hg, hd⟩ := most_good js' ns hps
    rw [hl] at hg
    obtain ⟨hg2, hd2⟩ := good_drop (C' := chL js ns) (P' := psL ns) hi0 (fun i hi hne m hm h => by
      rw [gr_chL _ _ (by omega), mem_row, hsame i hi hne] at h
      rw [gr_chL _ _ hi, mem_row]; exact h) (fun m hm => by
      have h1 := (cnt_drop (q := q) (k := i0) (by rw [hg.len]; exact hi0) m).1
      have h2 := hg.cap m hm
      omega) hg
    have := most_max hps hg2
    omega
end Go.Proofs.Ytghlhjiomebmhaa

namespace Go.Proofs.Ytghlhjiomebmhaa
set_option linter.unusedVariables false
set_option linter.unusedSimpArgs false
open Go.RowKit

/-- Is an element of a plan neither -1 nor a night? -/
def badP (N : Nat) (l : List Int) (i : Nat) : Bool := decide (gi l i < -1) || decide ((N : Int) ≤ gi l i)
/-- Has a plan an element for each job, each -1 or a night? -/
def plnB (L N : Nat) (l : List Int) : Bool := !(anyK (badP N l) l.length) && decide (l.length = L)
/-- Does a job of a plan not fit its night k? -/
def misB (js : List Jo) (ns : List Ni) (l : List Int) (k i : Nat) : Bool := (gi l i == (k : Int)) && !(fitB (gj js i) (gn ns k))
/-- Is something wrong with night k? -/
def badN (js : List Jo) (ns : List Ni) (l : List Int) (k : Nat) : Bool := anyK (misB js ns l k) l.length || decide ((gn ns k).p < (cK (fun i => gi l i == (k : Int)) l.length : Nat))
/-- Is a plan right? -/
def rgtB (js : List Jo) (ns : List Ni) (l : List Int) : Bool := !(anyK (badN js ns l) ns.length)
/-- The error of jobs, nights and a plan that must be right. -/
def plnE (js : List Jo) (ns : List Ni) (l : List Int) : Int := if errL js ns = 0 then (if plnB js.length ns.length l = true then (if rgtB js ns l = true then 0 else 82) else 82) else errL js ns
theorem plnB_iff {L N : Nat} {l : List Int} : plnB L N l = true ↔ l.length = L ∧ ∀ i, i < l.length → -1 ≤ gi l i ∧ gi l i < N := by
  unfold plnB
  rw [Bool.and_eq_true, Bool.not_eq_true', anyK_iff, decide_eq_true_eq]
  constructor
  · rintro ⟨h1, h2⟩
    refine ⟨h2, fun i hi => ?_⟩
    have := h1 i hi
    unfold badP at this
    rw [Bool.or_eq_false_iff, decide_eq_false_iff_not, decide_eq_false_iff_not] at this
    omega
  · rintro ⟨h1, h2⟩
    refine ⟨fun i hi => ?_, h1⟩
    have := h2 i hi
    unfold badP
    rw [Bool.or_eq_false_iff, decide_eq_false_iff_not, decide_eq_false_iff_not]
    omega
theorem rgtB_iff {js : List Jo} {ns : List Ni} {l : List Int} : rgtB js ns l = true ↔ ∀ k, k < ns.length → (∀ i, i < l.length → gi l i = (k : Int) → fitB (gj js i) (gn ns k) = true) ∧ (cK (fun i => gi l i == (k : Int)) l.length : Int) ≤ (gn ns k).p := by
  unfold rgtB
  rw [Bool.not_eq_true', anyK_iff]
  constructor
  · intro h k hk
    have := h k hk
    unfold badN at this
    rw [Bool.or_eq_false_iff, anyK_iff, decide_eq_false_iff_not] at this
    refine ⟨fun i hi e => ?_, by omega⟩
    have h2 := this.1 i hi
    unfold misB at h2
    rw [e] at h2
    simpa using h2
  · intro h k hk
    unfold badN
    rw [Bool.or_eq_false_iff, anyK_iff, decide_eq_false_iff_not]
    refine ⟨fun i hi => ?_, by have := (h k hk).2; omega⟩
    unfold misB
    by_cases e : gi l i = (k : Int)
    · rw [(h k hk).1 i hi e]; simp
    · rw [beq_false_of_ne e]; rfl
/-- A plan is right just where it is good. -/
theorem rgt_good {js : List Jo} {ns : List Ni} {l : List Int} (hp : plnB js.length ns.length l = true) : rgtB js ns l = true ↔ GoodP (chL js ns) (psL ns) js.length ns.length l := by
  obtain ⟨hl, he⟩ := plnB_iff.1 hp
  rw [rgtB_iff]
  constructor
  · intro h
    refine ⟨hl, fun i hi => ?_, fun m hm => ?_⟩
    · have h1 := he i (by omega)
      by_cases e : gi l i = -1
      · exact .inl e
      · obtain ⟨m, hm⟩ : ∃ m : Nat, gi l i = m := ⟨(gi l i).toNat, by omega⟩
        refine .inr ⟨m, hm, by omega, ?_⟩
        rw [gr_chL js ns hi]
        exact mem_row.2 ⟨by omega, (h m (by omega)).1 i (by omega) hm⟩
    · rw [cntN_cK, gi_psL ns hm]; exact (h m hm).2
  · intro hg k hk
    refine ⟨fun i hi e => ?_, by have := hg.cap k hk; rw [cntN_cK, gi_psL ns hk] at this; exact this⟩
    rcases hg.ent i (by omega) with h1 | ⟨m, h1, h2, h3⟩
    · omega
    · obtain rfl : k = m := by omega
      rw [gr_chL js ns (by omega)] at h3
      exact (mem_row.1 h3).2
theorem good_pln {js : List Jo} {ns : List Ni} {l : List Int} (hg : GoodP (chL js ns) (psL ns) js.length ns.length l) : plnB js.length ns.length l = true := plnB_iff.2 ⟨hg.len, fun i hi => by
  rcases hg.ent i (by have := hg.len; omega) with h | ⟨m, h, hm, _⟩ <;> omega⟩
set_option maxRecDepth 100000 in
set_option maxHeartbeats 2000000 in
theorem planned_r (ja : Option Addr) (js : List Jo) (jc : Nat) (na : Option Addr) (ns : List Ni) (nc : Nat) (a : Option Addr) (l : List Int) (ca : Nat) (w : World) (hJ : JobsS w ja js) (hN : NightsS w na ns) (hA : IntsC w a l) :
    Calls Try.prog 29 #[.slice ja js.length jc, .slice na ns.length nc, .slice a l.length ca] w fun e w' => e = .returned (.bool (plnB js.length ns.length l)) ∧ w' = w := by
  have hjl := hJ.1
  have HB : Hid (∀ k, k < l.length → badP ns.length l k = true → plnB js.length ns.length l = false) := Lib.hid fun k hk h => by unfold plnB; rw [anyK_true h _ hk]; rfl
  have HG : Hid ((∀ k, k < l.length → badP ns.length l k = false) → plnB js.length ns.length l = ((l.length : Int) == (js.length : Int))) := Lib.hid fun h => by
    unfold plnB
    rw [anyK_false _ h, Bool.eq_iff_iff]
    simp only [Bool.not_false, Bool.true_and, decide_eq_true_eq, beq_iff_eq]
    omega
  have HD : Hid (∀ k, badP ns.length l k = (decide (gi l k < -1) || decide ((ns.length : Int) ≤ gi l k))) := Lib.hid fun k => rfl
  obtain ⟨hl64, blk, off, hadr, hc⟩ := hA
  have HC := Lib.hid hc
  have HL : Hid (0 < l.length → a = some ⟨blk, off, none⟩) := Lib.hid fun h => hadr (pos_ne (n := 0) h)
  generalize plnB js.length ns.length l = R at *
  clear hc hadr hJ hN
  go_enter Try.func29, Try.ntmps29
  go_wp2_with fail
  go_loopw [7] (fun i wr => ∃ k : Nat, k ≤ l.length ∧ i = .int .i64 k ∧ wr = w ∧ Hid (∀ j, j < k → badP ns.length l j = false)) (fun i _ => l.length - (intOf i).toNat)
  case atStart => exact ⟨0, Nat.zero_le _, rfl, rfl, Lib.hid fun j hj => absurd hj (Nat.not_lt_zero _)⟩
  case round =>
    obtain ⟨k, hk, rfl, rfl, hN⟩ := hrel
    by_cases hlt : k < l.length
    · obtain rfl := HL.out (by omega)
      have c0 := HC.out k hlt
      have HBk := Lib.hid (HB.out k hlt)
      have HDk := Lib.hid (HD.out k)
      have HN1 : Hid (badP ns.length l k = false → ∀ j, j < k + 1 → badP ns.length l j = false) := Lib.hid fun h j hj => by
        by_cases e : j = k
        · subst e; exact h
        · exact hN.out j (by omega)
      clear HC HL HB HG HD hN
      generalize hx : gi l k = x at *
      generalize badP ns.length l k = bd at *
      by_cases h1 : x < -1
      · have d1 : decide (x < -1) = true := decide_eq_true h1
        have hR := Lib.hid (HBk.out (by rw [HDk.out, d1]; rfl))
        clear HBk HDk HN1 hx
        go_wp2_with fail
        go_ret
        exact ⟨by rw [hR.out]; rfl, rfl⟩
      · have d1 : decide (x < -1) = false := decide_eq_false h1
        by_cases h2 : (ns.length : Int) ≤ x
        · have d2 : decide ((ns.length : Int) ≤ x) = true := decide_eq_true h2
          have hR := Lib.hid (HBk.out (by rw [HDk.out, d2]; simp))
          clear HBk HDk HN1 hx
          go_wp2_with fail
          go_ret
          exact ⟨by rw [hR.out]; rfl, rfl⟩
        · have d2 : decide ((ns.length : Int) ≤ x) = false := decide_eq_false h2
          have hN2 := Lib.hid (HN1.out (by rw [HDk.out, d1, d2]; rfl))
          clear HBk HDk HN1
          subst hx
          go_wp2_with fail
          go_roundw
          case rel => exact ⟨k + 1, by omega, by go_num, by first | rfl | trivial, hN2⟩
          case measure => simp [intOf]; omega
    · obtain rfl : k = l.length := by omega
      have hR := Lib.hid (HG.out hN.out)
      clear HC HL HB HG HD
      go_wp2_with fail
      go_ret
      exact ⟨by rw [hR.out]; rfl, rfl⟩
set_option maxRecDepth 100000 in
set_option maxHeartbeats 4000000 in
theorem right_r (ja : Option Addr) (js : List Jo) (jc : Nat) (na : Option Addr) (ns : List Ni) (nc : Nat) (a : Option Addr) (l : List Int) (ca : Nat) (w : World) (hJ : JobsS w ja js) (hN : NightsS w na ns) (hA : IntsC w a l) (hle : l.length ≤ js.length) (hsm : js.length ≤ 1000) :
    Calls Try.prog 30 #[.slice ja js.length jc, .slice na ns.length nc, .slice a l.length ca] w fun e w' => e = .returned (.bool (rgtB js ns l)) ∧ Below w.heap.size w w' := by
  have HB : Hid (∀ k, k < ns.length → badN js ns l k = true → rgtB js ns l = false) := Lib.hid fun k hk h => by unfold rgtB; rw [anyK_true h _ hk]; rfl
  have HG : Hid ((∀ k, k < ns.length → badN js ns l k = false) → rgtB js ns l = true) := Lib.hid fun h => by unfold rgtB; rw [anyK_false _ h]; rfl
  have HM1 : Hid (∀ k q, q < l.length → misB js ns l k q = true → badN js ns l k = true) := Lib.hid fun k q hq h => by unfold badN; rw [anyK_true h _ hq]; rfl
  have HM2 : Hid (∀ k, (∀ q, q < l.length → misB js ns l k q = false) → badN js ns l k = decide ((gn ns k).p < (cK (fun i => gi l i == (k : Int)) l.length : Nat))) := Lib.hid fun k h => by unfold badN; rw [anyK_false _ h]; rfl
  have HM3 : Hid (∀ k q, misB js ns l k q = ((gi l q == (k : Int)) && !(fitB (gj js q) (gn ns k)))) := Lib.hid fun k q => rfl
  have HS : Hid (∀ (k q : Nat), cK (fun i => gi l i == (k : Int)) (q + 1) = cK (fun i => gi l i == (k : Int)) q + (if (gi l q == (k : Int)) = true then 1 else 0)) := Lib.hid fun k q => rfl
  have HS0 : Hid (∀ k : Nat, cK (fun i => gi l i == (k : Int)) 0 = 0) := Lib.hid fun k => rfl
  have HSl : Hid (∀ (k q : Nat), cK (fun i => gi l i == (k : Int)) q ≤ q) := Lib.hid fun k q => by
    have := cK_not (fun i => gi l i == (k : Int)) q
    omega
  have hl2 := hN.1
  obtain ⟨jb, jo, HJa, HJc⟩ := jobs_cells hJ
  obtain ⟨nb, no, HNa, HNc⟩ := nights_cells hN
  obtain ⟨hl64, blk, off, hadr, hc⟩ := hA
  have HC := Lib.hid hc
  have HL : Hid (0 < l.length → a = some ⟨blk, off, none⟩) := Lib.hid fun h => hadr (pos_ne (n := 0) h)
  clear hc hadr hJ hN
  generalize rgtB js ns l = R at *
  go_enter Try.func30, Try.ntmps30
  go_wp2_with fail
  go_loopw [7] (fun i wr => ∃ k : Nat, k ≤ ns.length ∧ i = .int .i64 k ∧ Below w.heap.size w wr ∧ Hid (∀ j, j < k → badN js ns l j = false)) (fun i _ => ns.length - (intOf i).toNat)
  case atStart => exact ⟨0, Nat.zero_le _, rfl, Below.refl _ _, Lib.hid fun j hj => absurd hj (Nat.not_lt_zero _)⟩
  case round =>
    obtain ⟨k, hk, rfl, hb, hN⟩ := hrel
    by_cases hlt : k < ns.length
    · obtain rfl := HNa.out (by omega)
      obtain ⟨d0, d1, d2, d3, d4, d5, d6, d7⟩ := HNc.out k hlt
      have HBk := Lib.hid (HB.out k hlt)
      have HM1k := Lib.hid (HM1.out k)
      have HM2k := Lib.hid (HM2.out k)
      have HM3k := Lib.hid (HM3.out k)
      have HSk := Lib.hid (HS.out k)
      have HS0k := Lib.hid (HS0.out k)
      have HSlk := Lib.hid (HSl.out k)
      have HN1 : Hid (badN js ns l k = false → ∀ j, j < k + 1 → badN js ns l j = false) := Lib.hid fun h j hj => by
        by_cases e : j = k
        · subst e; exact h
        · exact hN.out j (by omega)
      clear HNa HNc HB HG HM1 HM2 HM3 HS HS0 HSl hN
      generalize gn ns k = s at *
      generalize cK (fun i => gi l i == (k : Int)) = cc at *
      generalize badN js ns l k = bd at *
      generalize misB js ns l k = mb at *
      have k3 : decide ((0 : Int) ≤ k) = true := decide_eq_true (by omega)
      have k4 : decide ((k : Int) < ns.length) = true := decide_eq_true (by omega)
      go_wp2_with fail
      obtain ⟨wo, rfl⟩ : ∃ wo : World, wo = wr := ⟨_, rfl⟩
      go_loopw [8, 9] (fun v i wr => ∃ q : Nat, q ≤ l.length ∧ i = .int .i64 q ∧ v = .int .i64 (cc q) ∧ Below w.heap.size w wr ∧ Hid (∀ j, j < q → mb j = false)) (fun _ i _ => l.length - (intOf i).toNat)
      case atStart => exact ⟨0, Nat.zero_le _, rfl, by rw [HS0k.out]; rfl, hb, Lib.hid fun j hj => absurd hj (Nat.not_lt_zero _)⟩
      case round =>
        obtain ⟨q, hq, rfl, rfl, hb, hQ⟩ := hrel
        by_cases hlq : q < l.length
        · have hqj : q < js.length := by omega
          have hls : l.length ≤ 1000 := by omega
          obtain rfl := HL.out (by omega)
          obtain rfl := HJa.out (by omega)
          obtain ⟨c0, c1, c2, c3, c4, c5, c6, c7⟩ := HJc.out q hqj
          have e0 := HC.out q hlq
          have HM1q := Lib.hid (HM1k.out q hlq)
          have HM3q := Lib.hid (HM3k.out q)
          have hSq := Lib.hid (HSk.out q)
          have hcl := HSlk.out q
          have HQ1 : Hid (mb q = false → ∀ j, j < q + 1 → mb j = false) := Lib.hid fun h j hj => by
            by_cases e : j = q
            · subst e; exact h
            · exact hQ.out j (by omega)
          clear HM1k HM2k HM3k HSk HS0k HSlk HL HJa HJc HC hQ HN1
          generalize gj js q = j at *
          generalize gi l q = y at *
          have e0 := cell_below e0 hb
          have c0 := cell_below c0 hb
          have c1 := cell_below c1 hb
          have c2 := cell_below c2 hb
          have c3 := cell_below c3 hb
          have c4 := cell_below c4 hb
          have c5 := cell_below c5 hb
          have c6 := cell_below c6 hb
          have c7 := cell_below c7 hb
          have d0 := cell_below d0 hb
          have d1 := cell_below d1 hb
          have d2 := cell_below d2 hb
          have d3 := cell_below d3 hb
          have d4 := cell_below d4 hb
          have d5 := cell_below d5 hb
          have d6 := cell_below d6 hb
          have d7 := cell_below d7 hb
          have k1 : decide ((0 : Int) ≤ q) = true := decide_eq_true (by omega)
          have k2 : decide ((q : Int) < js.length) = true := decide_eq_true (by omega)
          by_cases hy : y = k
          · have hyd : (y == (k : Int)) = true := by simpa using hy
            have hyd2 : (y != (k : Int)) = false := by simp [hy]
            have hc1 : Hid (((cc (q + 1) : Nat) : Int) = (cc q : Int) + 1) := Lib.hid (by rw [hSq.out, if_pos hyd]; omega)
            have HFt := Lib.hid (fun W => refFits_r j s W)
            have hwc : IntKind.i64.wrap ((cc q : Int) + 1) = cc q + 1 := IntWalk.i64_in _ (by omega)
            cases hfit : fitB j s with
            | true =>
              rw [hfit] at HFt
              have hQ2 := Lib.hid (HQ1.out (by rw [HM3q.out, hfit, hyd]; rfl))
              clear hSq hy hfit HM1q HM3q HQ1 HBk
              go_wp2_with fail
              go_still_tail 8, (by kernel_rfl)
              change wpList _ _ _ _ _ wr.drew
              have hb := hb.drew
              generalize wr.drew = wq at hb ⊢
              clear c0 c1 c2 c3 c4 c5 c6 c7 d0 d1 d2 d3 d4 d5 d6 d7 e0
              go_wp2_with fail
              refine (HFt.out _).mono ?_
              rintro e w1 ⟨rfl, hb1⟩
              go_wp2_with fail
              go_roundw
              case rel => exact ⟨q + 1, by omega, by go_num, by rw [hc1.out], below_onN hb hb1 hb.size, hQ2⟩
              case measure => simp [intOf]; omega
            | false =>
              rw [hfit] at HFt
              have hR := Lib.hid (HBk.out (HM1q.out (by rw [HM3q.out, hfit, hyd]; rfl)))
              clear hSq hy hfit HM1q HM3q HQ1 HBk
              go_wp2_with fail
              go_still_tail 8, (by kernel_rfl)
              change wpList _ _ _ _ _ wr.drew
              have hb := hb.drew
              generalize wr.drew = wq at hb ⊢
              clear c0 c1 c2 c3 c4 c5 c6 c7 d0 d1 d2 d3 d4 d5 d6 d7 e0
              go_wp2_with fail
              refine (HFt.out _).mono ?_
              rintro e w1 ⟨rfl, hb1⟩
              go_wp2_with fail
              go_ret
              exact ⟨by rw [hR.out]; rfl, below_onN hb hb1 hb.size⟩
          · have hyd : (y == (k : Int)) = false := beq_false_of_ne hy
            have hc1 : Hid (cc (q + 1) = cc q) := Lib.hid (by rw [hSq.out, if_neg (by rw [hyd]; decide)]; rfl)
            have hQ2 := Lib.hid (HQ1.out (by rw [HM3q.out, hyd]; rfl))
            clear hSq hy HM1q HM3q HQ1 HBk
            go_wp2_with fail
            go_roundw
            case rel => exact ⟨q + 1, by omega, by go_num, by rw [hc1.out], hb, hQ2⟩
            case measure => simp [intOf]; omega
        · obtain rfl : q = l.length := by omega
          have d5 := cell_below d5 hb
          have HM2 := Lib.hid (HM2k.out hQ.out)
          clear HM1k HM2k HM3k HSk HS0k HSlk HL HJa HJc HC hQ
          by_cases hpc : s.p < (cc l.length : Int)
          · have dle : decide (s.p < (cc l.length : Int)) = true := decide_eq_true hpc
            have hR := Lib.hid (HBk.out (HM2.out.trans dle))
            clear HBk HM2 HN1
            go_wp2_with fail
            go_ret
            exact ⟨by rw [hR.out]; rfl, hb⟩
          · have dle : decide (s.p < (cc l.length : Int)) = false := decide_eq_false hpc
            have hN2 := Lib.hid (HN1.out (HM2.out.trans dle))
            clear HBk HM2 HN1
            go_wp2_with fail
            go_roundw
            case rel => exact ⟨k + 1, by omega, by go_num, hb, hN2⟩
            case measure => simp [intOf]; omega
    · obtain rfl : k = ns.length := by omega
      have hR := Lib.hid (HG.out hN.out)
      go_wp2_with fail
      go_ret
      exact ⟨by rw [hR.out]; rfl, hb⟩
set_option maxRecDepth 100000 in
set_option maxHeartbeats 2000000 in
theorem refRight_1 (ja : Option Addr) (js : List Jo) (jc : Nat) (na : Option Addr) (ns : List Ni) (nc : Nat) (a : Option Addr) (l : List Int) (ca : Nat) (w : World) (hJ : JobsS w ja js) (hN : NightsS w na ns) (hA : IntsC w a l) (hsm : l.length ≤ js.length → js.length ≤ 1000) (he : (errL js ns == 0) = false) :
    Calls Try.prog 10 #[.slice ja js.length jc, .slice na ns.length nc, .slice a l.length ca] w fun e w' => e = .returned (.tuple #[.bool false, .int .i64 (errL js ns)]) ∧ Below w.heap.size w w' := by
  have H1 := Lib.hid (wrong_r ja js jc na ns nc w hJ hN)
  clear hJ hN hA
  generalize errL js ns = E at *
  go_enter Try.func10, Try.ntmps10
  go_wp2_with fail
  refine H1.out.mono ?_
  rintro e w1 ⟨rfl, hb1⟩
  go_wp2_with fail
  go_ret2
  exact ⟨rfl, hb1⟩
set_option maxRecDepth 100000 in
set_option maxHeartbeats 2000000 in
theorem refRight_2 (ja : Option Addr) (js : List Jo) (jc : Nat) (na : Option Addr) (ns : List Ni) (nc : Nat) (a : Option Addr) (l : List Int) (ca : Nat) (w : World) (hJ : JobsS w ja js) (hN : NightsS w na ns) (hA : IntsC w a l) (hsm : l.length ≤ js.length → js.length ≤ 1000) (he : errL js ns = 0) (h2 : plnB js.length ns.length l = false) :
    Calls Try.prog 10 #[.slice ja js.length jc, .slice na ns.length nc, .slice a l.length ca] w fun e w' => e = .returned (.tuple #[.bool false, .int .i64 82]) ∧ Below w.heap.size w w' := by
  have H1 := Lib.hid (wrong_r ja js jc na ns nc w hJ hN)
  have H2 := Lib.hid (fun W (hW : Below w.heap.size w W) => planned_r ja js jc na ns nc a l ca W (hJ.below hW) (hN.below hW) (hA.below hW))
  rw [he] at H1
  rw [h2] at H2
  clear hJ hN hA he h2
  go_enter Try.func10, Try.ntmps10
  go_wp2_with fail
  refine H1.out.mono ?_
  rintro e w1 ⟨rfl, hb1⟩
  go_wp2_with fail
  refine (H2.out _ hb1).mono ?_
  rintro e w2 ⟨rfl, rfl⟩
  go_wp2_with fail
  go_ret2
  exact ⟨rfl, hb1⟩
set_option maxRecDepth 100000 in
set_option maxHeartbeats 2000000 in
theorem refRight_3 (ja : Option Addr) (js : List Jo) (jc : Nat) (na : Option Addr) (ns : List Ni) (nc : Nat) (a : Option Addr) (l : List Int) (ca : Nat) (w : World) (hJ : JobsS w ja js) (hN : NightsS w na ns) (hA : IntsC w a l) (hsm : l.length ≤ js.length → js.length ≤ 1000) (he : errL js ns = 0) (h2 : plnB js.length ns.length l = true) :
    Calls Try.prog 10 #[.slice ja js.length jc, .slice na ns.length nc, .slice a l.length ca] w fun e w' => e = .returned (.tuple #[.bool (rgtB js ns l), .int .i64 0]) ∧ Below w.heap.size w w' := by
  have H1 := Lib.hid (wrong_r ja js jc na ns nc w hJ hN)
  have H2 := Lib.hid (fun W (hW : Below w.heap.size w W) => planned_r ja js jc na ns nc a l ca W (hJ.below hW) (hN.below hW) (hA.below hW))
  have H3 := Lib.hid (fun W (hW : Below w.heap.size w W) => right_r ja js jc na ns nc a l ca W (hJ.below hW) (hN.below hW) (hA.below hW) (by have := (plnB_iff.1 h2).1; omega) (hsm (by have := (plnB_iff.1 h2).1; omega)))
  rw [he] at H1
  rw [h2] at H2
  clear hJ hN hA he h2
  generalize rgtB js ns l = R at *
  go_enter Try.func10, Try.ntmps10
  go_wp2_with fail
  refine H1.out.mono ?_
  rintro e w1 ⟨rfl, hb1⟩
  go_wp2_with fail
  refine (H2.out _ hb1).mono ?_
  rintro e w2 ⟨rfl, rfl⟩
  go_wp2_with fail
  refine (H3.out _ hb1).mono ?_
  rintro e w3 ⟨rfl, hb3⟩
  go_wp2_with fail
  go_ret2
  exact ⟨rfl, below_onN hb1 hb3 hb1.size⟩
/-- What Right says. -/
def rtV (js : List Jo) (ns : List Ni) (l : List Int) : Bool := decide (errL js ns = 0) && plnB js.length ns.length l && rgtB js ns l
def rtE (js : List Jo) (ns : List Ni) (l : List Int) : Int := if errL js ns = 0 then (if plnB js.length ns.length l = true then 0 else 82) else errL js ns
theorem jobs_small {js : List Jo} {ns : List Ni} (h : errL js ns = 0) : js.length ≤ 1000 := by have := jobsB_len (errL_ok h).1; omega
theorem refRight_r (ja : Option Addr) (js : List Jo) (jc : Nat) (na : Option Addr) (ns : List Ni) (nc : Nat) (a : Option Addr) (l : List Int) (ca : Nat) (w : World) (hJ : JobsS w ja js) (hN : NightsS w na ns) (hA : IntsC w a l) :
    Calls Try.prog 10 #[.slice ja js.length jc, .slice na ns.length nc, .slice a l.length ca] w fun e w' => e = .returned (.tuple #[.bool (rtV js ns l), .int .i64 (rtE js ns l)]) ∧ Below w.heap.size w w' := by
  by_cases he : errL js ns = 0
  · have hs := jobs_small he
    cases h2 : plnB js.length ns.length l with
    | false =>
      have := refRight_2 ja js jc na ns nc a l ca w hJ hN hA (fun _ => hs) he h2
      unfold rtV rtE
      rw [decide_eq_true he, h2, if_pos he, if_neg (by decide)]
      exact this
    | true =>
      have := refRight_3 ja js jc na ns nc a l ca w hJ hN hA (fun _ => hs) he h2
      unfold rtV rtE
      rw [decide_eq_true he, h2, if_pos he, if_pos rfl]
      exact this
  · unfold rtV rtE
    rw [decide_eq_false he, if_neg he]
    by_cases hs : js.length ≤ 1000
    · exact refRight_1 ja js jc na ns nc a l ca w hJ hN hA (fun _ => hs) (beq_false_of_ne he)
    · have H1 := Lib.hid (wrong_r ja js jc na ns nc w hJ hN)
      have hE : (errL js ns == 0) = false := beq_false_of_ne he
      clear hJ hN hA he
      generalize errL js ns = E at *
      go_enter Try.func10, Try.ntmps10
      go_wp2_with fail
      refine H1.out.mono ?_
      rintro e w1 ⟨rfl, hb1⟩
      go_wp2_with fail
      go_ret2
      exact ⟨rfl, hb1⟩
theorem plnE_eq (js : List Jo) (ns : List Ni) (l : List Int) : plnE js ns l = if rtE js ns l = 0 ∧ rtV js ns l = false then 82 else rtE js ns l := by
  unfold plnE rtE rtV
  by_cases he : errL js ns = 0
  · rw [if_pos he, if_pos he, decide_eq_true he]
    cases plnB js.length ns.length l <;> cases rgtB js ns l <;> rfl
  · rw [if_neg he, if_neg he, if_neg (by omega)]
set_option maxRecDepth 100000 in
set_option maxHeartbeats 2000000 in
theorem refPlans_r (ja : Option Addr) (js : List Jo) (jc : Nat) (na : Option Addr) (ns : List Ni) (nc : Nat) (a : Option Addr) (l : List Int) (ca : Nat) (w : World) (hJ : JobsS w ja js) (hN : NightsS w na ns) (hA : IntsC w a l) :
    Calls Try.prog 33 #[.slice ja js.length jc, .slice na ns.length nc, .slice a l.length ca] w fun e w' => e = .returned (.int .i64 (plnE js ns l)) ∧ Below w.heap.size w w' := by
  have H1 := Lib.hid (refRight_r ja js jc na ns nc a l ca w hJ hN hA)
  have HE := Lib.hid (plnE_eq js ns l)
  clear hJ hN hA
  generalize plnE js ns l = X at *
  generalize rtE js ns l = E at *
  by_cases h : E = 0
  · subst h
    cases hv : rtV js ns l with
    | true =>
      rw [hv] at H1 HE
      have hX : X = 0 := by rw [HE.out, if_neg (by simp)]
      subst hX
      clear hv HE
      go_enter Try.func33, Try.ntmps33
      go_wp2_with fail
      refine H1.out.mono ?_
      rintro e w1 ⟨rfl, hb1⟩
      go_wp2_with fail
      go_ret
      exact ⟨rfl, hb1⟩
    | false =>
      rw [hv] at H1 HE
      have hX : X = 82 := by rw [HE.out, if_pos ⟨rfl, rfl⟩]
      subst hX
      clear hv HE
      go_enter Try.func33, Try.ntmps33
      go_wp2_with fail
      refine H1.out.mono ?_
      rintro e w1 ⟨rfl, hb1⟩
      go_wp2_with fail
      go_ret
      exact ⟨rfl, hb1⟩
  · have hX : X = E := by rw [HE.out, if_neg (by omega)]
    subst hX
    have hE : (X == 0) = false := beq_false_of_ne h
    clear HE h
    generalize rtV js ns l = V at *
    go_enter Try.func33, Try.ntmps33
    go_wp2_with fail
    refine H1.out.mono ?_
    rintro e w1 ⟨rfl, hb1⟩
    go_wp2_with fail
    go_ret
    exact ⟨rfl, hb1⟩
/-- How many of the first k jobs have a night. -/
def dnK (l : List Int) : Nat → Nat := cK (fun i => decide (0 ≤ gi l i))
set_option maxRecDepth 100000 in
set_option maxHeartbeats 2000000 in
theorem refDone_v (a : Option Addr) (l : List Int) (ca : Nat) (w : World) (hA : IntsC w a l) :
    Calls Try.prog 34 #[.slice a l.length ca] w fun e w' => e = .returned (.int .i64 (dnK l l.length)) ∧ w' = w := by
  obtain ⟨hl64, blk, off, hadr, hc⟩ := hA
  have HC := Lib.hid hc
  have HL : Hid (0 < l.length → a = some ⟨blk, off, none⟩) := Lib.hid fun h => hadr (pos_ne (n := 0) h)
  have HS : Hid (∀ k, dnK l (k + 1) = dnK l k + (if decide (0 ≤ gi l k) = true then 1 else 0)) := Lib.hid fun k => rfl
  have HN : Hid (∀ k, dnK l k ≤ k) := Lib.hid fun k => by have := cK_not (fun i => decide (0 ≤ gi l i)) k; unfold dnK; omega
  have H0 : Hid (dnK l 0 = 0) := Lib.hid rfl
  clear hc hadr
  generalize dnK l = D at *
  go_enter Try.func34, Try.ntmps34
  go_wp2_with fail
  go_loopw [3, 4] (fun v i wr => ∃ k : Nat, k ≤ l.length ∧ i = .int .i64 k ∧ v = .int .i64 (D k) ∧ wr = w) (fun _ i _ => l.length - (intOf i).toNat)
  case atStart => exact ⟨0, Nat.zero_le _, rfl, by rw [H0.out]; rfl, rfl⟩
  case round =>
    obtain ⟨k, hk, rfl, rfl, rfl⟩ := hrel
    by_cases hlt : k < l.length
    · obtain rfl := HL.out (by omega)
      have c0 := HC.out k hlt
      have hS := Lib.hid (HS.out k)
      have hn := HN.out k
      clear HC HL HS HN H0
      generalize gi l k = x at *
      by_cases h1 : 0 ≤ x
      · have d1 : decide ((0 : Int) ≤ x) = true := decide_eq_true h1
        have hS1 : Hid (((D (k + 1) : Nat) : Int) = (D k : Int) + 1) := Lib.hid (by rw [hS.out, if_pos d1]; omega)
        clear hS
        go_wp2_with fail
        go_roundw
        case rel => exact ⟨k + 1, by omega, by go_num, by rw [hS1.out], by first | rfl | trivial⟩
        case measure => simp [intOf]; omega
      · have d1 : decide ((0 : Int) ≤ x) = false := decide_eq_false h1
        have hS1 : Hid (D (k + 1) = D k) := Lib.hid (by rw [hS.out, if_neg (by rw [d1]; decide)]; rfl)
        clear hS
        go_wp2_with fail
        go_roundw
        case rel => exact ⟨k + 1, by omega, by go_num, by rw [hS1.out], by first | rfl | trivial⟩
        case measure => simp [intOf]; omega
    · obtain rfl : k = l.length := by omega
      go_wp2_with fail
      go_ret
      exact ⟨rfl, rfl⟩
/-- What Done says. -/
def doV (js : List Jo) (ns : List Ni) (l : List Int) : Int := if plnE js ns l = 0 then (dnK l l.length : Nat) else 0
set_option maxRecDepth 100000 in
set_option maxHeartbeats 2000000 in
theorem refDone_r (ja : Option Addr) (js : List Jo) (jc : Nat) (na : Option Addr) (ns : List Ni) (nc : Nat) (a : Option Addr) (l : List Int) (ca : Nat) (w : World) (hJ : JobsS w ja js) (hN : NightsS w na ns) (hA : IntsC w a l) :
    Calls Try.prog 12 #[.slice ja js.length jc, .slice na ns.length nc, .slice a l.length ca] w fun e w' => e = .returned (.tuple #[.int .i64 (doV js ns l), .int .i64 (plnE js ns l)]) ∧ Below w.heap.size w w' := by
  have H1 := Lib.hid (refPlans_r ja js jc na ns nc a l ca w hJ hN hA)
  have H2 := Lib.hid (fun W (hW : Below w.heap.size w W) => refDone_v a l ca W (hA.below hW))
  have HV : Hid (doV js ns l = (if plnE js ns l = 0 then ((dnK l l.length : Nat) : Int) else 0)) := Lib.hid rfl
  clear hJ hN hA
  generalize doV js ns l = V at *
  generalize plnE js ns l = E at *
  generalize dnK l l.length = D at *
  by_cases h : E = 0
  · subst h
    have hV : V = D := by rw [HV.out, if_pos rfl]
    subst hV
    clear HV
    go_enter Try.func12, Try.ntmps12
    go_wp2_with fail
    refine H1.out.mono ?_
    rintro e w1 ⟨rfl, hb1⟩
    go_wp2_with fail
    refine (H2.out _ hb1).mono ?_
    rintro e w2 ⟨rfl, rfl⟩
    go_wp2_with fail
    go_ret2
    exact ⟨rfl, hb1⟩
  · have hV : V = 0 := by rw [HV.out, if_neg h]
    subst hV
    have hE : (E == 0) = false := beq_false_of_ne h
    have hE2 : (E != 0) = true := by simp [h]
    clear HV h
    go_enter Try.func12, Try.ntmps12
    go_wp2_with fail
    refine H1.out.mono ?_
    rintro e w1 ⟨rfl, hb1⟩
    go_wp2_with fail
    go_ret2
    exact ⟨rfl, hb1⟩
theorem dn_dnK {C : List (List Int)} {P : List Int} {L N : Nat} {l : List Int} (hg : GoodP C P L N l) : (dnK l l.length : Int) = dnN l := by
  unfold dnN dnK
  rw [cntN_cK]
  have h1 := cK_not (fun i => gi l i == -1) l.length
  rw [cK_congr (g := fun i => !(gi l i == -1)) l.length fun i hi => by
    rcases hg.ent i (by have := hg.len; omega) with e | ⟨m, e, _⟩
    · rw [e]; rfl
    · rw [e, decide_eq_true (by omega), beq_false_of_ne (by omega)]; rfl]
  omega
end Go.Proofs.Ytghlhjiomebmhaa
