/-
  Tour of package night. By an AI agent.; Tour and Late of the reference of package night, and Late of the package. By an AI agent.; The least of the complete plans of package night, as the search makes it: plain mathematics. By an AI agent.; What Best and Plan of package night return is the least of the right plans with most jobs done: plain mathematics. By an AI agent.
-/
import Derived.Test.YtghlhjiomebmhaaMgNightRight14
import Derived.Test.YtghlhjiomebmhaaMgNightRight15
import Derived.Test.YtghlhjiomebmhaaMgNightRight16
import Derived.Test.YtghlhjiomebmhaaMgNightRight18
import Derived.Deep.RegionHeld3
import Derived.BigQuiet
import Derived.Deep.AppendLies
import Derived.StillTailTactics
import Derived.BigRegion
import Derived.Deep.DeepCutAuto

namespace Go.Proofs.Ytghlhjiomebmhaa
set_option linter.unusedVariables false
set_option linter.unusedSimpArgs false
open Go.RowKit

def cmpI (a b : Int) : Int := if a < b then -1 else if b < a then 1 else 0
theorem isNaN_any (a : Int) (w : World) : Calls Try.prog 61 #[.int .i64 a] w fun e w' => e = .returned (.bool false) ∧ w' = w := by
  go_enter Try.func61, Try.ntmps61
  go_wp2
  go_ret
  exact ⟨rfl, rfl⟩
theorem compare_any (a b : Int) (w : World) : Calls Try.prog 40 #[.int .i64 a, .int .i64 b] w fun e w' => e = .returned (.int .i64 (cmpI a b)) ∧ w' = w := by
  unfold cmpI
  by_cases h1 : a < b
  · rw [if_pos h1]
    go_enter Try.func40, Try.ntmps40
    go_wp2_with (go_at_call 61; refine (isNaN_any _ _).mono ?_; rintro e w' ⟨rfl, rfl⟩)
    go_ret
    exact ⟨rfl, rfl⟩
  · by_cases h2 : b < a
    · rw [if_neg h1, if_pos h2]
      go_enter Try.func40, Try.ntmps40
      go_wp2_with (go_at_call 61; refine (isNaN_any _ _).mono ?_; rintro e w' ⟨rfl, rfl⟩)
      go_ret
      exact ⟨rfl, rfl⟩
    · rw [if_neg h1, if_neg (by omega)]
      go_enter Try.func40, Try.ntmps40
      go_wp2_with (go_at_call 61; refine (isNaN_any _ _).mono ?_; rintro e w' ⟨rfl, rfl⟩)
      go_ret
      exact ⟨rfl, rfl⟩
set_option maxRecDepth 100000 in
set_option maxHeartbeats 2000000 in
theorem indexes_t1 (n : Nat) (hn : n ≤ 100000) (lb : Array Value) (p : Nat → Bool) (w : World)
    (hp : ∀ j W, j < n → Below w.heap.size w W → Calls Try.prog 37 (#[.int .i64 j] ++ lb) W fun e w' => e = .returned (.bool (p j)) ∧ Below W.heap.size W w') :
    Calls Try.prog 36 #[.int .i64 n, .func (.func 37) #[] lb] w fun e w' => IdxE w (selK p n) e w' := by
  have HP := Lib.hid hp
  have HS : Hid (∀ k, selK p (k + 1) = if p k = true then selK p k ++ [(k : Int)] else selK p k) := Lib.hid fun k => rfl
  have HN : Hid (∀ k, (selK p k).length ≤ k) := Lib.hid (selK_len p)
  have H0 : Hid (selK p 0 = []) := Lib.hid rfl
  clear hp
  go_enter Try.func36, Try.ntmps36
  go_wp2_with fail
  go_loopw [5, 8] (fun v i wr => ∃ k : Nat, k ≤ n ∧ i = .int .i64 k ∧ (∃ a c, v = .slice a (selK p k).length c) ∧ Hid (wr.ownsRow w.heap.size 3 1 v (selK p k).length (clI (selK p k))) ∧ Below w.heap.size w wr) (fun _ i _ => n - (intOf i).toNat)
  case atStart => exact ⟨0, Nat.zero_le _, rfl, ⟨none, 0, by rw [H0.out]; rfl⟩, Lib.hid (by rw [H0.out]; exact ⟨rfl, .inl ⟨rfl, rfl⟩⟩), Below.refl _ _⟩
  case round =>
    obtain ⟨k, hk, rfl, ⟨av, cv, rfl⟩, HRow, hb⟩ := hrel
    by_cases hlt : k < n
    · have HK := Lib.hid (fun W hW => HP.out k W hlt hW)
      have HSk := Lib.hid (HS.out k)
      have hNk := HN.out k
      clear HP HS H0 HN
      cases hpk : p k with
      | false =>
        rw [hpk] at HK HSk
        have HS1 : Hid (selK p (k + 1) = selK p k) := Lib.hid (HSk.out.trans (if_neg (by decide)))
        clear hpk HSk
        generalize hX : selK p k = X at *
        clear hX
        go_wp2_with fail
        refine (HK.out _ hb).mono ?_
        rintro e w1 ⟨rfl, hb1⟩
        have HRow := Lib.hid (owns_belowI HRow.out hb1)
        have hb := below_onN hb hb1 hb.size
        clear hb1
        go_wp2_with fail
        go_roundw
        case rel => exact ⟨k + 1, by omega, by go_num, ⟨av, cv, by rw [HS1.out]⟩, by rw [HS1.out]; exact HRow, hb⟩
        case measure => simp [intOf]; omega
      | true =>
        rw [hpk] at HK HSk
        have HS1 : Hid (selK p (k + 1) = selK p k ++ [(k : Int)]) := Lib.hid (HSk.out.trans (if_pos rfl))
        clear hpk HSk
        generalize hX : selK p k = X at *
        clear hX
        go_wp2_with fail
        refine (HK.out _ hb).mono ?_
        rintro e w1 ⟨rfl, hb1⟩
        have HRow := Lib.hid (owns_belowI HRow.out hb1)
        have hb := below_onN hb hb1 hb.size
        have hbs := hb.size
        clear hb1 HK
        obtain ⟨m, hm⟩ : ∃ m, X.length = m := ⟨_, rfl⟩
        have HM := Lib.hid hm
        rw [hm] at HRow hNk
        rw [hm]
        clear hm
        have hown := Lib.hid (HRow.out.alloc (.cells #[.int .i64 k] 3))
        go_wp2_with (first | (at_builtin; go_loud (refine app_int rfl _ _ rfl w.heap.size m cv av _ rfl hown.out w1.heap.size (.int .i64 k) rfl ?d1 (by rfl) (by omega) ?d2 ?_)))
        case d1 => simp [go_sem]
        case d2 => first | (simp; omega) | omega
        intro g6 c6 w6 hown6 hb6
        have hb6 : Below w.heap.size w w6 := (hb.alloc hbs _).trans hb6
        have hrow6 : Hid (w6.ownsRow w.heap.size 3 1 (.slice (some ⟨g6, 0, none⟩) (m + 1) c6) (m + 1) (clI (X ++ [(k : Int)]))) := Lib.hid (by rw [clI_app]; exact hown6)
        clear hown6 hown HRow
        go_wp2_with fail
        go_roundw
        case rel => exact ⟨k + 1, by omega, by go_num, ⟨_, c6, by rw [HS1.out, List.length_append, HM.out]; rfl⟩, by rw [HS1.out, List.length_append, HM.out]; exact hrow6, hb6⟩
        case measure => simp [intOf]; omega
    · obtain rfl : k = n := by omega
      clear HP HS HN H0
      go_wp2_with fail
      go_ret
      exact ⟨av, cv, rfl, HRow.out, hb⟩
set_option maxRecDepth 100000 in
theorem tour1_r (l : List Int) (x : Int) (a : Option Addr) (ca Bl Be k : Nat) (hk : k < l.length) (w : World) (hI : IntsC w a l) (c0 : w.cell? ⟨Bl, 0, none⟩ = some (.slice a l.length ca)) (c1 : w.cell? ⟨Be, 0, none⟩ = some (.int .i64 x)) :
    Calls Try.prog 37 (#[.int .i64 k] ++ #[.pointer (some ⟨Bl, 0, none⟩), .pointer (some ⟨Be, 0, none⟩)]) w fun e w' => e = .returned (.bool (gi l k == x)) ∧ Below w.heap.size w w' := by
  obtain ⟨hlen, blk, off, hadr, hc⟩ := hI
  obtain rfl := hadr (pos_ne (n := 0) hk)
  have cc := hc k hk
  clear hc hadr
  generalize gi l k = y at *
  have hk1 : decide ((0 : Int) ≤ k) = true := decide_eq_true (by omega)
  have hk2 : decide ((k : Int) < l.length) = true := decide_eq_true (by omega)
  cases hxy : (y == x) with
  | true =>
    go_enter Try.func37, Try.ntmps37
    go_wp2_with fail
    go_quiet (fail)
    go_wp2_with fail
    go_ret
    exact ⟨by simp_all, below_drewN (Below.refl _ _) _⟩
  | false =>
    go_enter Try.func37, Try.ntmps37
    go_wp2_with fail
    go_quiet (fail)
    go_wp2_with fail
    go_ret
    exact ⟨by simp_all, below_drewN (Below.refl _ _) _⟩
/-- The chainage of a job by its index. -/
def chJ (js : List Jo) (x : Int) : Int := (gj js x.toNat).c
set_option maxRecDepth 100000 in
set_option maxHeartbeats 2000000 in
theorem tour2_r (js : List Jo) (ja : Option Addr) (jc B p q : Nat) (hp : p < js.length) (hq : q < js.length) (w : World) (hJ : JobsS w ja js) (c0 : w.cell? ⟨B, 0, none⟩ = some (.slice ja js.length jc)) :
    Calls Try.prog 39 (#[.int .i64 p, .int .i64 q] ++ #[.pointer (some ⟨B, 0, none⟩)]) w fun e w' => e = .returned (.int .i64 (cmpK (chJ js) p q)) ∧ ∃ m, w' = w.drewN m := by
  have hl2 := hJ.1
  obtain ⟨jb, jo, HJa, HJc⟩ := jobs_cells hJ
  obtain rfl := HJa.out (by omega)
  have d1 := (HJc.out p hp).2.2.1
  have d2 := (HJc.out q hq).2.2.1
  have HR : Hid (cmpK (chJ js) p q = cmpI (gj js p).c (gj js q).c) := Lib.hid rfl
  clear HJa HJc hJ
  have HC := Lib.hid (fun W => compare_any (gj js p).c (gj js q).c W)
  generalize cmpK (chJ js) p q = r at *
  generalize cmpI (gj js p).c (gj js q).c = s at *
  obtain rfl := HR.out
  generalize (gj js p).c = x at *
  generalize (gj js q).c = y at *
  clear HR
  go_enter Try.func39, Try.ntmps39
  go_wp2_with fail
  go_quiet ((go_at_call 40; exact Calls.quiet_of_same (HC.out _)))
  go_wp2_with fail
  go_ret
  exact ⟨rfl, _, rfl⟩
/-- What a tour is: the jobs of a night in the order of their chainages. -/
structure TourP (js : List Jo) (l : List Int) (x : Int) (T : List Int) : Prop where
  srt : T.Pairwise (ltK (chJ js))
  mem : ∀ y, y ∈ T ↔ y ∈ selK (fun k => gi l k == x) l.length
/-- How far it is from the first one to the last one. -/
def farL (js : List Jo) (T : List Int) : Int := if T = [] then 0 else chJ js (gi T (T.length - 1)) - chJ js (gi T 0)
theorem gi_eq {l : List Int} {i : Nat} (h : i < l.length) : gi l i = l[i] := by
  unfold gi
  rw [List.getD_eq_getElem?_getD, List.getElem?_eq_getElem h]; rfl
theorem tour_unique {js : List Jo} {l : List Int} {x : Int} {T T' : List Int} (h : TourP js l x T) (h' : TourP js l x T') : T = T' := srt_unique h.srt h'.srt fun y => (h.mem y).trans (h'.mem y).symm
theorem tour_in {js : List Jo} {l : List Int} {x : Int} {T : List Int} (h : TourP js l x T) {i : Nat} (hi : i < T.length) : ∃ m : Nat, gi T i = m ∧ m < l.length ∧ gi l m = x := by
  obtain ⟨m, h1, h2, h3⟩ := selK_mem _ _ _ ((h.mem _).1 (mem_of_gi hi))
  exact ⟨m, h1, h2, by simpa using h3⟩
theorem intsC_nil2 (w : World) : IntsC w none [] := ⟨by simp, 0, 0, fun h => absurd rfl h, fun i hi => absurd hi (Nat.not_lt_zero _)⟩
def TouE (js : List Jo) (l : List Int) (x : Int) (w : World) (e : Ending) (w' : World) : Prop :=
  ∃ (T : List Int) (a : Option Addr) (c : Nat), e = .returned (.tuple #[.slice a T.length c, .int .i64 (farL js T), .int .i64 0]) ∧ IntsC w' a T ∧ TourP js l x T ∧ Below w.heap.size w w'
theorem chain_b {js : List Jo} (h : jobsB js = true) {m : Nat} (hm : m < js.length) : 0 ≤ (gj js m).c ∧ (gj js m).c ≤ 10000000 := by
  unfold jobsB at h
  rw [Bool.and_eq_true] at h
  have h1 : ∀ n, m < n → jokK js n = true → jobB (gj js m) = true := fun n => by
    induction n with
    | zero => intro h; omega
    | succ n ih =>
      intro hn hk
      unfold jokK at hk
      simp only [Bool.and_eq_true] at hk
      by_cases e : m = n
      · subst e; exact hk.2.1
      · exact ih (by omega) hk.1
  have h2 := h1 js.length hm h.2
  unfold jobB placeB at h2
  simp only [Bool.and_eq_true, btw_iff] at h2
  omega
set_option maxRecDepth 100000 in
theorem tour_1 (ja : Option Addr) (js : List Jo) (jc : Nat) (na : Option Addr) (ns : List Ni) (nc : Nat) (a : Option Addr) (l : List Int) (ca : Nat) (x : Int) (w : World) (hJ : JobsS w ja js) (hN : NightsS w na ns) (hA : IntsC w a l) (he : (plnE js ns l == 0) = false) :
    Calls Try.prog 13 #[.slice ja js.length jc, .slice na ns.length nc, .slice a l.length ca, .int .i64 x] w fun e w' => e = .returned (.tuple #[.slice none 0 0, .int .i64 0, .int .i64 (plnE js ns l)]) ∧ Below w.heap.size w w' := by
  have H1 := Lib.hid (fun W (hW : Below w.heap.size w W) => nPE_r ja js jc na ns nc a l ca W (hJ.below hW) (hN.below hW) (hA.below hW))
  clear hJ hN hA
  generalize plnE js ns l = E at *
  have hb0 : Below w.heap.size w (((w.alloc (.cells #[.slice ja js.length jc] 22)).alloc (.cells #[.slice a l.length ca] 26)).alloc (.cells #[.int .i64 x] 3)) := (((Below.refl _ _).alloc (Nat.le_refl _) _).alloc (by simp) _).alloc (by simp; omega) _
  have HB0 := Lib.hid hb0
  clear hb0
  go_enter Try.func13, Try.ntmps13
  go_wp2_with fail
  refine (H1.out _ HB0.out).mono ?_
  rintro e w1 ⟨rfl, hb1⟩
  have hb2 := below_onN HB0.out hb1 HB0.out.size
  clear hb1 HB0
  go_wp2_with fail
  go_ret3
  exact ⟨rfl, hb2⟩
set_option maxRecDepth 100000 in
set_option maxHeartbeats 2000000 in
theorem tour_2 (ja : Option Addr) (js : List Jo) (jc : Nat) (na : Option Addr) (ns : List Ni) (nc : Nat) (a : Option Addr) (l : List Int) (ca : Nat) (x : Int) (w : World) (hJ : JobsS w ja js) (hN : NightsS w na ns) (hA : IntsC w a l) (he : plnE js ns l = 0) (hx : ¬ (0 ≤ x ∧ x < ns.length)) :
    Calls Try.prog 13 #[.slice ja js.length jc, .slice na ns.length nc, .slice a l.length ca, .int .i64 x] w fun e w' => e = .returned (.tuple #[.slice none 0 0, .int .i64 0, .int .i64 2]) ∧ Below w.heap.size w w' := by
  have H1 := Lib.hid (fun W (hW : Below w.heap.size w W) => nPE_r ja js jc na ns nc a l ca W (hJ.below hW) (hN.below hW) (hA.below hW))
  rw [he] at H1
  have hnl := hN.1
  have hbt : btw x 0 ((ns.length : Int) - 1) = false := by
    rcases btw_casesN x 0 ((ns.length : Int) - 1) with h | h
    · have := (btw_iff _ _ _).1 h; omega
    · exact h
  have HW := Lib.hid (fun (W : World) (b : Nat) (hc : W.cell? ⟨b, 0, none⟩ = some (.int .i64 x)) => withinN1_any 0 ((ns.length : Int) - 1) x b W hc)
  rw [hbt] at HW
  clear hJ hN hA he hbt
  obtain ⟨wB, hwB⟩ : ∃ wB, ((w.alloc (.cells #[.slice ja js.length jc] 22)).alloc (.cells #[.slice a l.length ca] 26)).alloc (.cells #[.int .i64 x] 3) = wB := ⟨_, rfl⟩
  have hb : Below w.heap.size w wB := by rw [← hwB]; exact (((Below.refl _ _).alloc (Nat.le_refl _) _).alloc (by simp) _).alloc (by simp; omega) _
  have hz : w.heap.size + 1 + 1 < wB.heap.size := by rw [← hwB]; simp
  have p0 : wB.cell? ⟨w.heap.size, 0, none⟩ = some (.slice ja js.length jc) := by rw [← hwB]; simp [go_sem]
  have p1 : wB.cell? ⟨w.heap.size + 1, 0, none⟩ = some (.slice a l.length ca) := by rw [← hwB]; simp [go_sem]
  have p2 : wB.cell? ⟨w.heap.size + 1 + 1, 0, none⟩ = some (.int .i64 x) := by rw [← hwB]; simp [go_sem]
  go_enter Try.func13, Try.ntmps13
  go_wp2_with fail
  clear hwB
  refine (H1.out _ hb).mono ?_
  rintro e w1 ⟨rfl, hb1⟩
  have p2 := cell_below p2 hb1
  have hb := below_onN hb hb1 hb.size
  clear hb1 p0 p1
  go_wp2_with fail
  refine (HW.out _ _ (by simp [go_sem])).mono ?_
  rintro e w2 ⟨rfl, hb2⟩
  have hb := below_onN (hb.alloc hb.size _) hb2 (by have := hb.size; simp; omega)
  clear hb2
  go_wp2_with fail
  go_ret3
  exact ⟨rfl, hb⟩
set_option maxRecDepth 100000 in
set_option maxHeartbeats 4000000 in
theorem tour_3 (ja : Option Addr) (js : List Jo) (jc : Nat) (na : Option Addr) (ns : List Ni) (nc : Nat) (a : Option Addr) (l : List Int) (ca : Nat) (x : Int) (w : World) (hJ : JobsS w ja js) (hN : NightsS w na ns) (hA : IntsC w a l) (he : plnE js ns l = 0) (hx : 0 ≤ x ∧ x < ns.length) (h30 : l.length < 40) :
    Calls Try.prog 13 #[.slice ja js.length jc, .slice na ns.length nc, .slice a l.length ca, .int .i64 x] w fun e w' => TouE js l x w e w' := by
  obtain ⟨he1, he2, he3⟩ := plnE_ok he
  have hlj : l.length = js.length := (plnB_iff.1 he2).1
  have hjb := (errL_ok he1).1
  have H1 := Lib.hid (fun W (hW : Below w.heap.size w W) => nPE_r ja js jc na ns nc a l ca W (hJ.below hW) (hN.below hW) (hA.below hW))
  rw [he] at H1
  have hnl := hN.1
  have hbt : btw x 0 ((ns.length : Int) - 1) = true := btw_t (by omega) (by omega)
  have HW := Lib.hid (fun (W : World) (b : Nat) (hc : W.cell? ⟨b, 0, none⟩ = some (.int .i64 x)) => withinN1_any 0 ((ns.length : Int) - 1) x b W hc)
  rw [hbt] at HW
  have HJ := Lib.hid (fun W (hW : Below w.heap.size w W) => hJ.below hW)
  have HI := Lib.hid (fun W (hW : Below w.heap.size w W) (p1 : W.cell? ⟨w.heap.size + 1, 0, none⟩ = some (.slice a l.length ca)) (p2 : W.cell? ⟨w.heap.size + 1 + 1, 0, none⟩ = some (.int .i64 x)) =>
    indexes_t1 l.length (by omega) #[.pointer (some ⟨w.heap.size + 1, 0, none⟩), .pointer (some ⟨w.heap.size + 1 + 1, 0, none⟩)] (fun k => gi l k == x) W (fun j W2 hj hW2 => tour1_r l x a ca (w.heap.size + 1) (w.heap.size + 1 + 1) j hj W2 (hA.below (below_onN hW hW2 hW.size)) (cell_below p1 hW2) (cell_below p2 hW2)))
  have HL := Lib.hid hlj
  have HCh : Hid (∀ m, m < l.length → 0 ≤ (gj js m).c ∧ (gj js m).c ≤ 10000000) := Lib.hid fun m hm => chain_b hjb (by omega)
  have HT0 : Hid (TourP js l x [] ∨ 0 < (selK (fun k => gi l k == x) l.length).length) := Lib.hid (by
    rcases Nat.eq_zero_or_pos (selK (fun k => gi l k == x) l.length).length with h | h
    · left
      have e := List.eq_nil_of_length_eq_zero h
      exact ⟨List.Pairwise.nil, fun y => by rw [e]⟩
    · exact .inr h)
  have HS : Hid (∀ T, SrtS (chJ js) T 0 T.length → Seg 0 (selK (fun k => gi l k == x) l.length).length (selK (fun k => gi l k == x) l.length) T → TourP js l x T) := Lib.hid fun T h1 h2 => ⟨srt_pair h1, fun y => seg_mem h2 y⟩
  have HAs : Hid (AscS (selK (fun k => gi l k == x) l.length) 0 (selK (fun k => gi l k == x) l.length).length) := Lib.hid fun i j _ h2 h3 => by
    have := List.pairwise_iff_getElem.1 (selK_pair (fun k => gi l k == x) l.length) i j (by omega) h3 h2
    rw [gi_eq (Nat.lt_trans h2 h3), gi_eq h3]
    exact this
  have HOk : Hid (∀ i, i < (selK (fun k => gi l k == x) l.length).length → ∃ m : Nat, gi (selK (fun k => gi l k == x) l.length) i = m ∧ m < l.length) := Lib.hid fun i hi => by
    obtain ⟨m, h1, h2, _⟩ := selK_gi _ _ hi
    exact ⟨m, h1, h2⟩
  have hsl : (selK (fun k => gi l k == x) l.length).length ≤ l.length := selK_len _ _
  clear hJ hN hA he hbt he1 he2 he3 hlj hjb
  obtain ⟨wB, hwB⟩ : ∃ wB, ((w.alloc (.cells #[.slice ja js.length jc] 22)).alloc (.cells #[.slice a l.length ca] 26)).alloc (.cells #[.int .i64 x] 3) = wB := ⟨_, rfl⟩
  have hb : Below w.heap.size w wB := by rw [← hwB]; exact (((Below.refl _ _).alloc (Nat.le_refl _) _).alloc (by simp) _).alloc (by simp; omega) _
  have hz : w.heap.size + 1 + 1 < wB.heap.size := by rw [← hwB]; simp
  have p0 : wB.cell? ⟨w.heap.size, 0, none⟩ = some (.slice ja js.length jc) := by rw [← hwB]; simp [go_sem]
  have p1 : wB.cell? ⟨w.heap.size + 1, 0, none⟩ = some (.slice a l.length ca) := by rw [← hwB]; simp [go_sem]
  have p2 : wB.cell? ⟨w.heap.size + 1 + 1, 0, none⟩ = some (.int .i64 x) := by rw [← hwB]; simp [go_sem]
  go_enter Try.func13, Try.ntmps13
  go_wp2_with fail
  clear hwB
  refine (H1.out _ hb).mono ?_
  rintro e w1 ⟨rfl, hb1⟩
  have p0 := cell_below p0 hb1
  have p1 := cell_below p1 hb1
  have p2 := cell_below p2 hb1
  have hz := Nat.lt_of_lt_of_le hz hb1.size
  have hb := below_onN hb hb1 hb.size
  clear hb1
  go_wp2_with fail
  refine (HW.out _ _ (by simp [go_sem])).mono ?_
  rintro e w2 ⟨rfl, hb2⟩
  have hbx : Below w1.heap.size w1 w2 := ((Below.refl _ _).alloc (Nat.le_refl _) _).trans (hb2.mono (by simp))
  have p0 := cell_below p0 hbx
  have p1 := cell_below p1 hbx
  have p2 := cell_below p2 hbx
  have hz := Nat.lt_of_lt_of_le hz hbx.size
  have hb := below_onN hb hbx hb.size
  clear hbx hb2
  have HIx := Lib.hid (HI.out w2 hb p1 p2)
  clear HI HW H1
  generalize selK (fun k => gi l k == x) l.length = X at *
  go_wp2_with fail
  refine HIx.out.mono ?_
  rintro e w3 ⟨ar, cr, rfl, hrow, hb3⟩
  have p0 := cell_below p0 hb3
  have hzz := hz
  have hz := Nat.lt_of_lt_of_le hz hb3.size
  have hb := below_onN hb hb3 hb.size
  have hb2z := hb3.size
  clear HIx hb3 p1 p2
  rcases Nat.eq_zero_or_pos X.length with hX | hX
  · have hT := HT0.out.resolve_right (by omega)
    have HT := Lib.hid hT
    have dX : ((X.length : Int) == 0) = true := by simp; exact List.eq_nil_of_length_eq_zero hX
    clear hT HT0 HS HAs HOk hrow
    go_wp2_with fail
    go_ret3
    exact ⟨[], none, 0, rfl, intsC_nil2 _, HT.out, hb⟩
  · have dX : ((X.length : Int) == 0) = false := beq_false_of_ne (by omega)
    obtain ⟨g, rfl, hg1, hg2, hP⟩ := planR_own hrow (by
      rintro rfl
      rcases hrow.2 with ⟨h1, h2⟩ | ⟨g2, c2, cur, h1, _⟩
      · omega
      · cases h1)
    have hgB : w.heap.size ≤ g := by omega
    have hJ3 := HJ.out w3 hb
    have HSo := Lib.hid (sortStable_r #[.pointer (some ⟨w.heap.size, 0, none⟩)] (chJ js) (fun y => ∃ m : Nat, y = m ∧ m < l.length) g X.length cr X w3 (fun y1 y2 W n hy1 hy2 hT => by
      obtain ⟨m1, rfl, hm1⟩ := hy1
      obtain ⟨m2, rfl, hm2⟩ := hy2
      have hbT : Below w.heap.size w3 W := hT.below hgB hgB hb.size
      exact (tour2_r js ja jc w.heap.size m1 m2 (by have := HL.out; omega) (by have := HL.out; omega) (W.drewN n) (show JobsS W ja js from HJ.out W (hb.trans hbT)) (show W.cell? _ = _ from hT.cell p0 (by omega) (by omega))).mono fun e w' h => h) (by omega) hP rfl HOk.out HAs.out)
    have HIn : Hid (∀ T, Seg 0 X.length X T → ∀ i, i < T.length → ∃ m : Nat, gi T i = m ∧ m < l.length) := Lib.hid fun T hT i hi => by
      obtain ⟨y, _, y2, y3⟩ := hT.to i (Nat.zero_le _) (by have := hT.len; omega)
      rw [y3]; exact HOk.out y y2
    clear hrow hP HT0 HAs HOk
    go_wp2_with fail
    refine HSo.out.mono ?_
    rintro e w4 ⟨T, ⟨rfl, hP4, hT4⟩, hl4, hg4, hs4⟩
    have hb4 : Below w.heap.size w w4 := hb.trans (hT4.below hgB hgB hb.size)
    have p0 := hT4.cell p0 (by omega) (by omega)
    have hJ4 := HJ.out w4 hb4
    obtain ⟨jb, jo, HJa, HJc⟩ := jobs_cells hJ4
    obtain ⟨m1, e1, f1⟩ := HIn.out T hg4 (X.length - 1) (by omega)
    obtain ⟨m0, e0, f0⟩ := HIn.out T hg4 0 (by omega)
    have HTP := Lib.hid (HS.out T (by rw [hl4]; exact hs4) hg4)
    have HPi := Lib.hid (hP4.ints (by omega))
    have v1 := hP4.1 (X.length - 1) (by omega)
    have v0 := hP4.1 0 (by omega)
    rw [e1] at v1
    rw [e0] at v0
    have hjl : 0 < js.length := by have := HL.out; omega
    obtain rfl := HJa.out hjl
    have d1 := (HJc.out m1 (by have := HL.out; omega)).2.2.1
    have d0 := (HJc.out m0 (by have := HL.out; omega)).2.2.1
    obtain ⟨c10, c11⟩ := HCh.out m1 f1
    obtain ⟨c00, c01⟩ := HCh.out m0 f0
    have HF : Hid (farL js T = (gj js m1).c - (gj js m0).c) := Lib.hid (by
      unfold farL chJ
      rw [if_neg (by intro h; rw [h] at hl4; simp at hl4; omega), hl4, e1, e0, Int.toNat_natCast, Int.toNat_natCast])
    have HL4 := Lib.hid hl4
    have k1 : m1 < js.length := by have := HL.out; omega
    have k0 : m0 < js.length := by have := HL.out; omega
    obtain ⟨u, hu⟩ : ∃ u : Nat, (X.length : Int) - 1 = u := ⟨X.length - 1, by omega⟩
    have k2 : u < X.length := by omega
    rw [show X.length - 1 = u by omega] at v1
    clear HJa HJc hJ3 hJ4 HSo HS HIn hP4 hT4 hl4 hg4 hs4 HJ e1 e0 hg2
    generalize (gj js m1).c = y1 at *
    generalize (gj js m0).c = y0 at *
    go_wp2_with fail
    go_quiet (fail)
    go_wp2_with fail
    go_ret3
    exact ⟨T, some ⟨g, 0, none⟩, cr, by rw [HF.out, HL4.out]; rfl, (show IntsC w4 _ _ from HPi.out), HTP.out, below_drewN hb4 _⟩
end Go.Proofs.Ytghlhjiomebmhaa

namespace Go.Proofs.Ytghlhjiomebmhaa
set_option linter.unusedVariables false
set_option linter.unusedSimpArgs false
open Go.RowKit

theorem gi_snoc2 (pre : List Int) (x : Int) : gi (pre ++ [x]) pre.length = x := by rw [gi_app, if_neg (by omega), if_pos rfl]
theorem clI_set (l : List Int) (i : Nat) (v : Int) : (clI l).set i (.int .i64 v) = clI (l.set i v) := by unfold clI; rw [List.map_set]
theorem own_swap1 {w : World} {base g n c : Nat} {l : List Int} (h : w.ownsRow base 3 1 (.slice (some ⟨g, 0, none⟩) n c) n (clI l)) (i j : Nat) : ((w.setCell ⟨g, i, none⟩ (.int .i64 (gi l j))).setCell ⟨g, j, none⟩ (.int .i64 (gi l i))).ownsRow base 3 1 (.slice (some ⟨g, 0, none⟩) n c) n (clI (swpL l i j)) := by
  have := (World.ownsRow.stored (World.ownsRow.stored h i (.int .i64 (gi l j))).1 j (.int .i64 (gi l i))).1
  rw [clI_set, clI_set] at this
  exact this
theorem own_swap2 {w : World} {base g n c : Nat} {l : List Int} (h : w.ownsRow base 3 1 (.slice (some ⟨g, 0, none⟩) n c) n (clI l)) (i j : Nat) (hij : i ≠ j) : ((w.setCell ⟨g, j, none⟩ (.int .i64 (gi l i))).setCell ⟨g, i, none⟩ (.int .i64 (gi l j))).ownsRow base 3 1 (.slice (some ⟨g, 0, none⟩) n c) n (clI (swpL l i j)) := by
  have := (World.ownsRow.stored (World.ownsRow.stored h j (.int .i64 (gi l i))).1 i (.int .i64 (gi l j))).1
  rw [clI_set, clI_set] at this
  have e : (l.set j (gi l i)).set i (gi l j) = swpL l i j := by unfold swpL; exact List.set_comm _ _ (Ne.symm hij)
  rw [e] at this
  exact this
set_option maxRecDepth 100000 in
theorem rtour_1 (ja : Option Addr) (js : List Jo) (jc : Nat) (na : Option Addr) (ns : List Ni) (nc : Nat) (a : Option Addr) (l : List Int) (ca : Nat) (x : Int) (w : World) (hJ : JobsS w ja js) (hN : NightsS w na ns) (hA : IntsC w a l) (he : (plnE js ns l == 0) = false) :
    Calls Try.prog 14 #[.slice ja js.length jc, .slice na ns.length nc, .slice a l.length ca, .int .i64 x] w fun e w' => e = .returned (.tuple #[.slice none 0 0, .int .i64 0, .int .i64 (plnE js ns l)]) ∧ Below w.heap.size w w' := by
  have H1 := Lib.hid (refPlans_r ja js jc na ns nc a l ca w hJ hN hA)
  clear hJ hN hA
  generalize plnE js ns l = E at *
  go_enter Try.func14, Try.ntmps14
  go_wp2_with fail
  refine H1.out.mono ?_
  rintro e w1 ⟨rfl, hb1⟩
  go_wp2_with fail
  go_ret3
  exact ⟨rfl, hb1⟩
set_option maxRecDepth 100000 in
theorem rtour_2 (ja : Option Addr) (js : List Jo) (jc : Nat) (na : Option Addr) (ns : List Ni) (nc : Nat) (a : Option Addr) (l : List Int) (ca : Nat) (x : Int) (w : World) (hJ : JobsS w ja js) (hN : NightsS w na ns) (hA : IntsC w a l) (he : plnE js ns l = 0) (hx : ¬ (0 ≤ x ∧ x < ns.length)) :
    Calls Try.prog 14 #[.slice ja js.length jc, .slice na ns.length nc, .slice a l.length ca, .int .i64 x] w fun e w' => e = .returned (.tuple #[.slice none 0 0, .int .i64 0, .int .i64 2]) ∧ Below w.heap.size w w' := by
  have H1 := Lib.hid (refPlans_r ja js jc na ns nc a l ca w hJ hN hA)
  rw [he] at H1
  have hnl := hN.1
  clear hJ hN hA he
  by_cases h0 : x < 0
  · have d0 : decide (x < 0) = true := decide_eq_true h0
    go_enter Try.func14, Try.ntmps14
    go_wp2_with fail
    refine H1.out.mono ?_
    rintro e w1 ⟨rfl, hb1⟩
    go_wp2_with fail
    go_ret3
    exact ⟨rfl, hb1⟩
  · have d0 : decide (x < 0) = false := decide_eq_false h0
    have d1 : decide ((ns.length : Int) ≤ x) = true := decide_eq_true (by omega)
    go_enter Try.func14, Try.ntmps14
    go_wp2_with fail
    refine H1.out.mono ?_
    rintro e w1 ⟨rfl, hb1⟩
    go_wp2_with fail
    go_ret3
    exact ⟨rfl, hb1⟩
/-- What stands in the list behind the first k jobs. -/
structure TrP (js : List Jo) (l : List Int) (x : Int) (k : Nat) (T : List Int) : Prop where
  srt : SrtS (chJ js) T 0 T.length
  mem : ∀ y, y ∈ T ↔ y ∈ selK (fun i => gi l i == x) k
  len : T.length ≤ k
theorem TrP.nat {js : List Jo} {l : List Int} {x : Int} {k : Nat} {T : List Int} (h : TrP js l x k T) {i : Nat} (hi : i < T.length) : ∃ m : Nat, gi T i = m ∧ m < k := by
  obtain ⟨m, h1, h2, _⟩ := selK_mem _ _ _ ((h.mem _).1 (mem_of_gi hi))
  exact ⟨m, h1, h2⟩
theorem trP_skip {js : List Jo} {l : List Int} {x : Int} {k : Nat} {T : List Int} (h : TrP js l x k T) (hx : gi l k ≠ x) : TrP js l x (k + 1) T := ⟨h.srt, fun y => by
  rw [h.mem y]
  show _ ↔ y ∈ (if (gi l k == x) = true then _ else _)
  rw [if_neg (by simpa using hx)], by have := h.len; omega⟩
theorem trP_add {js : List Jo} {l : List Int} {x : Int} {k : Nat} {T c : List Int} (h : TrP js l x k T) (hx : gi l k = x) (hc : c.length = T.length + 1) {j : Nat} (hj : j ≤ T.length)
    (hlo : j = 0 ∨ ¬ chJ js k < chJ js (gi T (j - 1))) (hhi : j = T.length ∨ chJ js k < chJ js (gi T j))
    (hf : ∀ y, gi c y = if j < y ∧ y ≤ T.length then gi (T ++ [(k : Int)]) (y - 1) else if y = j then (k : Int) else gi (T ++ [(k : Int)]) y) : TrP js l x (k + 1) c := by
  have g0 : ∀ y, y < T.length → gi (T ++ [(k : Int)]) y = gi T y := fun y hy => by rw [gi_app, if_pos hy]
  have g1 : gi (T ++ [(k : Int)]) T.length = k := gi_snoc2 T k
  have hs : SrtS (chJ js) (T ++ [(k : Int)]) 0 T.length := fun p q h1 h2 h3 => by rw [g0 p (by omega), g0 q h3]; exact h.srt p q h1 h2 h3
  obtain ⟨d1, d2⟩ := dn_done (K := chJ js) (l := T ++ [(k : Int)]) (c := c) (a := 0) (m := T.length) (i := j) (Nat.zero_le _) hj hs (fun y _ hy => by
    rw [g0 y hy, g1]
    obtain ⟨m, e, hm⟩ := h.nat hy
    omega) (by
    rcases hlo with e | e
    · exact .inl e
    · by_cases e0 : j = 0
      · exact .inl e0
      · right; rw [g1, g0 _ (by omega)]; exact e) (by
    rcases hhi with e | e
    · exact .inl e
    · by_cases e0 : j = T.length
      · exact .inl e0
      · right; rw [g1, g0 _ (by omega)]; exact e) (by simp; exact hc) (fun y => by rw [hf y, g1])
  refine ⟨by rw [hc]; exact d2, fun y => ?_, by have := h.len; omega⟩
  have hm := seg_mem (l := T ++ [(k : Int)]) (l' := c) (by simpa using d1) y
  rw [hm]
  show _ ↔ y ∈ (if (gi l k == x) = true then _ else _)
  rw [if_pos (by simpa using hx), List.mem_append, List.mem_append, h.mem y]
theorem trP_tour {js : List Jo} {l : List Int} {x : Int} {T : List Int} (h : TrP js l x l.length T) : TourP js l x T := ⟨srt_pair h.srt, h.mem⟩
set_option maxRecDepth 100000 in
set_option maxHeartbeats 8000000 in
theorem rtour_3 (ja : Option Addr) (js : List Jo) (jc : Nat) (na : Option Addr) (ns : List Ni) (nc : Nat) (a : Option Addr) (l : List Int) (ca : Nat) (x : Int) (w : World) (hJ : JobsS w ja js) (hN : NightsS w na ns) (hA : IntsC w a l) (he : plnE js ns l = 0) (hx : 0 ≤ x ∧ x < ns.length) :
    Calls Try.prog 14 #[.slice ja js.length jc, .slice na ns.length nc, .slice a l.length ca, .int .i64 x] w fun e w' => TouE js l x w e w' := by
  obtain ⟨he1, he2, he3⟩ := plnE_ok he
  have hlj : l.length = js.length := (plnB_iff.1 he2).1
  have hjb := (errL_ok he1).1
  have hl60 := jobsB_len hjb
  have hl6 : l.length ≤ 60 := by omega
  have H1 := Lib.hid (refPlans_r ja js jc na ns nc a l ca w hJ hN hA)
  rw [he] at H1
  have hnl := hN.1
  have d0 : decide (x < 0) = false := decide_eq_false (by omega)
  have d1 : decide ((ns.length : Int) ≤ x) = false := decide_eq_false (by omega)
  have HCh : Hid (∀ m, m < l.length → 0 ≤ (gj js m).c ∧ (gj js m).c ≤ 10000000) := Lib.hid fun m hm => chain_b hjb (by omega)
  have HT0 : Hid (TrP js l x 0 []) := Lib.hid ⟨fun i j h1 h2 h3 => by simp at h3, fun y => by simp [selK], Nat.le_refl _⟩
  have HSk : Hid (∀ k T, TrP js l x k T → gi l k ≠ x → TrP js l x (k + 1) T) := Lib.hid fun k T h h2 => trP_skip h h2
  have HAd : Hid (∀ (k j : Nat) (T c : List Int), TrP js l x k T → gi l k = x → c.length = T.length + 1 → j ≤ T.length → (j = 0 ∨ ¬ chJ js k < chJ js (gi T (j - 1))) → (j = T.length ∨ chJ js k < chJ js (gi T j)) → (∀ y, gi c y = if j < y ∧ y ≤ T.length then gi (T ++ [(k : Int)]) (y - 1) else if y = j then (k : Int) else gi (T ++ [(k : Int)]) y) → TrP js l x (k + 1) c) := Lib.hid fun k j T c q1 q2 q3 q4 q5 q6 q7 => trP_add q1 q2 q3 q4 q5 q6 q7
  have HE : Hid (∀ T, TrP js l x l.length T → TourP js l x T) := Lib.hid fun T h => trP_tour h
  have HL := Lib.hid hlj
  obtain ⟨jb, jo, HJa, HJc⟩ := jobs_cells hJ
  obtain ⟨hl64, blk, off, hadr, hc⟩ := hA
  have HC := Lib.hid hc
  have HLa : Hid (0 < l.length → a = some ⟨blk, off, none⟩) := Lib.hid fun h => hadr (pos_ne (n := 0) h)
  clear hc hadr hJ hN he he1 he2 he3 hlj hjb
  have HKd : Hid (∀ m : Nat, chJ js m = (gj js m).c) := Lib.hid fun m => by unfold chJ; rw [Int.toNat_natCast]
  go_enter Try.func14, Try.ntmps14
  go_wp2_with fail
  refine H1.out.mono ?_
  rintro e w1 ⟨rfl, hb1⟩
  clear H1
  go_wp2_with fail
  go_loopw [12, 13] (fun v i wr => ∃ (k : Nat) (T : List Int), k ≤ l.length ∧ i = .int .i64 k ∧ (∃ a c, v = .slice a T.length c) ∧ Hid (wr.ownsRow w.heap.size 3 1 v T.length (clI T)) ∧ Hid (TrP js l x k T) ∧ Below w.heap.size w wr) (fun _ i _ => l.length - (intOf i).toNat)
  case atStart => exact ⟨0, [], Nat.zero_le _, rfl, ⟨none, 0, rfl⟩, Lib.hid ⟨rfl, .inl ⟨rfl, rfl⟩⟩, HT0, hb1⟩
  case round =>
    obtain ⟨k, T, hk, rfl, ⟨av, cv, rfl⟩, HRow, HT, hb⟩ := hrel
    clear hb1
    by_cases hlt : k < l.length
    · obtain rfl := HLa.out (by omega)
      have e0 := cell_below (HC.out k hlt) hb
      have hTl := HT.out.len
      by_cases hy : gi l k = x
      · have dx : (gi l k != x) = false := by simp [hy]
        have HAdk := Lib.hid (fun j c q3 q4 q5 q6 q7 => HAd.out k j T c HT.out hy q3 q4 q5 q6 q7)
        have HTn := Lib.hid (fun i (hi : i < T.length) => HT.out.nat hi)
        have hown := Lib.hid (HRow.out.alloc (.cells #[.int .i64 k] 3))
        have hbs := hb.size
        generalize hgl : gi l k = yl at *
        clear HSk HAd HE HC HLa HT0 hgl hy HT
        obtain ⟨n, hn⟩ : ∃ n, T.length = n := ⟨_, rfl⟩
        have HN := Lib.hid hn
        rw [hn] at hown hTl
        rw [hn]
        clear hn
        go_upto_region 12 with (at_builtin; go_loud (refine app_int (by rfl) _ _ (by rfl) w.heap.size n cv av _ (by rfl) hown.out wr.heap.size (.int .i64 k) (by rfl) (by simp [go_sem]) (by rfl) (by omega) (by simp; omega) ?_); intro g6 c6 w6 hown6 hb6)
        have hb6 : Below w.heap.size w w6 := (hb.alloc hbs _).trans hb6
        have HR6 : Hid (w6.ownsRow w.heap.size 3 1 (.slice (some ⟨g6, 0, none⟩) (n + 1) c6) (n + 1) (clI (T ++ [(k : Int)]))) := Lib.hid (by rw [clI_app]; exact hown6)
        clear hown6 hown HRow e0
        go_wp2_with fail
        go_loopw [14] (fun vj wr => ∃ j : Nat, j ≤ n ∧ vj = .int .i64 j ∧ Below w.heap.size w wr ∧ Hid (j = T.length ∨ chJ js k < chJ js (gi T j)) ∧ Hid (∃ c : List Int, c.length = n + 1 ∧ wr.ownsRow w.heap.size 3 1 (.slice (some ⟨g6, 0, none⟩) (n + 1) c6) (n + 1) (clI c) ∧ ∀ y, gi c y = if j < y ∧ y ≤ T.length then gi (T ++ [(k : Int)]) (y - 1) else if y = j then (k : Int) else gi (T ++ [(k : Int)]) y)) (fun vj _ => (intOf vj).toNat)
        case atStart => exact ⟨n, Nat.le_refl _, by go_num, hb6, Lib.hid (.inl HN.out.symm), Lib.hid ⟨T ++ [(k : Int)], by simp [HN.out], HR6.out, fun y => by
          rw [if_neg (by have := HN.out; omega)]
          by_cases e : y = n
          · rw [if_pos e, e, ← HN.out]; exact gi_snoc2 T k
          · rw [if_neg e]⟩⟩
        case round =>
          obtain ⟨j, hj, rfl, hb, HJ, HK⟩ := hrel
          obtain ⟨c, c1, c2, c3⟩ := HK.out
          have hTn := HN.out
          by_cases hj0 : 0 < j
          · have dg : decide ((0 : Int) < j) = true := decide_eq_true (by omega)
            obtain ⟨u, hu⟩ : ∃ u : Nat, (j : Int) - 1 = u := ⟨j - 1, by omega⟩
            have e1 : gi c j = k := by rw [c3, if_neg (by omega), if_pos rfl]
            obtain ⟨m, em, hm⟩ := HTn.out (j - 1) (by omega)
            have e2 : gi c u = m := by
              rw [c3, if_neg (by omega), if_neg (by omega), gi_app, if_pos (by omega), show u = j - 1 by omega]; exact em
            have v1 : wr.cell? ⟨g6, j, none⟩ = some (.int .i64 k) := by rw [World.ownsRow.cellAt c2 j (by omega), clI_get c (by omega), e1]
            have v2 : wr.cell? ⟨g6, u, none⟩ = some (.int .i64 m) := by rw [World.ownsRow.cellAt c2 u (by omega), clI_get c (by omega), e2]
            have hkj : k < js.length := by have := HL.out; omega
            have hmj : m < js.length := by omega
            obtain rfl := HJa.out (by omega)
            have q1 := cell_below (HJc.out k hkj).2.2.1 hb
            have q2 := cell_below (HJc.out m hmj).2.2.1 hb
            have l1 : j < n + 1 := by omega
            have l2 : u < n + 1 := by omega
            by_cases hx2 : (gj js k).c < (gj js m).c
            · have hd : decide ((gj js k).c < (gj js m).c) = true := decide_eq_true hx2
              have HS1 := Lib.hid (own_swap1 c2 j u)
              have HS2 := Lib.hid (own_swap2 c2 j u (by omega))
              rw [e1, e2] at HS1 HS2
              have hg6 : w.heap.size ≤ g6 := owns_blockI c2 (z := g6) (by simp [Value.ownBlock])
              have HNx : Hid ((swpL c j u).length = n + 1 ∧ ∀ y, gi (swpL c j u) y = if u < y ∧ y ≤ T.length then gi (T ++ [(k : Int)]) (y - 1) else if y = u then (k : Int) else gi (T ++ [(k : Int)]) y) := Lib.hid ⟨by rw [swpL_len]; exact c1, fun y => by
                rw [gi_swpL (by omega) (by omega) (by omega), c3, c3, c3]
                repeat' split
                all_goals first | (exfalso; omega) | (congr 1; omega) | rfl⟩
              have HJ2 : Hid (u = T.length ∨ chJ js k < chJ js (gi T u)) := Lib.hid (.inr (by rw [show u = j - 1 by omega, em, HKd.out, HKd.out]; exact hx2))
              have f1 : wr.frozen? ⟨g6, j, none⟩ = false := World.ownsRow.frozenAt c2 j
              have f2 : wr.frozen? ⟨g6, u, none⟩ = false := World.ownsRow.frozenAt c2 u
              have k5 : u ≠ j := by omega
              have k6 : j ≠ u := by omega
              have k7 : u < j := by omega
              clear HK c1 c2 c3 e1 e2 hx2 HJ HAdk HTn HJc HJa HKd HCh em HR6 hb6
              generalize swpL c j u = c9 at *
              generalize (gj js k).c = xk at *
              generalize (gj js m).c = xm at *
              go_wp2_with fail
              go_quiet (fail)
              go_wp2_with fail
              go_region
              all_goals
                go_wp2_with fail
                go_roundw
                case rel => exact ⟨u, by omega, by go_num, by first | exact ((below_drewN hb _).setCell hg6 _).setCell hg6 _ | exact (((below_drewN hb _).drew).setCell hg6 _).setCell hg6 _, HJ2, Lib.hid ⟨c9, HNx.out.1, by first | exact HS1.out | exact HS2.out, HNx.out.2⟩⟩
                case measure => simp [intOf]; omega
            · have hd : decide ((gj js k).c < (gj js m).c) = false := decide_eq_false hx2
              have hTr := HAdk.out j c (by omega) (by omega) (.inr (by rw [em, HKd.out, HKd.out]; omega)) HJ.out c3
              have HTr := Lib.hid hTr
              have HRc : ∀ q, Hid ((wr.drewN q).ownsRow w.heap.size 3 1 (.slice (some ⟨g6, 0, none⟩) (n + 1) c6) c.length (clI c)) := fun q => Lib.hid (by rw [c1]; exact c2)
              have HCl := Lib.hid c1
              clear HK c1 c2 c3 e1 e2 hx2 HJ HAdk HTn HJc HJa HKd HCh em HR6 hb6 hTr
              generalize (gj js k).c = xk at *
              generalize (gj js m).c = xm at *
              go_wp2_with fail
              go_quiet (fail)
              go_wp2_with fail
              go_roundw
              case rel => exact ⟨k + 1, c, by omega, by go_num, ⟨_, c6, by rw [HCl.out]⟩, by first | exact HRc _ | exact (by rw [HCl.out]; exact HRc _), HTr, below_drewN hb _⟩
              case measure => simp [intOf]; omega
          · obtain rfl : j = 0 := by omega
            have dg : decide ((0 : Int) < ((0 : Nat) : Int)) = false := rfl
            have dg2 : decide ((0 : Int) < 0) = false := rfl
            have hTr := HAdk.out 0 c (by omega) (Nat.zero_le _) (.inl rfl) HJ.out c3
            have HTr := Lib.hid hTr
            have HRc : ∀ q, Hid ((wr.drewN q).ownsRow w.heap.size 3 1 (.slice (some ⟨g6, 0, none⟩) (n + 1) c6) c.length (clI c)) := fun q => Lib.hid (by rw [c1]; exact c2)
            have HCl := Lib.hid c1
            clear HK c1 c2 c3 HJ HAdk HTn HJc HJa HKd HCh HR6 hb6 hTr
            go_wp2_with fail
            go_quiet (fail)
            go_wp2_with fail
            go_roundw
            case rel => exact ⟨k + 1, c, by omega, by go_num, ⟨_, c6, by rw [HCl.out]⟩, by first | exact HRc _ | exact (by rw [HCl.out]; exact HRc _), HTr, below_drewN hb _⟩
            case measure => simp [intOf]; omega
      · have dx : (gi l k != x) = true := by simp [hy]
        have HT2 := Lib.hid (HSk.out k T HT.out hy)
        clear HSk HAd HE HC HLa HT0 HJc HJa HCh
        generalize gi l k = yl at *
        clear hy
        go_wp2_with fail
        go_roundw
        case rel => exact ⟨k + 1, T, by omega, by go_num, ⟨av, cv, rfl⟩, HRow, HT2, hb⟩
        case measure => simp [intOf]; omega
    · obtain rfl : k = l.length := by omega
      have HTo := Lib.hid (HE.out T HT.out)
      have hTl := HT.out.len
      rcases Nat.eq_zero_or_pos T.length with hX | hX
      · have dX : ((T.length : Int) == 0) = true := by simp; exact List.eq_nil_of_length_eq_zero hX
        have HTe : Hid (T = []) := Lib.hid (List.eq_nil_of_length_eq_zero hX)
        clear HSk HAd HE HC HLa HT0 HJc HJa HCh HT HRow
        go_wp2_with fail
        go_ret3
        exact ⟨[], none, 0, rfl, intsC_nil2 _, by rw [← HTe.out]; exact HTo.out, hb⟩
      · have dX : ((T.length : Int) == 0) = false := beq_false_of_ne (by omega)
        obtain ⟨g, rfl, hg1, hg2, hP⟩ := planR_own HRow.out (by
          rintro rfl
          rcases HRow.out.2 with ⟨h1, h2⟩ | ⟨g2, c2, cur, h1, _⟩
          · omega
          · cases h1)
        obtain ⟨m1, e1, f1⟩ := HT.out.nat (i := T.length - 1) (by omega)
        obtain ⟨m0, e0, f0⟩ := HT.out.nat (i := 0) (by omega)
        have HPi := Lib.hid (hP.ints (by omega))
        have v1 := hP.1 (T.length - 1) (by omega)
        have v0 := hP.1 0 (by omega)
        rw [e1] at v1
        rw [e0] at v0
        have hjl : 0 < js.length := by have := HL.out; omega
        obtain rfl := HJa.out hjl
        have d1 := cell_below (HJc.out m1 (by have := HL.out; omega)).2.2.1 hb
        have d0 := cell_below (HJc.out m0 (by have := HL.out; omega)).2.2.1 hb
        obtain ⟨c10, c11⟩ := HCh.out m1 f1
        obtain ⟨c00, c01⟩ := HCh.out m0 f0
        have HF : Hid (farL js T = (gj js m1).c - (gj js m0).c) := Lib.hid (by
          unfold farL chJ
          rw [if_neg (by intro h; rw [h] at hX; simp at hX), e1, e0, Int.toNat_natCast, Int.toNat_natCast])
        have k1 : m1 < js.length := by have := HL.out; omega
        have k0 : m0 < js.length := by have := HL.out; omega
        obtain ⟨u, hu⟩ : ∃ u : Nat, (T.length : Int) - 1 = u := ⟨T.length - 1, by omega⟩
        have k2 : u < T.length := by omega
        rw [show T.length - 1 = u by omega] at v1
        clear HSk HAd HE HC HLa HT0 HJc HJa HCh HT HRow hP e1 e0 hg1 hg2
        generalize (gj js m1).c = y1 at *
        generalize (gj js m0).c = y0 at *
        go_wp2_with fail
        go_quiet (fail)
        go_wp2_with fail
        go_ret3
        exact ⟨T, some ⟨g, 0, none⟩, cv, by rw [HF.out]; rfl, (show IntsC wr _ _ from HPi.out), HTo.out, below_drewN hb _⟩
end Go.Proofs.Ytghlhjiomebmhaa

namespace Go.Proofs.Ytghlhjiomebmhaa
set_option linter.unusedVariables false
set_option linter.unusedSimpArgs false
open Go.RowKit

section
variable {C : List (List Int)} {P : List Int} {L N : Nat}
/-- A search changes jobs from fr on alone, and its own. -/
def FixF (fr : Nat) (F : Nat → List Int → (Int → Bool) → Srch) : Prop := ∀ k pl tr i, i < fr → i ≠ k → gi (F k pl tr).2.1 i = gi pl i
theorem vacL_fix {F : Nat → List Int → (Int → Bool) → Srch} {fr : Nat} (hF : FixF fr F) (n : Int) : ∀ m k pl tr, fr ≤ k → ∀ i, i < fr → gi (vacL F n m k pl tr).2.1 i = gi pl i
  | 0, k, pl, tr, _, i, _ => rfl
  | m + 1, k, pl, tr, hk, i, hi => by
    unfold vacL
    split
    · split
      · exact hF k pl tr i hi (by omega)
      · rw [vacL_fix hF n m (k + 1) _ _ (by omega) i hi]; exact hF k pl tr i hi (by omega)
    · exact vacL_fix hF n m (k + 1) pl tr (by omega) i hi
theorem vacF_fix {F : Nat → List Int → (Int → Bool) → Srch} {fr : Nat} (hF : FixF fr F) (P : List Int) (n : Int) (pl : List Int) (tr : Int → Bool) : ∀ i, i < fr → gi (vacF F P fr n pl tr).2.1 i = gi pl i := fun i hi => by
  unfold vacF
  split
  · rfl
  · exact vacL_fix hF n _ _ pl tr (Nat.le_refl _) i hi
theorem gi_set_ne (l : List Int) (j : Nat) (v : Int) (i : Nat) (h : i ≠ j) : gi (l.set j v) i = gi l i := by
  unfold gi
  simp only [List.getD_eq_getElem?_getD, List.getElem?_set]
  rw [if_neg (by omega)]
theorem plcL_fix {V : Int → List Int → (Int → Bool) → Srch} {fr : Nat} (hV : ∀ n pl tr i, i < fr → gi (V n pl tr).2.1 i = gi pl i) (job : Nat) : ∀ l pl tr i, i < fr → i ≠ job → gi (plcL V job l pl tr).2.1 i = gi pl i
  | [], pl, tr, i, _, _ => rfl
  | n :: r, pl, tr, i, hi, hj => by
    unfold plcL
    split
    · exact plcL_fix hV job r pl tr i hi hj
    · split
      · rw [gi_set_ne _ _ _ _ hj]; exact hV n pl _ i hi
      · rw [plcL_fix hV job r _ _ i hi hj]; exact hV n pl _ i hi
theorem plF_fix (C : List (List Int)) (P : List Int) (fr : Nat) : ∀ d, FixF fr (plF C P fr d)
  | 0 => fun k pl tr i hi hk => rfl
  | d + 1 => fun k pl tr i hi hk => plcL_fix (fun n pl tr i hi => vacF_fix (plF_fix C P fr d) P n pl tr i hi) k _ pl tr i hi hk
/-- Where a search has found a night: those ahead of it were tried. -/
theorem plcL_hit {F : Nat → List Int → (Int → Bool) → Srch} {fr d : Nat} (hC : CompF C P L N fr d F) (hF : SoundF C P L N F) (hK : ∀ k, Keeps (F k)) (hfr : fr ≤ L) (job : Nat) (hj : job < L) : ∀ l : List Int, (∀ x : Int, x ∈ l → ∃ m : Nat, x = m ∧ m < N ∧ x ∈ gr C job) → ∀ pl tr, GoodP C P L N pl → untr tr N < d + 1 →
    (plcL (vacF F P fr) job l pl tr).1 = true → ∃ (pre post : List Int) (n : Int) (tr' : Int → Bool), l = pre ++ n :: post ∧ gi (plcL (vacF F P fr) job l pl tr).2.1 job = n ∧ (∀ x, x ∈ pre → tr' x = true) ∧ Found C P L N fr pl tr tr' ∧ (∀ x, tr x = true → tr' x = true)
  | [], _, pl, tr, _, _, h => by cases h
  | x :: r, hl, pl, tr, hg, hu, hf => by
    obtain ⟨n, rfl, hn, hx⟩ := hl x (by simp)
    have hr : ∀ y : Int, y ∈ r → ∃ m : Nat, y = m ∧ m < N ∧ y ∈ gr C job := fun y hy => hl y (List.mem_cons_of_mem _ hy)
    have hKV : ∀ n, Keeps (vacF F P fr n) := fun n => vacF_keeps hK P fr n
    unfold plcL at hf ⊢
    by_cases e : tr n = true
    · rw [if_pos e] at hf ⊢
      obtain ⟨pre, post, y, tr', h1, h2, h3, h4, h5⟩ := plcL_hit hC hF hK hfr job hj r hr pl tr hg hu hf
      refine ⟨(n : Int) :: pre, post, y, tr', by rw [h1]; rfl, h2, fun z hz => ?_, h4, h5⟩
      rcases List.mem_cons.1 hz with rfl | hz
      · exact h5 _ e
      · exact h3 z hz
    · rw [if_neg e] at hf ⊢
      have e0 : tr n = false := by simpa using e
      have hs : setAt tr (n : Int) true n = true := by unfold setAt; rw [if_pos rfl]
      by_cases e2 : (vacF F P fr n pl (setAt tr n true)).1 = true
      · rw [if_pos e2] at hf ⊢
        refine ⟨[], r, n, tr, rfl, ?_, fun z hz => by simp at hz, Found.refl _ _ _, fun z h => h⟩
        have hl2 := (hKV n pl (setAt tr n true)).1
        show gi ((vacF F P fr n pl (setAt tr n true)).2.1.set job n) job = n
        rw [gi_set _ job n job (by rw [hl2, hg.len]; exact hj), if_pos rfl]
      · have e3 : (vacF F P fr n pl (setAt tr n true)).1 = false := by simpa using e2
        have hpl := (vacF_sound hF hK fr hfr n pl (setAt tr n true) hn hs hg).1 e3
        have hk := (hKV n pl (setAt tr n true)).2
        have hu1 : untr (setAt tr n true) N < d := by have := untr_set e0 N hn; omega
        have hu2 : untr (vacF F P fr n pl (setAt tr n true)).2.2 N < d + 1 := by
          have := untr_mono hk N
          omega
        have key : (gi P n ≤ cntN pl n ∧ ∀ k, fr ≤ k → k < L → gi pl k = n → ∀ y, y ∈ gr C k → (vacF F P fr n pl (setAt tr n true)).2.2 y = true) ∧ Found C P L N fr pl (setAt tr n true) (vacF F P fr n pl (setAt tr n true)).2.2 := by
          unfold vacF at e3 ⊢
          rw [Int.toNat_natCast] at e3 ⊢
          by_cases e4 : cntN pl n < gi P n
          · rw [if_pos e4] at e3; cases e3
          · rw [if_neg e4] at e3 ⊢
            have h5 := vacL_comp hC hF hK n (pl.length - fr) fr pl (setAt tr n true) (by rw [hg.len]; omega) hg hu1 e3
            exact ⟨⟨by omega, fun k q1 q2 q3 y hy => h5.1 k q1 (by rw [hg.len]; omega) q3 y hy⟩, h5.2⟩
        rw [if_neg e2, hpl] at hf ⊢
        obtain ⟨pre, post, y, tr', h1, h2, h3, h4, h5⟩ := plcL_hit hC hF hK hfr job hj r hr pl _ hg hu2 hf
        have hA : Found C P L N fr pl tr (vacF F P fr n pl (setAt tr n true)).2.2 := fun y hy => by
          rcases key.2 y hy with h | h
          · unfold setAt at h
            by_cases ey : y = n
            · subst ey; exact .inr ⟨n, rfl, hn, key.1.1, key.1.2⟩
            · rw [if_neg ey] at h; exact .inl h
          · exact .inr h
        refine ⟨(n : Int) :: pre, post, y, tr', by rw [h1]; rfl, h2, fun z hz => ?_, hA.trans h4 h5, fun z hz => h5 _ (hk _ (setAt_mono _ _ _ hz))⟩
        rcases List.mem_cons.1 hz with rfl | hz
        · exact h5 _ (hk _ hs)
        · exact h3 z hz
/-- A night that was tried without success can have no job more. -/
theorem no_more {p q : List Int} {fr job : Nat} {T : Int → Bool} (hp : GoodP C P L N p) (hq : GoodP C P L N q) (hqc : ∀ i, i < L → 0 ≤ gi q i) (hj : job < fr) (hfr : fr ≤ L) (hpj : gi p job = -1)
    (hag : ∀ i, i < fr → i ≠ job → gi q i = gi p i) (hF : Found C P L N fr p noT T) : T (gi q job) = false := by
  cases eT : T (gi q job) with
  | false => rfl
  | true =>
    exfalso
    have hex : ∀ x, T x = true → ∃ m : Nat, x = m ∧ m < N ∧ gi P m ≤ cntN p m ∧ ∀ k, fr ≤ k → k < L → gi p k = m → ∀ y, y ∈ gr C k → T y = true := fun x h => by
      rcases hF x h with h | h
      · cases h
      · exact h
    have hTn : T (-1) = false := by
      cases e : T (-1) with
      | false => rfl
      | true => obtain ⟨m, e2, _⟩ := hex _ e; omega
    have h1 : cK (fun i => T (gi p i)) L < cK (fun i => T (gi q i)) L := cK_lt (j := job) (by rw [hpj]; exact hTn) eT _ (by omega) fun i hi h => by
      by_cases e : i = job
      · subst e; exact eT
      · by_cases e2 : i < fr
        · rw [hag i e2 e]; exact h
        · obtain ⟨m, h3, h4, h5, h6⟩ := hex _ h
          rcases hq.ent i hi with h7 | ⟨m2, h7, h8, h9⟩
          · have := hqc i hi; omega
          · rw [h7]; exact h6 i (by omega) hi h3 _ h9
    have h2 : cK (fun i => T (gi q i)) L ≤ sumW (fun m => T (m : Int)) (fun m => cK (fun i => gi q i == (m : Int)) L) N := cK_sum (p := fun i => gi q i) L fun i hi h => by
      rcases hq.ent i hi with e | ⟨m, e, hm, hmC⟩
      · rw [e, hTn] at h; cases h
      · exact ⟨m, e, hm, by rw [e] at h; exact h⟩
    have h3 : sumW (fun m => T (m : Int)) (fun m => cK (fun i => gi q i == (m : Int)) L) N ≤ sumW (fun m => T (m : Int)) (fun m => cK (fun i => gi p i == (m : Int)) L) N := sumW_imp _ fun m hm hT => ⟨hT, by
      have c1 := hq.cap m hm
      obtain ⟨m', e, _, c2, _⟩ := hex _ hT
      obtain rfl : m = m' := by omega
      rw [cntN_cK, hq.len] at c1
      rw [cntN_cK, hp.len] at c2
      omega⟩
    have h4 := sumW_cK T (fun i => gi p i) N L
    omega
/-- The jobs ahead of k stay where they are. -/
theorem lstK_fix (C : List (List Int)) (P : List Int) (D : Nat) (p : List Int) (i : Nat) : ∀ k, i < k → gi (lstK C P D k p) i = gi (lstK C P D (i + 1) p) i
  | 0, h => by omega
  | k + 1, h => by
    by_cases e : i = k
    · rw [e]
    · rw [← lstK_fix C P D p i k (by omega)]
      show gi (plF C P (k + 1) D k ((lstK C P D k p).set k (-1)) noT).2.1 i = _
      rw [plF_fix C P (k + 1) D k _ _ i (by omega) (by omega), gi_set_ne _ _ _ _ e]
/-- A job that is taken out, in a plan without gaps, keeps the plan right. -/
theorem good_out {p : List Int} (hg : GoodP C P L N p) {k : Nat} (hk : k < L) : GoodP C P L N (p.set k (-1)) := by
  have hkl : k < p.length := by rw [hg.len]; exact hk
  refine ⟨by rw [List.length_set]; exact hg.len, fun i hi => ?_, fun m hm => ?_⟩
  · rw [gi_set _ k (-1) i hkl]
    by_cases e : i = k
    · rw [if_pos e]; exact .inl rfl
    · rw [if_neg e]; exact hg.ent i hi
  · have h1 := hg.cap m hm
    rw [cntN_cK] at h1 ⊢
    rw [List.length_set]
    have := cK_le (f := fun i => gi (p.set k (-1)) i == (m : Int)) (g := fun i => gi p i == (m : Int)) p.length fun i hi h => by
      simp only [gi_set _ k (-1) i hkl] at h
      by_cases e : i = k
      · rw [if_pos e] at h; simp at h
      · rw [if_neg e] at h; exact h
    omega
/-- No complete plan is less. -/
theorem lst_least (hE : ∀ i, i < L → ∀ j, j < (gr C i).length → ∃ m : Nat, gi (gr C i) j = m ∧ m < N) (hA : ∀ i, i < L → (gr C i).Pairwise (· < ·)) {p q : List Int} (hp : GoodP C P L N p) (hpc : ∀ i, i < L → 0 ≤ gi p i) (hq : GoodP C P L N q) (hqc : ∀ i, i < L → 0 ≤ gi q i) {k : Nat} (hk : k < L)
    (hag : ∀ i, i < k → gi q i = gi (lstK C P (N + 1) L p) i) : gi (lstK C P (N + 1) L p) k ≤ gi q k := by
  rw [lstK_fix C P (N + 1) p k L hk]
  obtain ⟨hg, hn⟩ := lstK_good hE hp hpc k (by omega)
  have hkl : k < (lstK C P (N + 1) k p).length := by rw [hg.len]; omega
  have hg2 := good_out hg hk
  have hpk : gi ((lstK C P (N + 1) k p).set k (-1)) k = -1 := by rw [gi_set _ k (-1) k hkl, if_pos rfl]
  have hl : ∀ x : Int, x ∈ gr C k → ∃ m : Nat, x = m ∧ m < N ∧ x ∈ gr C k := fun x hx => by
    obtain ⟨j, hj, e⟩ := mem_gi hx
    obtain ⟨m, h1, h2⟩ := hE k hk j hj
    exact ⟨m, by rw [← e]; exact h1, h2, hx⟩
  have hq3 : ∀ i, i < k + 1 → i ≠ k → gi q i = gi ((lstK C P (N + 1) k p).set k (-1)) i := fun i hi e => by
    rw [gi_set_ne _ _ _ _ e, hag i (by omega), lstK_fix C P (N + 1) p i L (by omega), ← lstK_fix C P (N + 1) p i k (by omega)]
  show gi (plF C P (k + 1) (N + 1) k ((lstK C P (N + 1) k p).set k (-1)) noT).2.1 k ≤ gi q k
  cases e : (plF C P (k + 1) (N + 1) k ((lstK C P (N + 1) k p).set k (-1)) noT).1 with
  | false =>
    have hcm := plF_comp hE (k + 1) hk (N + 1) k _ noT (by omega) hg2 (by rw [untr_noT]; omega) e
    have h1 := no_more hg2 hq hqc (Nat.lt_succ_self k) hk hpk hq3 hcm.2
    rcases hq.ent k hk with h | ⟨m, h, hm, hmC⟩
    · have := hqc k hk; omega
    · rw [h, hcm.1 _ hmC] at h1; cases h1
  | true =>
    obtain ⟨pre, post, n, tr', h1, h2, h3, h4, h5⟩ := plcL_hit (plF_comp hE (k + 1) hk N) (plF_sound hE (k + 1) hk N) (fun j => plF_keeps C P (k + 1) N j) hk k hk (gr C k) hl _ noT hg2 (by rw [untr_noT]; omega) e
    have h2' : gi (plF C P (k + 1) (N + 1) k ((lstK C P (N + 1) k p).set k (-1)) noT).2.1 k = n := h2
    rw [h2']
    have h6 := no_more hg2 hq hqc (Nat.lt_succ_self k) hk hpk hq3 h4
    rcases hq.ent k hk with h | ⟨m, h, hm, hmC⟩
    · have := hqc k hk; omega
    · rw [h] at h6 ⊢
      rw [h1] at hmC
      have hA2 := hA k hk
      rw [h1, List.pairwise_append] at hA2
      rcases List.mem_append.1 hmC with hx | hx
      · rw [h3 _ hx] at h6; cases h6
      · rcases List.mem_cons.1 hx with hx | hx
        · omega
        · have := (List.pairwise_cons.1 hA2.2.1).1 _ hx
          omega
end
end Go.Proofs.Ytghlhjiomebmhaa

namespace Go.Proofs.Ytghlhjiomebmhaa
set_option linter.unusedVariables false
set_option linter.unusedSimpArgs false
open Go.RowKit

theorem gi_rplK (l : List Int) (x y : Int) : ∀ k, k ≤ l.length → ∀ i, gi (rplK l x y k) i = if i < k ∧ gi l i = x then y else gi l i
  | 0, _, i => by rw [if_neg (by omega)]; rfl
  | k + 1, hk, i => by
    have ih := gi_rplK l x y k (by omega) i
    unfold rplK
    by_cases e : gi l k = x
    · rw [if_pos e]
      by_cases e2 : i = k
      · subst e2
        rw [gi_set _ i y i (by rw [rplK_len]; omega), if_pos rfl, if_pos ⟨by omega, e⟩]
      · rw [gi_set_ne _ _ _ _ e2, ih]
        by_cases e3 : i < k ∧ gi l i = x
        · rw [if_pos e3, if_pos ⟨by omega, e3.2⟩]
        · rw [if_neg e3, if_neg (fun h => e3 ⟨by omega, h.2⟩)]
    · rw [if_neg e, ih]
      by_cases e3 : i < k ∧ gi l i = x
      · rw [if_pos e3, if_pos ⟨by omega, e3.2⟩]
      · rw [if_neg e3, if_neg (fun h => e3 ⟨by
          by_cases e4 : i = k
          · subst e4; exact absurd h.2 e
          · omega, h.2⟩)]
/-- The place of an element in the order of plans: none comes last. -/
def ordN (N : Nat) (x : Int) : Int := if x = -1 then (N : Int) else x
theorem dn_cK (p : List Int) : dnN p = p.length - (cK (fun i => gi p i == -1) p.length : Nat) := by unfold dnN; rw [cntN_cK]
section
variable {C : List (List Int)} {P : List Int} {L N : Nat} {M : Int}
theorem gi_up {q : List Int} (hl : q.length = L) {i : Nat} (hi : i < L) : gi (rplK q (-1) N L) i = ordN N (gi q i) := by
  rw [gi_rplK q (-1) N L (by omega) i]
  unfold ordN
  by_cases e : gi q i = -1
  · rw [if_pos e, if_pos ⟨hi, e⟩]
  · rw [if_neg e, if_neg (fun h => e h.2)]
theorem gi_down {q : List Int} (hl : q.length = L) {i : Nat} (hi : i < L) : gi (rplK q N (-1) L) i = if gi q i = N then -1 else gi q i := by
  rw [gi_rplK q N (-1) L (by omega) i]
  by_cases e : gi q i = N
  · rw [if_pos e, if_pos ⟨hi, e⟩]
  · rw [if_neg e, if_neg (fun h => e h.2)]
theorem good_up (hCl : C.length = L) (hPl : P.length = N) {q : List Int} (hg : GoodP C P L N q) (hd : dnN q = M) : GoodP (furL C N) (P ++ [(L : Int) - M]) L (N + 1) (rplK q (-1) N L) ∧ ∀ i, i < L → 0 ≤ gi (rplK q (-1) N L) i := by
  have hl := hg.len
  refine ⟨⟨by rw [rplK_len]; exact hl, fun i hi => ?_, fun m hm => ?_⟩, fun i hi => ?_⟩
  · rw [gi_up hl hi, gr_furL C N (by omega)]
    unfold ordN
    rcases hg.ent i hi with e | ⟨m, e, hm, hmC⟩
    · rw [if_pos e]; exact .inr ⟨N, rfl, by omega, by simp⟩
    · rw [if_neg (by omega)]; exact .inr ⟨m, e, by omega, List.mem_append_left _ hmC⟩
  · rw [cntN_cK, rplK_len, hl, gi_app]
    by_cases e : m < P.length
    · rw [if_pos e]
      have h1 := hg.cap m (by omega)
      rw [cntN_cK, hl] at h1
      rw [cK_congr (g := fun i => gi q i == (m : Int)) L fun i hi => by
        rw [gi_up hl hi, Bool.eq_iff_iff, beq_iff_eq, beq_iff_eq]
        unfold ordN
        split <;> omega]
      exact h1
    · obtain rfl : m = N := by omega
      rw [if_neg e, if_pos hPl.symm]
      rw [dn_cK, hl] at hd
      rw [cK_congr (g := fun i => gi q i == -1) L fun i hi => by
        rw [gi_up hl hi, Bool.eq_iff_iff, beq_iff_eq, beq_iff_eq]
        unfold ordN
        rcases hg.ent i hi with e | ⟨k, e, hk, _⟩
        · rw [if_pos e]; omega
        · rw [if_neg (by omega)]; omega]
      omega
  · rw [gi_up hl hi]
    unfold ordN
    rcases hg.ent i hi with e | ⟨m, e, hm, hmC⟩
    · rw [if_pos e]; omega
    · rw [if_neg (by omega)]; omega
theorem good_down (hCl : C.length = L) (hPl : P.length = N) {q : List Int} (hg : GoodP (furL C N) (P ++ [(L : Int) - M]) L (N + 1) q) (hc : ∀ i, i < L → 0 ≤ gi q i) : GoodP C P L N (rplK q N (-1) L) ∧ M ≤ dnN (rplK q N (-1) L) ∧ ∀ i, i < L → gi q i = ordN N (gi (rplK q N (-1) L) i) := by
  have hl := hg.len
  have hent : ∀ i, i < L → gi q i = N ∨ ∃ m : Nat, gi q i = m ∧ m < N ∧ (m : Int) ∈ gr C i := fun i hi => by
    rcases hg.ent i hi with e | ⟨m, e, hm, hmC⟩
    · have := hc i hi; omega
    · rw [gr_furL C N (by omega)] at hmC
      by_cases e2 : m = N
      · subst e2; exact .inl e
      · refine .inr ⟨m, e, by omega, ?_⟩
        rcases List.mem_append.1 hmC with h | h
        · exact h
        · have := List.mem_singleton.1 h; omega
  refine ⟨⟨by rw [rplK_len]; exact hl, fun i hi => ?_, fun m hm => ?_⟩, ?_, fun i hi => ?_⟩
  · rw [gi_down hl hi]
    rcases hent i hi with e | ⟨m, e, hm, hmC⟩
    · rw [if_pos e]; exact .inl rfl
    · rw [if_neg (by omega)]; exact .inr ⟨m, e, hm, hmC⟩
  · have h1 := hg.cap m (by omega)
    rw [gi_app, if_pos (by omega), cntN_cK, hl] at h1
    rw [cntN_cK, rplK_len, hl, cK_congr (g := fun i => gi q i == (m : Int)) L fun i hi => by
        rw [gi_down hl hi, Bool.eq_iff_iff, beq_iff_eq, beq_iff_eq]
        split <;> omega]
    exact h1
  · have h1 := hg.cap N (by omega)
    rw [gi_app, if_neg (by omega), if_pos (by omega), cntN_cK, hl] at h1
    rw [dn_cK, rplK_len, hl, cK_congr (g := fun i => gi q i == (N : Int)) L fun i hi => by
        rw [gi_down hl hi, Bool.eq_iff_iff, beq_iff_eq, beq_iff_eq]
        rcases hent i hi with e | ⟨m, e, hm, hmC⟩
        · rw [if_pos e]; omega
        · rw [if_neg (by omega)]; omega]
    omega
  · rw [gi_down hl hi]
    unfold ordN
    rcases hent i hi with e | ⟨m, e, hm, hmC⟩
    · rw [if_pos e, if_pos rfl]; exact e
    · rw [if_neg (show ¬ gi q i = N by omega), if_neg (by omega)]
end
theorem psL_len (ns : List Ni) : (psL ns).length = ns.length := by rw [← psK_all]; exact psK_len ns (Nat.le_refl _)
theorem chL_len (js : List Jo) (ns : List Ni) : (chL js ns).length = js.length := by unfold chL; simp
theorem ch_in (js : List Jo) (ns : List Ni) : ∀ i, i < js.length → ∀ j, j < (gr (chL js ns) i).length → ∃ m : Nat, gi (gr (chL js ns) i) j = m ∧ m < ns.length := fun i hi j hj => by
  rw [gr_chL js ns hi] at hj ⊢
  obtain ⟨m, h1, h2, _⟩ := selK_gi _ _ hj
  exact ⟨m, h1, h2⟩
theorem ch_asc (js : List Jo) (ns : List Ni) : ∀ i, i < js.length → (gr (chL js ns) i).Pairwise (· < ·) := fun i hi => by
  rw [gr_chL js ns hi]; exact selK_pair _ _
theorem fur_in (js : List Jo) (ns : List Ni) : ∀ i, i < js.length → ∀ j, j < (gr (furL (chL js ns) ns.length) i).length → ∃ m : Nat, gi (gr (furL (chL js ns) ns.length) i) j = m ∧ m < ns.length + 1 := fun i hi j hj => by
  rw [gr_furL _ _ (by rw [chL_len]; exact hi)] at hj ⊢
  rw [List.length_append] at hj
  rw [gi_app]
  by_cases e : j < (gr (chL js ns) i).length
  · rw [if_pos e]
    obtain ⟨m, h1, h2⟩ := ch_in js ns i hi j e
    exact ⟨m, h1, by omega⟩
  · rw [if_neg e, if_pos (by simp at hj; omega)]
    exact ⟨ns.length, rfl, by omega⟩
theorem fur_asc (js : List Jo) (ns : List Ni) : ∀ i, i < js.length → (gr (furL (chL js ns) ns.length) i).Pairwise (· < ·) := fun i hi => by
  rw [gr_furL _ _ (by rw [chL_len]; exact hi), List.pairwise_append]
  refine ⟨ch_asc js ns i hi, List.pairwise_singleton _ _, fun a ha b hb => ?_⟩
  obtain ⟨j, hj, e⟩ := mem_gi ha
  obtain ⟨m, h1, h2⟩ := ch_in js ns i hi j hj
  have := List.mem_singleton.1 hb
  omega
/-- Is a plan right and does most jobs, and is no other such plan less? -/
structure BestP (js : List Jo) (ns : List Ni) (b : List Int) : Prop where
  good : GoodP (chL js ns) (psL ns) js.length ns.length b
  most : dnN b = mostN js ns
  least : ∀ q, GoodP (chL js ns) (psL ns) js.length ns.length q → dnN q = mostN js ns → ∀ k, k < js.length → (∀ i, i < k → gi q i = gi b i) → ordN ns.length (gi b k) ≤ ordN ns.length (gi q k)
theorem bestL_best (js : List Jo) (ns : List Ni) (hps : ∀ i, i < ns.length → 0 ≤ (gn ns i).p) : BestP js ns (bestL js ns) := by
  have h0 := good_up (chL_len js ns) (psL_len ns) (grtL_good (js := js) (ns := ns) hps) (M := mostN js ns) rfl
  have h1 := lstK_good (fur_in js ns) h0.1 h0.2 js.length (Nat.le_refl _)
  have h2 := good_down (chL_len js ns) (psL_len ns) h1.1 h1.2
  have e : bestL js ns = rplK (lstK (furL (chL js ns) ns.length) (psL ns ++ [(js.length : Int) - mostN js ns]) (ns.length + 1 + 1) js.length (rplK (grtL js ns) (-1) ns.length js.length)) ns.length (-1) js.length := rfl
  rw [← e] at h2
  have hm := most_max hps h2.1
  refine ⟨h2.1, by have := h2.2.1; omega, fun q hq hd k hk hag => ?_⟩
  have h3 := good_up (chL_len js ns) (psL_len ns) hq hd
  have hl := hq.len
  have h4 := lst_least (fur_in js ns) (fur_asc js ns) h0.1 h0.2 h3.1 h3.2 hk (fun i hi => by rw [gi_up hl (by omega), hag i hi, h2.2.2 i (by omega)])
  rw [gi_up hl hk, h2.2.2 k hk] at h4
  exact h4
theorem ordN_inj {N : Nat} {x y : Int} (hx : x = -1 ∨ ∃ m : Nat, x = m ∧ m < N) (hy : y = -1 ∨ ∃ m : Nat, y = m ∧ m < N) (h : ordN N x = ordN N y) : x = y := by
  unfold ordN at h
  rcases hx with rfl | ⟨m, rfl, hm⟩ <;> rcases hy with rfl | ⟨k, rfl, hk⟩
  · rfl
  · rw [if_pos rfl, if_neg (by omega)] at h; omega
  · rw [if_neg (by omega), if_pos rfl] at h; omega
  · rw [if_neg (by omega), if_neg (by omega)] at h; exact h
theorem good_ent {C : List (List Int)} {P : List Int} {L N : Nat} {p : List Int} (hg : GoodP C P L N p) {i : Nat} (hi : i < L) : gi p i = -1 ∨ ∃ m : Nat, gi p i = m ∧ m < N := by
  rcases hg.ent i hi with h | ⟨m, h1, h2, _⟩
  · exact .inl h
  · exact .inr ⟨m, h1, h2⟩
theorem gi_ext {a b : List Int} (hl : a.length = b.length) (h : ∀ i, i < a.length → gi a i = gi b i) : a = b := by
  apply List.ext_getElem hl
  intro i h1 h2
  have := h i h1
  unfold gi at this
  rw [List.getD_eq_getElem?_getD, List.getD_eq_getElem?_getD, List.getElem?_eq_getElem h1, List.getElem?_eq_getElem h2] at this
  exact this
/-- There is one such plan. -/
theorem best_unique {js : List Jo} {ns : List Ni} {a b : List Int} (ha : BestP js ns a) (hb : BestP js ns b) : a = b := by
  refine gi_ext (ha.good.len.trans hb.good.len.symm) fun i hi => ?_
  rw [ha.good.len] at hi
  have key : ∀ k, k ≤ js.length → ∀ i, i < k → gi a i = gi b i := by
    intro k
    induction k with
    | zero => intro _ i hi; omega
    | succ k ih =>
      intro hk i hi
      by_cases e : i = k
      · subst e
        have h1 := ha.least b hb.good hb.most i (by omega) (fun j hj => (ih (by omega) j hj).symm)
        have h2 := hb.least a ha.good ha.most i (by omega) (fun j hj => ih (by omega) j hj)
        exact ordN_inj (good_ent ha.good (by omega)) (good_ent hb.good (by omega)) (by omega)
      · exact ih (by omega) i (by omega)
  exact key js.length (Nat.le_refl _) i hi
theorem dn_all {C : List (List Int)} {P : List Int} {L N : Nat} {p : List Int} (hg : GoodP C P L N p) : dnN p = L ↔ ∀ i, i < L → 0 ≤ gi p i := by
  rw [dn_cK, hg.len]
  constructor
  · intro h i hi
    rcases good_ent hg hi with e | ⟨m, e, _⟩
    · have := cK_lt (f := fun _ => false) (g := fun i => gi p i == -1) (j := i) rfl (by rw [e]; rfl) L hi (fun _ _ h => by cases h)
      omega
    · omega
  · intro h
    have : cK (fun i => gi p i == -1) L = cK (fun _ => false) L := cK_congr L fun i hi => beq_false_of_ne (by have := h i hi; omega)
    have h0 : ∀ n, cK (fun _ => false) n = 0 := fun n => by
      induction n with
      | zero => rfl
      | succ n ih => unfold cK; rw [ih]; rfl
    rw [this, h0]; simp
/-- Where all jobs can be done, Plan's plan is Best's. -/
theorem plan_best (js : List Jo) (ns : List Ni) (hps : ∀ i, i < ns.length → 0 ≤ (gn ns i).p) (hm : mostN js ns = js.length) : planL js ns = bestL js ns := by
  have hg := grtL_good (js := js) (ns := ns) hps
  have hc := (dn_all hg).1 hm
  have h1 := lstK_good (ch_in js ns) hg hc js.length (Nat.le_refl _)
  refine best_unique ⟨h1.1, by rw [hm]; exact (dn_all h1.1).2 h1.2, fun q hq hd k hk hag => ?_⟩ (bestL_best js ns hps)
  have hqc := (dn_all hq).1 (hd.trans hm)
  have h2 := lst_least (ch_in js ns) (ch_asc js ns) hg hc hq hqc hk hag
  have h3 := hqc k hk
  have h4 : 0 ≤ gi (planL js ns) k := h1.2 k hk
  unfold ordN
  rw [if_neg (by omega), if_neg (by omega)]
  exact h2
/-- A job of the best plan has none of the nights ahead of its own, with a free place. -/
theorem best_no {js : List Jo} {ns : List Ni} (hps : ∀ i, i < ns.length → 0 ≤ (gn ns i).p) {i k : Nat} (hi : i < js.length) (hk : (k : Int) < ordN ns.length (gi (bestL js ns) i)) : ¬ GoodP (chL js ns) (psL ns) js.length ns.length ((bestL js ns).set i k) := by
  intro hg
  have hB := bestL_best js ns hps
  have hl := hB.good.len
  have hil : i < (bestL js ns).length := by omega
  have hs : ∀ j, gi ((bestL js ns).set i (k : Int)) j = if j = i then (k : Int) else gi (bestL js ns) j := fun j => gi_set _ i k j hil
  have hd : dnN (bestL js ns) ≤ dnN ((bestL js ns).set i (k : Int)) := by
    rw [dn_cK, dn_cK, List.length_set]
    have := cK_le (f := fun j => gi ((bestL js ns).set i (k : Int)) j == -1) (g := fun j => gi (bestL js ns) j == -1) (bestL js ns).length fun j hj h => by
      simp only [hs] at h
      by_cases e : j = i
      · rw [if_pos e] at h; have : (k : Int) = -1 := beq_iff_eq.1 h
        omega
      · rw [if_neg e] at h; exact h
    omega
  have hm := most_max hps hg
  have h1 := hB.least _ hg (by have := hB.most; omega) i hi (fun j hj => by rw [hs, if_neg (by omega)])
  rw [hs, if_pos rfl] at h1
  have : ordN ns.length (k : Int) = k := by unfold ordN; rw [if_neg (by omega)]
  omega
end Go.Proofs.Ytghlhjiomebmhaa
