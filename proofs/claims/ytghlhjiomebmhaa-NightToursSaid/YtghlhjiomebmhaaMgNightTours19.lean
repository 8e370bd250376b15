/-
  Tour of package night. By an AI agent.; Tour of package night, with the block in which the tour lies. By an AI agent.; Tour and Late of the reference of package night, and Late of the package. By an AI agent.; append of a whole list of ints; sameInts of the laws of package night. By an AI agent.
-/
import Derived.Test.YtghlhjiomebmhaaMgNightTours4
import Derived.Test.YtghlhjiomebmhaaMgNightTours5
import Derived.Test.YtghlhjiomebmhaaMgNightTours15
import Derived.Test.YtghlhjiomebmhaaMgNightTours16
import Derived.Test.YtghlhjiomebmhaaMgNightTours18
import Derived.Deep.RegionHeld3
import Derived.BigQuiet
import Derived.Deep.AppendLies
import Derived.StillTailTactics
import Derived.BigRegion
import Derived.Deep.DeepCutAuto
import Derived.Lib.OwnBridge
import Derived.Lib.AppendIntMem

namespace Go.Proofs.Ytghlhjiomebmhaa
set_option linter.unusedVariables false
set_option linter.unusedSimpArgs false
open Go.RowKit

def cmpI (a b : Int) : Int := if a < b then -1 else if b < a then 1 else 0
theorem isNaN_any (a : Int) (w : World) : Calls Try.prog 61 #[.int .i64 a] w fun e w' => e = .returned (.bool false) ∧ w' = w := by
  go_enter Try.func61, Try.ntmps61
  go_wp2
  go_ret
  exact ⟨rfl, rfl⟩
theorem compare_any (a b : Int) (w : World) : Calls Try.prog 40 #[.int .i64 a, .int .i64 b] w fun e w' => e = .returned (.int .i64 (cmpI a b)) ∧ w' = w := by
  unfold cmpI
  by_cases h1 : a < b
  · rw [if_pos h1]
    go_enter Try.func40, Try.ntmps40
    go_wp2_with (go_at_call 61; refine (isNaN_any _ _).mono ?_; rintro e w' ⟨rfl, rfl⟩)
    go_ret
    exact ⟨rfl, rfl⟩
  · by_cases h2 : b < a
    · rw [if_neg h1, if_pos h2]
      go_enter Try.func40, Try.ntmps40
      go_wp2_with (go_at_call 61; refine (isNaN_any _ _).mono ?_; rintro e w' ⟨rfl, rfl⟩)
      go_ret
      exact ⟨rfl, rfl⟩
    · rw [if_neg h1, if_neg (by omega)]
      go_enter Try.func40, Try.ntmps40
      go_wp2_with (go_at_call 61; refine (isNaN_any _ _).mono ?_; rintro e w' ⟨rfl, rfl⟩)
      go_ret
      exact ⟨rfl, rfl⟩
set_option maxRecDepth 100000 in
set_option maxHeartbeats 2000000 in
theorem indexes_t1 (n : Nat) (hn : n ≤ 100000) (lb : Array Value) (p : Nat → Bool) (w : World)
    (hp : ∀ j W, j < n → Below w.heap.size w W → Calls Try.prog 37 (#[.int .i64 j] ++ lb) W fun e w' => e = .returned (.bool (p j)) ∧ Below W.heap.size W w') :
    Calls Try.prog 36 #[.int .i64 n, .func (.func 37) #[] lb] w fun e w' => IdxE w (selK p n) e w' := by
  have HP := Lib.hid hp
  have HS : Hid (∀ k, selK p (k + 1) = if p k = true then selK p k ++ [(k : Int)] else selK p k) := Lib.hid fun k => rfl
  have HN : Hid (∀ k, (selK p k).length ≤ k) := Lib.hid (selK_len p)
  have H0 : Hid (selK p 0 = []) := Lib.hid rfl
  clear hp
  go_enter Try.func36, Try.ntmps36
  go_wp2_with fail
  go_loopw [5, 8] (fun v i wr => ∃ k : Nat, k ≤ n ∧ i = .int .i64 k ∧ (∃ a c, v = .slice a (selK p k).length c) ∧ Hid (wr.ownsRow w.heap.size 3 1 v (selK p k).length (clI (selK p k))) ∧ Below w.heap.size w wr) (fun _ i _ => n - (intOf i).toNat)
  case atStart => exact ⟨0, Nat.zero_le _, rfl, ⟨none, 0, by rw [H0.out]; rfl⟩, Lib.hid (by rw [H0.out]; exact ⟨rfl, .inl ⟨rfl, rfl⟩⟩), Below.refl _ _⟩
  case round =>
    obtain ⟨k, hk, rfl, ⟨av, cv, rfl⟩, HRow, hb⟩ := hrel
    by_cases hlt : k < n
    · have HK := Lib.hid (fun W hW => HP.out k W hlt hW)
      have HSk := Lib.hid (HS.out k)
      have hNk := HN.out k
      clear HP HS H0 HN
      cases hpk : p k with
      | false =>
        rw [hpk] at HK HSk
        have HS1 : Hid (selK p (k + 1) = selK p k) := Lib.hid (HSk.out.trans (if_neg (by decide)))
        clear hpk HSk
        generalize hX : selK p k = X at *
        clear hX
        go_wp2_with fail
        refine (HK.out _ hb).mono ?_
        rintro e w1 ⟨rfl, hb1⟩
        have HRow := Lib.hid (owns_belowI HRow.out hb1)
        have hb := below_onN hb hb1 hb.size
        clear hb1
        go_wp2_with fail
        go_roundw
        case rel => exact ⟨k + 1, by omega, by go_num, ⟨av, cv, by rw [HS1.out]⟩, by rw [HS1.out]; exact HRow, hb⟩
        case measure => simp [intOf]; omega
      | true =>
        rw [hpk] at HK HSk
        have HS1 : Hid (selK p (k + 1) = selK p k ++ [(k : Int)]) := Lib.hid (HSk.out.trans (if_pos rfl))
        clear hpk HSk
        generalize hX : selK p k = X at *
        clear hX
        go_wp2_with fail
        refine (HK.out _ hb).mono ?_
        rintro e w1 ⟨rfl, hb1⟩
        have HRow := Lib.hid (owns_belowI HRow.out hb1)
        have hb := below_onN hb hb1 hb.size
        have hbs := hb.size
        clear hb1 HK
        obtain ⟨m, hm⟩ : ∃ m, X.length = m := ⟨_, rfl⟩
        have HM := Lib.hid hm
        rw [hm] at HRow hNk
        rw [hm]
        clear hm
        have hown := Lib.hid (HRow.out.alloc (.cells #[.int .i64 k] 3))
        go_wp2_with (first | (at_builtin; go_loud (refine app_int rfl _ _ rfl w.heap.size m cv av _ rfl hown.out w1.heap.size (.int .i64 k) rfl ?d1 (by rfl) (by omega) ?d2 ?_)))
        case d1 => simp [go_sem]
        case d2 => first | (simp; omega) | omega
        intro g6 c6 w6 hown6 hb6
        have hb6 : Below w.heap.size w w6 := (hb.alloc hbs _).trans hb6
        have hrow6 : Hid (w6.ownsRow w.heap.size 3 1 (.slice (some ⟨g6, 0, none⟩) (m + 1) c6) (m + 1) (clI (X ++ [(k : Int)]))) := Lib.hid (by rw [clI_app]; exact hown6)
        clear hown6 hown HRow
        go_wp2_with fail
        go_roundw
        case rel => exact ⟨k + 1, by omega, by go_num, ⟨_, c6, by rw [HS1.out, List.length_append, HM.out]; rfl⟩, by rw [HS1.out, List.length_append, HM.out]; exact hrow6, hb6⟩
        case measure => simp [intOf]; omega
    · obtain rfl : k = n := by omega
      clear HP HS HN H0
      go_wp2_with fail
      go_ret
      exact ⟨av, cv, rfl, HRow.out, hb⟩
set_option maxRecDepth 100000 in
theorem tour1_r (l : List Int) (x : Int) (a : Option Addr) (ca Bl Be k : Nat) (hk : k < l.length) (w : World) (hI : IntsC w a l) (c0 : w.cell? ⟨Bl, 0, none⟩ = some (.slice a l.length ca)) (c1 : w.cell? ⟨Be, 0, none⟩ = some (.int .i64 x)) :
    Calls Try.prog 37 (#[.int .i64 k] ++ #[.pointer (some ⟨Bl, 0, none⟩), .pointer (some ⟨Be, 0, none⟩)]) w fun e w' => e = .returned (.bool (gi l k == x)) ∧ Below w.heap.size w w' := by
  obtain ⟨hlen, blk, off, hadr, hc⟩ := hI
  obtain rfl := hadr (pos_ne (n := 0) hk)
  have cc := hc k hk
  clear hc hadr
  generalize gi l k = y at *
  have hk1 : decide ((0 : Int) ≤ k) = true := decide_eq_true (by omega)
  have hk2 : decide ((k : Int) < l.length) = true := decide_eq_true (by omega)
  cases hxy : (y == x) with
  | true =>
    go_enter Try.func37, Try.ntmps37
    go_wp2_with fail
    go_quiet (fail)
    go_wp2_with fail
    go_ret
    exact ⟨by simp_all, below_drewN (Below.refl _ _) _⟩
  | false =>
    go_enter Try.func37, Try.ntmps37
    go_wp2_with fail
    go_quiet (fail)
    go_wp2_with fail
    go_ret
    exact ⟨by simp_all, below_drewN (Below.refl _ _) _⟩
/-- The chainage of a job by its index. -/
def chJ (js : List Jo) (x : Int) : Int := (gj js x.toNat).c
set_option maxRecDepth 100000 in
set_option maxHeartbeats 2000000 in
theorem tour2_r (js : List Jo) (ja : Option Addr) (jc B p q : Nat) (hp : p < js.length) (hq : q < js.length) (w : World) (hJ : JobsS w ja js) (c0 : w.cell? ⟨B, 0, none⟩ = some (.slice ja js.length jc)) :
    Calls Try.prog 39 (#[.int .i64 p, .int .i64 q] ++ #[.pointer (some ⟨B, 0, none⟩)]) w fun e w' => e = .returned (.int .i64 (cmpK (chJ js) p q)) ∧ ∃ m, w' = w.drewN m := by
  have hl2 := hJ.1
  obtain ⟨jb, jo, HJa, HJc⟩ := jobs_cells hJ
  obtain rfl := HJa.out (by omega)
  have d1 := (HJc.out p hp).2.2.1
  have d2 := (HJc.out q hq).2.2.1
  have HR : Hid (cmpK (chJ js) p q = cmpI (gj js p).c (gj js q).c) := Lib.hid rfl
  clear HJa HJc hJ
  have HC := Lib.hid (fun W => compare_any (gj js p).c (gj js q).c W)
  generalize cmpK (chJ js) p q = r at *
  generalize cmpI (gj js p).c (gj js q).c = s at *
  obtain rfl := HR.out
  generalize (gj js p).c = x at *
  generalize (gj js q).c = y at *
  clear HR
  go_enter Try.func39, Try.ntmps39
  go_wp2_with fail
  go_quiet ((go_at_call 40; exact Calls.quiet_of_same (HC.out _)))
  go_wp2_with fail
  go_ret
  exact ⟨rfl, _, rfl⟩
/-- What a tour is: the jobs of a night in the order of their chainages. -/
structure TourP (js : List Jo) (l : List Int) (x : Int) (T : List Int) : Prop where
  srt : T.Pairwise (ltK (chJ js))
  mem : ∀ y, y ∈ T ↔ y ∈ selK (fun k => gi l k == x) l.length
/-- How far it is from the first one to the last one. -/
def farL (js : List Jo) (T : List Int) : Int := if T = [] then 0 else chJ js (gi T (T.length - 1)) - chJ js (gi T 0)
theorem gi_eq {l : List Int} {i : Nat} (h : i < l.length) : gi l i = l[i] := by
  unfold gi
  rw [List.getD_eq_getElem?_getD, List.getElem?_eq_getElem h]; rfl
theorem tour_unique {js : List Jo} {l : List Int} {x : Int} {T T' : List Int} (h : TourP js l x T) (h' : TourP js l x T') : T = T' := srt_unique h.srt h'.srt fun y => (h.mem y).trans (h'.mem y).symm
theorem tour_in {js : List Jo} {l : List Int} {x : Int} {T : List Int} (h : TourP js l x T) {i : Nat} (hi : i < T.length) : ∃ m : Nat, gi T i = m ∧ m < l.length ∧ gi l m = x := by
  obtain ⟨m, h1, h2, h3⟩ := selK_mem _ _ _ ((h.mem _).1 (mem_of_gi hi))
  exact ⟨m, h1, h2, by simpa using h3⟩
theorem intsC_nil2 (w : World) : IntsC w none [] := ⟨by simp, 0, 0, fun h => absurd rfl h, fun i hi => absurd hi (Nat.not_lt_zero _)⟩
def TouE (js : List Jo) (l : List Int) (x : Int) (w : World) (e : Ending) (w' : World) : Prop :=
  ∃ (T : List Int) (a : Option Addr) (c : Nat), e = .returned (.tuple #[.slice a T.length c, .int .i64 (farL js T), .int .i64 0]) ∧ IntsC w' a T ∧ TourP js l x T ∧ Below w.heap.size w w'
theorem chain_b {js : List Jo} (h : jobsB js = true) {m : Nat} (hm : m < js.length) : 0 ≤ (gj js m).c ∧ (gj js m).c ≤ 10000000 := by
  unfold jobsB at h
  rw [Bool.and_eq_true] at h
  have h1 : ∀ n, m < n → jokK js n = true → jobB (gj js m) = true := fun n => by
    induction n with
    | zero => intro h; omega
    | succ n ih =>
      intro hn hk
      unfold jokK at hk
      simp only [Bool.and_eq_true] at hk
      by_cases e : m = n
      · subst e; exact hk.2.1
      · exact ih (by omega) hk.1
  have h2 := h1 js.length hm h.2
  unfold jobB placeB at h2
  simp only [Bool.and_eq_true, btw_iff] at h2
  omega
set_option maxRecDepth 100000 in
theorem tour_1 (ja : Option Addr) (js : List Jo) (jc : Nat) (na : Option Addr) (ns : List Ni) (nc : Nat) (a : Option Addr) (l : List Int) (ca : Nat) (x : Int) (w : World) (hJ : JobsS w ja js) (hN : NightsS w na ns) (hA : IntsC w a l) (he : (plnE js ns l == 0) = false) :
    Calls Try.prog 13 #[.slice ja js.length jc, .slice na ns.length nc, .slice a l.length ca, .int .i64 x] w fun e w' => e = .returned (.tuple #[.slice none 0 0, .int .i64 0, .int .i64 (plnE js ns l)]) ∧ Below w.heap.size w w' := by
  have H1 := Lib.hid (fun W (hW : Below w.heap.size w W) => nPE_r ja js jc na ns nc a l ca W (hJ.below hW) (hN.below hW) (hA.below hW))
  clear hJ hN hA
  generalize plnE js ns l = E at *
  have hb0 : Below w.heap.size w (((w.alloc (.cells #[.slice ja js.length jc] 22)).alloc (.cells #[.slice a l.length ca] 26)).alloc (.cells #[.int .i64 x] 3)) := (((Below.refl _ _).alloc (Nat.le_refl _) _).alloc (by simp) _).alloc (by simp; omega) _
  have HB0 := Lib.hid hb0
  clear hb0
  go_enter Try.func13, Try.ntmps13
  go_wp2_with fail
  refine (H1.out _ HB0.out).mono ?_
  rintro e w1 ⟨rfl, hb1⟩
  have hb2 := below_onN HB0.out hb1 HB0.out.size
  clear hb1 HB0
  go_wp2_with fail
  go_ret3
  exact ⟨rfl, hb2⟩
set_option maxRecDepth 100000 in
set_option maxHeartbeats 2000000 in
theorem tour_2 (ja : Option Addr) (js : List Jo) (jc : Nat) (na : Option Addr) (ns : List Ni) (nc : Nat) (a : Option Addr) (l : List Int) (ca : Nat) (x : Int) (w : World) (hJ : JobsS w ja js) (hN : NightsS w na ns) (hA : IntsC w a l) (he : plnE js ns l = 0) (hx : ¬ (0 ≤ x ∧ x < ns.length)) :
    Calls Try.prog 13 #[.slice ja js.length jc, .slice na ns.length nc, .slice a l.length ca, .int .i64 x] w fun e w' => e = .returned (.tuple #[.slice none 0 0, .int .i64 0, .int .i64 2]) ∧ Below w.heap.size w w' := by
  have H1 := Lib.hid (fun W (hW : Below w.heap.size w W) => nPE_r ja js jc na ns nc a l ca W (hJ.below hW) (hN.below hW) (hA.below hW))
  rw [he] at H1
  have hnl := hN.1
  have hbt : btw x 0 ((ns.length : Int) - 1) = false := by
    rcases btw_casesN x 0 ((ns.length : Int) - 1) with h | h
    · have := (btw_iff _ _ _).1 h; omega
    · exact h
  have HW := Lib.hid (fun (W : World) (b : Nat) (hc : W.cell? ⟨b, 0, none⟩ = some (.int .i64 x)) => withinN1_any 0 ((ns.length : Int) - 1) x b W hc)
  rw [hbt] at HW
  clear hJ hN hA he hbt
  obtain ⟨wB, hwB⟩ : ∃ wB, ((w.alloc (.cells #[.slice ja js.length jc] 22)).alloc (.cells #[.slice a l.length ca] 26)).alloc (.cells #[.int .i64 x] 3) = wB := ⟨_, rfl⟩
  have hb : Below w.heap.size w wB := by rw [← hwB]; exact (((Below.refl _ _).alloc (Nat.le_refl _) _).alloc (by simp) _).alloc (by simp; omega) _
  have hz : w.heap.size + 1 + 1 < wB.heap.size := by rw [← hwB]; simp
  have p0 : wB.cell? ⟨w.heap.size, 0, none⟩ = some (.slice ja js.length jc) := by rw [← hwB]; simp [go_sem]
  have p1 : wB.cell? ⟨w.heap.size + 1, 0, none⟩ = some (.slice a l.length ca) := by rw [← hwB]; simp [go_sem]
  have p2 : wB.cell? ⟨w.heap.size + 1 + 1, 0, none⟩ = some (.int .i64 x) := by rw [← hwB]; simp [go_sem]
  go_enter Try.func13, Try.ntmps13
  go_wp2_with fail
  clear hwB
  refine (H1.out _ hb).mono ?_
  rintro e w1 ⟨rfl, hb1⟩
  have p2 := cell_below p2 hb1
  have hb := below_onN hb hb1 hb.size
  clear hb1 p0 p1
  go_wp2_with fail
  refine (HW.out _ _ (by simp [go_sem])).mono ?_
  rintro e w2 ⟨rfl, hb2⟩
  have hb := below_onN (hb.alloc hb.size _) hb2 (by have := hb.size; simp; omega)
  clear hb2
  go_wp2_with fail
  go_ret3
  exact ⟨rfl, hb⟩
set_option maxRecDepth 100000 in
set_option maxHeartbeats 4000000 in
theorem tour_3 (ja : Option Addr) (js : List Jo) (jc : Nat) (na : Option Addr) (ns : List Ni) (nc : Nat) (a : Option Addr) (l : List Int) (ca : Nat) (x : Int) (w : World) (hJ : JobsS w ja js) (hN : NightsS w na ns) (hA : IntsC w a l) (he : plnE js ns l = 0) (hx : 0 ≤ x ∧ x < ns.length) (h30 : l.length < 40) :
    Calls Try.prog 13 #[.slice ja js.length jc, .slice na ns.length nc, .slice a l.length ca, .int .i64 x] w fun e w' => TouE js l x w e w' := by
  obtain ⟨he1, he2, he3⟩ := plnE_ok he
  have hlj : l.length = js.length := (plnB_iff.1 he2).1
  have hjb := (errL_ok he1).1
  have H1 := Lib.hid (fun W (hW : Below w.heap.size w W) => nPE_r ja js jc na ns nc a l ca W (hJ.below hW) (hN.below hW) (hA.below hW))
  rw [he] at H1
  have hnl := hN.1
  have hbt : btw x 0 ((ns.length : Int) - 1) = true := btw_t (by omega) (by omega)
  have HW := Lib.hid (fun (W : World) (b : Nat) (hc : W.cell? ⟨b, 0, none⟩ = some (.int .i64 x)) => withinN1_any 0 ((ns.length : Int) - 1) x b W hc)
  rw [hbt] at HW
  have HJ := Lib.hid (fun W (hW : Below w.heap.size w W) => hJ.below hW)
  have HI := Lib.hid (fun W (hW : Below w.heap.size w W) (p1 : W.cell? ⟨w.heap.size + 1, 0, none⟩ = some (.slice a l.length ca)) (p2 : W.cell? ⟨w.heap.size + 1 + 1, 0, none⟩ = some (.int .i64 x)) =>
    indexes_t1 l.length (by omega) #[.pointer (some ⟨w.heap.size + 1, 0, none⟩), .pointer (some ⟨w.heap.size + 1 + 1, 0, none⟩)] (fun k => gi l k == x) W (fun j W2 hj hW2 => tour1_r l x a ca (w.heap.size + 1) (w.heap.size + 1 + 1) j hj W2 (hA.below (below_onN hW hW2 hW.size)) (cell_below p1 hW2) (cell_below p2 hW2)))
  have HL := Lib.hid hlj
  have HCh : Hid (∀ m, m < l.length → 0 ≤ (gj js m).c ∧ (gj js m).c ≤ 10000000) := Lib.hid fun m hm => chain_b hjb (by omega)
  have HT0 : Hid (TourP js l x [] ∨ 0 < (selK (fun k => gi l k == x) l.length).length) := Lib.hid (by
    rcases Nat.eq_zero_or_pos (selK (fun k => gi l k == x) l.length).length with h | h
    · left
      have e := List.eq_nil_of_length_eq_zero h
      exact ⟨List.Pairwise.nil, fun y => by rw [e]⟩
    · exact .inr h)
  have HS : Hid (∀ T, SrtS (chJ js) T 0 T.length → Seg 0 (selK (fun k => gi l k == x) l.length).length (selK (fun k => gi l k == x) l.length) T → TourP js l x T) := Lib.hid fun T h1 h2 => ⟨srt_pair h1, fun y => seg_mem h2 y⟩
  have HAs : Hid (AscS (selK (fun k => gi l k == x) l.length) 0 (selK (fun k => gi l k == x) l.length).length) := Lib.hid fun i j _ h2 h3 => by
    have := List.pairwise_iff_getElem.1 (selK_pair (fun k => gi l k == x) l.length) i j (by omega) h3 h2
    rw [gi_eq (Nat.lt_trans h2 h3), gi_eq h3]
    exact this
  have HOk : Hid (∀ i, i < (selK (fun k => gi l k == x) l.length).length → ∃ m : Nat, gi (selK (fun k => gi l k == x) l.length) i = m ∧ m < l.length) := Lib.hid fun i hi => by
    obtain ⟨m, h1, h2, _⟩ := selK_gi _ _ hi
    exact ⟨m, h1, h2⟩
  have hsl : (selK (fun k => gi l k == x) l.length).length ≤ l.length := selK_len _ _
  clear hJ hN hA he hbt he1 he2 he3 hlj hjb
  obtain ⟨wB, hwB⟩ : ∃ wB, ((w.alloc (.cells #[.slice ja js.length jc] 22)).alloc (.cells #[.slice a l.length ca] 26)).alloc (.cells #[.int .i64 x] 3) = wB := ⟨_, rfl⟩
  have hb : Below w.heap.size w wB := by rw [← hwB]; exact (((Below.refl _ _).alloc (Nat.le_refl _) _).alloc (by simp) _).alloc (by simp; omega) _
  have hz : w.heap.size + 1 + 1 < wB.heap.size := by rw [← hwB]; simp
  have p0 : wB.cell? ⟨w.heap.size, 0, none⟩ = some (.slice ja js.length jc) := by rw [← hwB]; simp [go_sem]
  have p1 : wB.cell? ⟨w.heap.size + 1, 0, none⟩ = some (.slice a l.length ca) := by rw [← hwB]; simp [go_sem]
  have p2 : wB.cell? ⟨w.heap.size + 1 + 1, 0, none⟩ = some (.int .i64 x) := by rw [← hwB]; simp [go_sem]
  go_enter Try.func13, Try.ntmps13
  go_wp2_with fail
  clear hwB
  refine (H1.out _ hb).mono ?_
  rintro e w1 ⟨rfl, hb1⟩
  have p0 := cell_below p0 hb1
  have p1 := cell_below p1 hb1
  have p2 := cell_below p2 hb1
  have hz := Nat.lt_of_lt_of_le hz hb1.size
  have hb := below_onN hb hb1 hb.size
  clear hb1
  go_wp2_with fail
  refine (HW.out _ _ (by simp [go_sem])).mono ?_
  rintro e w2 ⟨rfl, hb2⟩
  have hbx : Below w1.heap.size w1 w2 := ((Below.refl _ _).alloc (Nat.le_refl _) _).trans (hb2.mono (by simp))
  have p0 := cell_below p0 hbx
  have p1 := cell_below p1 hbx
  have p2 := cell_below p2 hbx
  have hz := Nat.lt_of_lt_of_le hz hbx.size
  have hb := below_onN hb hbx hb.size
  clear hbx hb2
  have HIx := Lib.hid (HI.out w2 hb p1 p2)
  clear HI HW H1
  generalize selK (fun k => gi l k == x) l.length = X at *
  go_wp2_with fail
  refine HIx.out.mono ?_
  rintro e w3 ⟨ar, cr, rfl, hrow, hb3⟩
  have p0 := cell_below p0 hb3
  have hzz := hz
  have hz := Nat.lt_of_lt_of_le hz hb3.size
  have hb := below_onN hb hb3 hb.size
  have hb2z := hb3.size
  clear HIx hb3 p1 p2
  rcases Nat.eq_zero_or_pos X.length with hX | hX
  · have hT := HT0.out.resolve_right (by omega)
    have HT := Lib.hid hT
    have dX : ((X.length : Int) == 0) = true := by simp; exact List.eq_nil_of_length_eq_zero hX
    clear hT HT0 HS HAs HOk hrow
    go_wp2_with fail
    go_ret3
    exact ⟨[], none, 0, rfl, intsC_nil2 _, HT.out, hb⟩
  · have dX : ((X.length : Int) == 0) = false := beq_false_of_ne (by omega)
    obtain ⟨g, rfl, hg1, hg2, hP⟩ := planR_own hrow (by
      rintro rfl
      rcases hrow.2 with ⟨h1, h2⟩ | ⟨g2, c2, cur, h1, _⟩
      · omega
      · cases h1)
    have hgB : w.heap.size ≤ g := by omega
    have hJ3 := HJ.out w3 hb
    have HSo := Lib.hid (sortStable_r #[.pointer (some ⟨w.heap.size, 0, none⟩)] (chJ js) (fun y => ∃ m : Nat, y = m ∧ m < l.length) g X.length cr X w3 (fun y1 y2 W n hy1 hy2 hT => by
      obtain ⟨m1, rfl, hm1⟩ := hy1
      obtain ⟨m2, rfl, hm2⟩ := hy2
      have hbT : Below w.heap.size w3 W := hT.below hgB hgB hb.size
      exact (tour2_r js ja jc w.heap.size m1 m2 (by have := HL.out; omega) (by have := HL.out; omega) (W.drewN n) (show JobsS W ja js from HJ.out W (hb.trans hbT)) (show W.cell? _ = _ from hT.cell p0 (by omega) (by omega))).mono fun e w' h => h) (by omega) hP rfl HOk.out HAs.out)
    have HIn : Hid (∀ T, Seg 0 X.length X T → ∀ i, i < T.length → ∃ m : Nat, gi T i = m ∧ m < l.length) := Lib.hid fun T hT i hi => by
      obtain ⟨y, _, y2, y3⟩ := hT.to i (Nat.zero_le _) (by have := hT.len; omega)
      rw [y3]; exact HOk.out y y2
    clear hrow hP HT0 HAs HOk
    go_wp2_with fail
    refine HSo.out.mono ?_
    rintro e w4 ⟨T, ⟨rfl, hP4, hT4⟩, hl4, hg4, hs4⟩
    have hb4 : Below w.heap.size w w4 := hb.trans (hT4.below hgB hgB hb.size)
    have p0 := hT4.cell p0 (by omega) (by omega)
    have hJ4 := HJ.out w4 hb4
    obtain ⟨jb, jo, HJa, HJc⟩ := jobs_cells hJ4
    obtain ⟨m1, e1, f1⟩ := HIn.out T hg4 (X.length - 1) (by omega)
    obtain ⟨m0, e0, f0⟩ := HIn.out T hg4 0 (by omega)
    have HTP := Lib.hid (HS.out T (by rw [hl4]; exact hs4) hg4)
    have HPi := Lib.hid (hP4.ints (by omega))
    have v1 := hP4.1 (X.length - 1) (by omega)
    have v0 := hP4.1 0 (by omega)
    rw [e1] at v1
    rw [e0] at v0
    have hjl : 0 < js.length := by have := HL.out; omega
    obtain rfl := HJa.out hjl
    have d1 := (HJc.out m1 (by have := HL.out; omega)).2.2.1
    have d0 := (HJc.out m0 (by have := HL.out; omega)).2.2.1
    obtain ⟨c10, c11⟩ := HCh.out m1 f1
    obtain ⟨c00, c01⟩ := HCh.out m0 f0
    have HF : Hid (farL js T = (gj js m1).c - (gj js m0).c) := Lib.hid (by
      unfold farL chJ
      rw [if_neg (by intro h; rw [h] at hl4; simp at hl4; omega), hl4, e1, e0, Int.toNat_natCast, Int.toNat_natCast])
    have HL4 := Lib.hid hl4
    have k1 : m1 < js.length := by have := HL.out; omega
    have k0 : m0 < js.length := by have := HL.out; omega
    obtain ⟨u, hu⟩ : ∃ u : Nat, (X.length : Int) - 1 = u := ⟨X.length - 1, by omega⟩
    have k2 : u < X.length := by omega
    rw [show X.length - 1 = u by omega] at v1
    clear HJa HJc hJ3 hJ4 HSo HS HIn hP4 hT4 hl4 hg4 hs4 HJ e1 e0 hg2
    generalize (gj js m1).c = y1 at *
    generalize (gj js m0).c = y0 at *
    go_wp2_with fail
    go_quiet (fail)
    go_wp2_with fail
    go_ret3
    exact ⟨T, some ⟨g, 0, none⟩, cr, by rw [HF.out, HL4.out]; rfl, (show IntsC w4 _ _ from HPi.out), HTP.out, below_drewN hb4 _⟩
end Go.Proofs.Ytghlhjiomebmhaa

namespace Go.Proofs.Ytghlhjiomebmhaa
set_option linter.unusedVariables false
set_option linter.unusedSimpArgs false
open Go.RowKit

def TouF (js : List Jo) (l : List Int) (x : Int) (w : World) (e : Ending) (w' : World) : Prop :=
  ∃ (T : List Int) (a : Option Addr) (c : Nat), e = .returned (.tuple #[.slice a T.length c, .int .i64 (farL js T), .int .i64 0]) ∧ IntsC w' a T ∧ TourP js l x T ∧ (∀ z, a = some z → w.heap.size ≤ z.block) ∧ Below w.heap.size w w'
set_option maxRecDepth 100000 in
set_option maxHeartbeats 4000000 in
theorem tour_3f (ja : Option Addr) (js : List Jo) (jc : Nat) (na : Option Addr) (ns : List Ni) (nc : Nat) (a : Option Addr) (l : List Int) (ca : Nat) (x : Int) (w : World) (hJ : JobsS w ja js) (hN : NightsS w na ns) (hA : IntsC w a l) (he : plnE js ns l = 0) (hx : 0 ≤ x ∧ x < ns.length) (h30 : l.length < 40) :
    Calls Try.prog 13 #[.slice ja js.length jc, .slice na ns.length nc, .slice a l.length ca, .int .i64 x] w fun e w' => TouF js l x w e w' := by
  obtain ⟨he1, he2, he3⟩ := plnE_ok he
  have hlj : l.length = js.length := (plnB_iff.1 he2).1
  have hjb := (errL_ok he1).1
  have H1 := Lib.hid (fun W (hW : Below w.heap.size w W) => nPE_r ja js jc na ns nc a l ca W (hJ.below hW) (hN.below hW) (hA.below hW))
  rw [he] at H1
  have hnl := hN.1
  have hbt : btw x 0 ((ns.length : Int) - 1) = true := btw_t (by omega) (by omega)
  have HW := Lib.hid (fun (W : World) (b : Nat) (hc : W.cell? ⟨b, 0, none⟩ = some (.int .i64 x)) => withinN1_any 0 ((ns.length : Int) - 1) x b W hc)
  rw [hbt] at HW
  have HJ := Lib.hid (fun W (hW : Below w.heap.size w W) => hJ.below hW)
  have HI := Lib.hid (fun W (hW : Below w.heap.size w W) (p1 : W.cell? ⟨w.heap.size + 1, 0, none⟩ = some (.slice a l.length ca)) (p2 : W.cell? ⟨w.heap.size + 1 + 1, 0, none⟩ = some (.int .i64 x)) =>
    indexes_t1 l.length (by omega) #[.pointer (some ⟨w.heap.size + 1, 0, none⟩), .pointer (some ⟨w.heap.size + 1 + 1, 0, none⟩)] (fun k => gi l k == x) W (fun j W2 hj hW2 => tour1_r l x a ca (w.heap.size + 1) (w.heap.size + 1 + 1) j hj W2 (hA.below (below_onN hW hW2 hW.size)) (cell_below p1 hW2) (cell_below p2 hW2)))
  have HL := Lib.hid hlj
  have HCh : Hid (∀ m, m < l.length → 0 ≤ (gj js m).c ∧ (gj js m).c ≤ 10000000) := Lib.hid fun m hm => chain_b hjb (by omega)
  have HT0 : Hid (TourP js l x [] ∨ 0 < (selK (fun k => gi l k == x) l.length).length) := Lib.hid (by
    rcases Nat.eq_zero_or_pos (selK (fun k => gi l k == x) l.length).length with h | h
    · left
      have e := List.eq_nil_of_length_eq_zero h
      exact ⟨List.Pairwise.nil, fun y => by rw [e]⟩
    · exact .inr h)
  have HS : Hid (∀ T, SrtS (chJ js) T 0 T.length → Seg 0 (selK (fun k => gi l k == x) l.length).length (selK (fun k => gi l k == x) l.length) T → TourP js l x T) := Lib.hid fun T h1 h2 => ⟨srt_pair h1, fun y => seg_mem h2 y⟩
  have HAs : Hid (AscS (selK (fun k => gi l k == x) l.length) 0 (selK (fun k => gi l k == x) l.length).length) := Lib.hid fun i j _ h2 h3 => by
    have := List.pairwise_iff_getElem.1 (selK_pair (fun k => gi l k == x) l.length) i j (by omega) h3 h2
    rw [gi_eq (Nat.lt_trans h2 h3), gi_eq h3]
    exact this
  have HOk : Hid (∀ i, i < (selK (fun k => gi l k == x) l.length).length → ∃ m : Nat, gi (selK (fun k => gi l k == x) l.length) i = m ∧ m < l.length) := Lib.hid fun i hi => by
    obtain ⟨m, h1, h2, _⟩ := selK_gi _ _ hi
    exact ⟨m, h1, h2⟩
  have hsl : (selK (fun k => gi l k == x) l.length).length ≤ l.length := selK_len _ _
  clear hJ hN hA he hbt he1 he2 he3 hlj hjb
  obtain ⟨wB, hwB⟩ : ∃ wB, ((w.alloc (.cells #[.slice ja js.length jc] 22)).alloc (.cells #[.slice a l.length ca] 26)).alloc (.cells #[.int .i64 x] 3) = wB := ⟨_, rfl⟩
  have hb : Below w.heap.size w wB := by rw [← hwB]; exact (((Below.refl _ _).alloc (Nat.le_refl _) _).alloc (by simp) _).alloc (by simp; omega) _
  have hz : w.heap.size + 1 + 1 < wB.heap.size := by rw [← hwB]; simp
  have p0 : wB.cell? ⟨w.heap.size, 0, none⟩ = some (.slice ja js.length jc) := by rw [← hwB]; simp [go_sem]
  have p1 : wB.cell? ⟨w.heap.size + 1, 0, none⟩ = some (.slice a l.length ca) := by rw [← hwB]; simp [go_sem]
  have p2 : wB.cell? ⟨w.heap.size + 1 + 1, 0, none⟩ = some (.int .i64 x) := by rw [← hwB]; simp [go_sem]
  go_enter Try.func13, Try.ntmps13
  go_wp2_with fail
  clear hwB
  refine (H1.out _ hb).mono ?_
  rintro e w1 ⟨rfl, hb1⟩
  have p0 := cell_below p0 hb1
  have p1 := cell_below p1 hb1
  have p2 := cell_below p2 hb1
  have hz := Nat.lt_of_lt_of_le hz hb1.size
  have hb := below_onN hb hb1 hb.size
  clear hb1
  go_wp2_with fail
  refine (HW.out _ _ (by simp [go_sem])).mono ?_
  rintro e w2 ⟨rfl, hb2⟩
  have hbx : Below w1.heap.size w1 w2 := ((Below.refl _ _).alloc (Nat.le_refl _) _).trans (hb2.mono (by simp))
  have p0 := cell_below p0 hbx
  have p1 := cell_below p1 hbx
  have p2 := cell_below p2 hbx
  have hz := Nat.lt_of_lt_of_le hz hbx.size
  have hb := below_onN hb hbx hb.size
  clear hbx hb2
  have HIx := Lib.hid (HI.out w2 hb p1 p2)
  clear HI HW H1
  generalize selK (fun k => gi l k == x) l.length = X at *
  go_wp2_with fail
  refine HIx.out.mono ?_
  rintro e w3 ⟨ar, cr, rfl, hrow, hb3⟩
  have p0 := cell_below p0 hb3
  have hzz := hz
  have hz := Nat.lt_of_lt_of_le hz hb3.size
  have hb := below_onN hb hb3 hb.size
  have hb2z := hb3.size
  clear HIx hb3 p1 p2
  rcases Nat.eq_zero_or_pos X.length with hX | hX
  · have hT := HT0.out.resolve_right (by omega)
    have HT := Lib.hid hT
    have dX : ((X.length : Int) == 0) = true := by simp; exact List.eq_nil_of_length_eq_zero hX
    clear hT HT0 HS HAs HOk hrow
    go_wp2_with fail
    go_ret3
    exact ⟨[], none, 0, rfl, intsC_nil2 _, HT.out, (fun z h => by cases h), hb⟩
  · have dX : ((X.length : Int) == 0) = false := beq_false_of_ne (by omega)
    obtain ⟨g, rfl, hg1, hg2, hP⟩ := planR_own hrow (by
      rintro rfl
      rcases hrow.2 with ⟨h1, h2⟩ | ⟨g2, c2, cur, h1, _⟩
      · omega
      · cases h1)
    have hgB : w.heap.size ≤ g := by omega
    have hJ3 := HJ.out w3 hb
    have HSo := Lib.hid (sortStable_r #[.pointer (some ⟨w.heap.size, 0, none⟩)] (chJ js) (fun y => ∃ m : Nat, y = m ∧ m < l.length) g X.length cr X w3 (fun y1 y2 W n hy1 hy2 hT => by
      obtain ⟨m1, rfl, hm1⟩ := hy1
      obtain ⟨m2, rfl, hm2⟩ := hy2
      have hbT : Below w.heap.size w3 W := hT.below hgB hgB hb.size
      exact (tour2_r js ja jc w.heap.size m1 m2 (by have := HL.out; omega) (by have := HL.out; omega) (W.drewN n) (show JobsS W ja js from HJ.out W (hb.trans hbT)) (show W.cell? _ = _ from hT.cell p0 (by omega) (by omega))).mono fun e w' h => h) (by omega) hP rfl HOk.out HAs.out)
    have HIn : Hid (∀ T, Seg 0 X.length X T → ∀ i, i < T.length → ∃ m : Nat, gi T i = m ∧ m < l.length) := Lib.hid fun T hT i hi => by
      obtain ⟨y, _, y2, y3⟩ := hT.to i (Nat.zero_le _) (by have := hT.len; omega)
      rw [y3]; exact HOk.out y y2
    clear hrow hP HT0 HAs HOk
    go_wp2_with fail
    refine HSo.out.mono ?_
    rintro e w4 ⟨T, ⟨rfl, hP4, hT4⟩, hl4, hg4, hs4⟩
    have hb4 : Below w.heap.size w w4 := hb.trans (hT4.below hgB hgB hb.size)
    have p0 := hT4.cell p0 (by omega) (by omega)
    have hJ4 := HJ.out w4 hb4
    obtain ⟨jb, jo, HJa, HJc⟩ := jobs_cells hJ4
    obtain ⟨m1, e1, f1⟩ := HIn.out T hg4 (X.length - 1) (by omega)
    obtain ⟨m0, e0, f0⟩ := HIn.out T hg4 0 (by omega)
    have HTP := Lib.hid (HS.out T (by rw [hl4]; exact hs4) hg4)
    have HPi := Lib.hid (hP4.ints (by omega))
    have v1 := hP4.1 (X.length - 1) (by omega)
    have v0 := hP4.1 0 (by omega)
    rw [e1] at v1
    rw [e0] at v0
    have hjl : 0 < js.length := by have := HL.out; omega
    obtain rfl := HJa.out hjl
    have d1 := (HJc.out m1 (by have := HL.out; omega)).2.2.1
    have d0 := (HJc.out m0 (by have := HL.out; omega)).2.2.1
    obtain ⟨c10, c11⟩ := HCh.out m1 f1
    obtain ⟨c00, c01⟩ := HCh.out m0 f0
    have HF : Hid (farL js T = (gj js m1).c - (gj js m0).c) := Lib.hid (by
      unfold farL chJ
      rw [if_neg (by intro h; rw [h] at hl4; simp at hl4; omega), hl4, e1, e0, Int.toNat_natCast, Int.toNat_natCast])
    have HL4 := Lib.hid hl4
    have k1 : m1 < js.length := by have := HL.out; omega
    have k0 : m0 < js.length := by have := HL.out; omega
    obtain ⟨u, hu⟩ : ∃ u : Nat, (X.length : Int) - 1 = u := ⟨X.length - 1, by omega⟩
    have k2 : u < X.length := by omega
    rw [show X.length - 1 = u by omega] at v1
    clear HJa HJc hJ3 hJ4 HSo HS HIn hP4 hT4 hl4 hg4 hs4 HJ e1 e0 hg2
    generalize (gj js m1).c = y1 at *
    generalize (gj js m0).c = y0 at *
    go_wp2_with fail
    go_quiet (fail)
    go_wp2_with fail
    go_ret3
    exact ⟨T, some ⟨g, 0, none⟩, cr, by rw [HF.out, HL4.out]; rfl, (show IntsC w4 _ _ from HPi.out), HTP.out, (fun z h => by cases h; exact hgB), below_drewN hb4 _⟩
end Go.Proofs.Ytghlhjiomebmhaa

namespace Go.Proofs.Ytghlhjiomebmhaa
set_option linter.unusedVariables false
set_option linter.unusedSimpArgs false
open Go.RowKit

theorem gi_snoc2 (pre : List Int) (x : Int) : gi (pre ++ [x]) pre.length = x := by rw [gi_app, if_neg (by omega), if_pos rfl]
theorem clI_set (l : List Int) (i : Nat) (v : Int) : (clI l).set i (.int .i64 v) = clI (l.set i v) := by unfold clI; rw [List.map_set]
theorem own_swap1 {w : World} {base g n c : Nat} {l : List Int} (h : w.ownsRow base 3 1 (.slice (some ⟨g, 0, none⟩) n c) n (clI l)) (i j : Nat) : ((w.setCell ⟨g, i, none⟩ (.int .i64 (gi l j))).setCell ⟨g, j, none⟩ (.int .i64 (gi l i))).ownsRow base 3 1 (.slice (some ⟨g, 0, none⟩) n c) n (clI (swpL l i j)) := by
  have := (World.ownsRow.stored (World.ownsRow.stored h i (.int .i64 (gi l j))).1 j (.int .i64 (gi l i))).1
  rw [clI_set, clI_set] at this
  exact this
theorem own_swap2 {w : World} {base g n c : Nat} {l : List Int} (h : w.ownsRow base 3 1 (.slice (some ⟨g, 0, none⟩) n c) n (clI l)) (i j : Nat) (hij : i ≠ j) : ((w.setCell ⟨g, j, none⟩ (.int .i64 (gi l i))).setCell ⟨g, i, none⟩ (.int .i64 (gi l j))).ownsRow base 3 1 (.slice (some ⟨g, 0, none⟩) n c) n (clI (swpL l i j)) := by
  have := (World.ownsRow.stored (World.ownsRow.stored h j (.int .i64 (gi l i))).1 i (.int .i64 (gi l j))).1
  rw [clI_set, clI_set] at this
  have e : (l.set j (gi l i)).set i (gi l j) = swpL l i j := by unfold swpL; exact List.set_comm _ _ (Ne.symm hij)
  rw [e] at this
  exact this
set_option maxRecDepth 100000 in
theorem rtour_1 (ja : Option Addr) (js : List Jo) (jc : Nat) (na : Option Addr) (ns : List Ni) (nc : Nat) (a : Option Addr) (l : List Int) (ca : Nat) (x : Int) (w : World) (hJ : JobsS w ja js) (hN : NightsS w na ns) (hA : IntsC w a l) (he : (plnE js ns l == 0) = false) :
    Calls Try.prog 14 #[.slice ja js.length jc, .slice na ns.length nc, .slice a l.length ca, .int .i64 x] w fun e w' => e = .returned (.tuple #[.slice none 0 0, .int .i64 0, .int .i64 (plnE js ns l)]) ∧ Below w.heap.size w w' := by
  have H1 := Lib.hid (refPlans_r ja js jc na ns nc a l ca w hJ hN hA)
  clear hJ hN hA
  generalize plnE js ns l = E at *
  go_enter Try.func14, Try.ntmps14
  go_wp2_with fail
  refine H1.out.mono ?_
  rintro e w1 ⟨rfl, hb1⟩
  go_wp2_with fail
  go_ret3
  exact ⟨rfl, hb1⟩
set_option maxRecDepth 100000 in
theorem rtour_2 (ja : Option Addr) (js : List Jo) (jc : Nat) (na : Option Addr) (ns : List Ni) (nc : Nat) (a : Option Addr) (l : List Int) (ca : Nat) (x : Int) (w : World) (hJ : JobsS w ja js) (hN : NightsS w na ns) (hA : IntsC w a l) (he : plnE js ns l = 0) (hx : ¬ (0 ≤ x ∧ x < ns.length)) :
    Calls Try.prog 14 #[.slice ja js.length jc, .slice na ns.length nc, .slice a l.length ca, .int .i64 x] w fun e w' => e = .returned (.tuple #[.slice none 0 0, .int .i64 0, .int .i64 2]) ∧ Below w.heap.size w w' := by
  have H1 := Lib.hid (refPlans_r ja js jc na ns nc a l ca w hJ hN hA)
  rw [he] at H1
  have hnl := hN.1
  clear hJ hN hA he
  by_cases h0 : x < 0
  · have d0 : decide (x < 0) = true := decide_eq_true h0
    go_enter Try.func14, Try.ntmps14
    go_wp2_with fail
    refine H1.out.mono ?_
    rintro e w1 ⟨rfl, hb1⟩
    go_wp2_with fail
    go_ret3
    exact ⟨rfl, hb1⟩
  · have d0 : decide (x < 0) = false := decide_eq_false h0
    have d1 : decide ((ns.length : Int) ≤ x) = true := decide_eq_true (by omega)
    go_enter Try.func14, Try.ntmps14
    go_wp2_with fail
    refine H1.out.mono ?_
    rintro e w1 ⟨rfl, hb1⟩
    go_wp2_with fail
    go_ret3
    exact ⟨rfl, hb1⟩
/-- What stands in the list behind the first k jobs. -/
structure TrP (js : List Jo) (l : List Int) (x : Int) (k : Nat) (T : List Int) : Prop where
  srt : SrtS (chJ js) T 0 T.length
  mem : ∀ y, y ∈ T ↔ y ∈ selK (fun i => gi l i == x) k
  len : T.length ≤ k
theorem TrP.nat {js : List Jo} {l : List Int} {x : Int} {k : Nat} {T : List Int} (h : TrP js l x k T) {i : Nat} (hi : i < T.length) : ∃ m : Nat, gi T i = m ∧ m < k := by
  obtain ⟨m, h1, h2, _⟩ := selK_mem _ _ _ ((h.mem _).1 (mem_of_gi hi))
  exact ⟨m, h1, h2⟩
theorem trP_skip {js : List Jo} {l : List Int} {x : Int} {k : Nat} {T : List Int} (h : TrP js l x k T) (hx : gi l k ≠ x) : TrP js l x (k + 1) T := ⟨h.srt, fun y => by
  rw [h.mem y]
  show _ ↔ y ∈ (if (gi l k == x) = true then _ else _)
  rw [if_neg (by simpa using hx)], by have := h.len; omega⟩
theorem trP_add {js : List Jo} {l : List Int} {x : Int} {k : Nat} {T c : List Int} (h : TrP js l x k T) (hx : gi l k = x) (hc : c.length = T.length + 1) {j : Nat} (hj : j ≤ T.length)
    (hlo : j = 0 ∨ ¬ chJ js k < chJ js (gi T (j - 1))) (hhi : j = T.length ∨ chJ js k < chJ js (gi T j))
    (hf : ∀ y, gi c y = if j < y ∧ y ≤ T.length then gi (T ++ [(k : Int)]) (y - 1) else if y = j then (k : Int) else gi (T ++ [(k : Int)]) y) : TrP js l x (k + 1) c := by
  have g0 : ∀ y, y < T.length → gi (T ++ [(k : Int)]) y = gi T y := fun y hy => by rw [gi_app, if_pos hy]
  have g1 : gi (T ++ [(k : Int)]) T.length = k := gi_snoc2 T k
  have hs : SrtS (chJ js) (T ++ [(k : Int)]) 0 T.length := fun p q h1 h2 h3 => by rw [g0 p (by omega), g0 q h3]; exact h.srt p q h1 h2 h3
  obtain ⟨d1, d2⟩ := dn_done (K := chJ js) (l := T ++ [(k : Int)]) (c := c) (a := 0) (m := T.length) (i := j) (Nat.zero_le _) hj hs (fun y _ hy => by
    rw [g0 y hy, g1]
    obtain ⟨m, e, hm⟩ := h.nat hy
    omega) (by
    rcases hlo with e | e
    · exact .inl e
    · by_cases e0 : j = 0
      · exact .inl e0
      · right; rw [g1, g0 _ (by omega)]; exact e) (by
    rcases hhi with e | e
    · exact .inl e
    · by_cases e0 : j = T.length
      · exact .inl e0
      · right; rw [g1, g0 _ (by omega)]; exact e) (by simp; exact hc) (fun y => by rw [hf y, g1])
  refine ⟨by rw [hc]; exact d2, fun y => ?_, by have := h.len; omega⟩
  have hm := seg_mem (l := T ++ [(k : Int)]) (l' := c) (by simpa using d1) y
  rw [hm]
  show _ ↔ y ∈ (if (gi l k == x) = true then _ else _)
  rw [if_pos (by simpa using hx), List.mem_append, List.mem_append, h.mem y]
theorem trP_tour {js : List Jo} {l : List Int} {x : Int} {T : List Int} (h : TrP js l x l.length T) : TourP js l x T := ⟨srt_pair h.srt, h.mem⟩
set_option maxRecDepth 100000 in
set_option maxHeartbeats 8000000 in
theorem rtour_3 (ja : Option Addr) (js : List Jo) (jc : Nat) (na : Option Addr) (ns : List Ni) (nc : Nat) (a : Option Addr) (l : List Int) (ca : Nat) (x : Int) (w : World) (hJ : JobsS w ja js) (hN : NightsS w na ns) (hA : IntsC w a l) (he : plnE js ns l = 0) (hx : 0 ≤ x ∧ x < ns.length) :
    Calls Try.prog 14 #[.slice ja js.length jc, .slice na ns.length nc, .slice a l.length ca, .int .i64 x] w fun e w' => TouE js l x w e w' := by
  obtain ⟨he1, he2, he3⟩ := plnE_ok he
  have hlj : l.length = js.length := (plnB_iff.1 he2).1
  have hjb := (errL_ok he1).1
  have hl60 := jobsB_len hjb
  have hl6 : l.length ≤ 60 := by omega
  have H1 := Lib.hid (refPlans_r ja js jc na ns nc a l ca w hJ hN hA)
  rw [he] at H1
  have hnl := hN.1
  have d0 : decide (x < 0) = false := decide_eq_false (by omega)
  have d1 : decide ((ns.length : Int) ≤ x) = false := decide_eq_false (by omega)
  have HCh : Hid (∀ m, m < l.length → 0 ≤ (gj js m).c ∧ (gj js m).c ≤ 10000000) := Lib.hid fun m hm => chain_b hjb (by omega)
  have HT0 : Hid (TrP js l x 0 []) := Lib.hid ⟨fun i j h1 h2 h3 => by simp at h3, fun y => by simp [selK], Nat.le_refl _⟩
  have HSk : Hid (∀ k T, TrP js l x k T → gi l k ≠ x → TrP js l x (k + 1) T) := Lib.hid fun k T h h2 => trP_skip h h2
  have HAd : Hid (∀ (k j : Nat) (T c : List Int), TrP js l x k T → gi l k = x → c.length = T.length + 1 → j ≤ T.length → (j = 0 ∨ ¬ chJ js k < chJ js (gi T (j - 1))) → (j = T.length ∨ chJ js k < chJ js (gi T j)) → (∀ y, gi c y = if j < y ∧ y ≤ T.length then gi (T ++ [(k : Int)]) (y - 1) else if y = j then (k : Int) else gi (T ++ [(k : Int)]) y) → TrP js l x (k + 1) c) := Lib.hid fun k j T c q1 q2 q3 q4 q5 q6 q7 => trP_add q1 q2 q3 q4 q5 q6 q7
  have HE : Hid (∀ T, TrP js l x l.length T → TourP js l x T) := Lib.hid fun T h => trP_tour h
  have HL := Lib.hid hlj
  obtain ⟨jb, jo, HJa, HJc⟩ := jobs_cells hJ
  obtain ⟨hl64, blk, off, hadr, hc⟩ := hA
  have HC := Lib.hid hc
  have HLa : Hid (0 < l.length → a = some ⟨blk, off, none⟩) := Lib.hid fun h => hadr (pos_ne (n := 0) h)
  clear hc hadr hJ hN he he1 he2 he3 hlj hjb
  have HKd : Hid (∀ m : Nat, chJ js m = (gj js m).c) := Lib.hid fun m => by unfold chJ; rw [Int.toNat_natCast]
  go_enter Try.func14, Try.ntmps14
  go_wp2_with fail
  refine H1.out.mono ?_
  rintro e w1 ⟨rfl, hb1⟩
  clear H1
  go_wp2_with fail
  go_loopw [12, 13] (fun v i wr => ∃ (k : Nat) (T : List Int), k ≤ l.length ∧ i = .int .i64 k ∧ (∃ a c, v = .slice a T.length c) ∧ Hid (wr.ownsRow w.heap.size 3 1 v T.length (clI T)) ∧ Hid (TrP js l x k T) ∧ Below w.heap.size w wr) (fun _ i _ => l.length - (intOf i).toNat)
  case atStart => exact ⟨0, [], Nat.zero_le _, rfl, ⟨none, 0, rfl⟩, Lib.hid ⟨rfl, .inl ⟨rfl, rfl⟩⟩, HT0, hb1⟩
  case round =>
    obtain ⟨k, T, hk, rfl, ⟨av, cv, rfl⟩, HRow, HT, hb⟩ := hrel
    clear hb1
    by_cases hlt : k < l.length
    · obtain rfl := HLa.out (by omega)
      have e0 := cell_below (HC.out k hlt) hb
      have hTl := HT.out.len
      by_cases hy : gi l k = x
      · have dx : (gi l k != x) = false := by simp [hy]
        have HAdk := Lib.hid (fun j c q3 q4 q5 q6 q7 => HAd.out k j T c HT.out hy q3 q4 q5 q6 q7)
        have HTn := Lib.hid (fun i (hi : i < T.length) => HT.out.nat hi)
        have hown := Lib.hid (HRow.out.alloc (.cells #[.int .i64 k] 3))
        have hbs := hb.size
        generalize hgl : gi l k = yl at *
        clear HSk HAd HE HC HLa HT0 hgl hy HT
        obtain ⟨n, hn⟩ : ∃ n, T.length = n := ⟨_, rfl⟩
        have HN := Lib.hid hn
        rw [hn] at hown hTl
        rw [hn]
        clear hn
        go_upto_region 12 with (at_builtin; go_loud (refine app_int (by rfl) _ _ (by rfl) w.heap.size n cv av _ (by rfl) hown.out wr.heap.size (.int .i64 k) (by rfl) (by simp [go_sem]) (by rfl) (by omega) (by simp; omega) ?_); intro g6 c6 w6 hown6 hb6)
        have hb6 : Below w.heap.size w w6 := (hb.alloc hbs _).trans hb6
        have HR6 : Hid (w6.ownsRow w.heap.size 3 1 (.slice (some ⟨g6, 0, none⟩) (n + 1) c6) (n + 1) (clI (T ++ [(k : Int)]))) := Lib.hid (by rw [clI_app]; exact hown6)
        clear hown6 hown HRow e0
        go_wp2_with fail
        go_loopw [14] (fun vj wr => ∃ j : Nat, j ≤ n ∧ vj = .int .i64 j ∧ Below w.heap.size w wr ∧ Hid (j = T.length ∨ chJ js k < chJ js (gi T j)) ∧ Hid (∃ c : List Int, c.length = n + 1 ∧ wr.ownsRow w.heap.size 3 1 (.slice (some ⟨g6, 0, none⟩) (n + 1) c6) (n + 1) (clI c) ∧ ∀ y, gi c y = if j < y ∧ y ≤ T.length then gi (T ++ [(k : Int)]) (y - 1) else if y = j then (k : Int) else gi (T ++ [(k : Int)]) y)) (fun vj _ => (intOf vj).toNat)
        case atStart => exact ⟨n, Nat.le_refl _, by go_num, hb6, Lib.hid (.inl HN.out.symm), Lib.hid ⟨T ++ [(k : Int)], by simp [HN.out], HR6.out, fun y => by
          rw [if_neg (by have := HN.out; omega)]
          by_cases e : y = n
          · rw [if_pos e, e, ← HN.out]; exact gi_snoc2 T k
          · rw [if_neg e]⟩⟩
        case round =>
          obtain ⟨j, hj, rfl, hb, HJ, HK⟩ := hrel
          obtain ⟨c, c1, c2, c3⟩ := HK.out
          have hTn := HN.out
          by_cases hj0 : 0 < j
          · have dg : decide ((0 : Int) < j) = true := decide_eq_true (by omega)
            obtain ⟨u, hu⟩ : ∃ u : Nat, (j : Int) - 1 = u := ⟨j - 1, by omega⟩
            have e1 : gi c j = k := by rw [c3, if_neg (by omega), if_pos rfl]
            obtain ⟨m, em, hm⟩ := HTn.out (j - 1) (by omega)
            have e2 : gi c u = m := by
              rw [c3, if_neg (by omega), if_neg (by omega), gi_app, if_pos (by omega), show u = j - 1 by omega]; exact em
            have v1 : wr.cell? ⟨g6, j, none⟩ = some (.int .i64 k) := by rw [World.ownsRow.cellAt c2 j (by omega), clI_get c (by omega), e1]
            have v2 : wr.cell? ⟨g6, u, none⟩ = some (.int .i64 m) := by rw [World.ownsRow.cellAt c2 u (by omega), clI_get c (by omega), e2]
            have hkj : k < js.length := by have := HL.out; omega
            have hmj : m < js.length := by omega
            obtain rfl := HJa.out (by omega)
            have q1 := cell_below (HJc.out k hkj).2.2.1 hb
            have q2 := cell_below (HJc.out m hmj).2.2.1 hb
            have l1 : j < n + 1 := by omega
            have l2 : u < n + 1 := by omega
            by_cases hx2 : (gj js k).c < (gj js m).c
            · have hd : decide ((gj js k).c < (gj js m).c) = true := decide_eq_true hx2
              have HS1 := Lib.hid (own_swap1 c2 j u)
              have HS2 := Lib.hid (own_swap2 c2 j u (by omega))
              rw [e1, e2] at HS1 HS2
              have hg6 : w.heap.size ≤ g6 := owns_blockI c2 (z := g6) (by simp [Value.ownBlock])
              have HNx : Hid ((swpL c j u).length = n + 1 ∧ ∀ y, gi (swpL c j u) y = if u < y ∧ y ≤ T.length then gi (T ++ [(k : Int)]) (y - 1) else if y = u then (k : Int) else gi (T ++ [(k : Int)]) y) := Lib.hid ⟨by rw [swpL_len]; exact c1, fun y => by
                rw [gi_swpL (by omega) (by omega) (by omega), c3, c3, c3]
                repeat' split
                all_goals first | (exfalso; omega) | (congr 1; omega) | rfl⟩
              have HJ2 : Hid (u = T.length ∨ chJ js k < chJ js (gi T u)) := Lib.hid (.inr (by rw [show u = j - 1 by omega, em, HKd.out, HKd.out]; exact hx2))
              have f1 : wr.frozen? ⟨g6, j, none⟩ = false := World.ownsRow.frozenAt c2 j
              have f2 : wr.frozen? ⟨g6, u, none⟩ = false := World.ownsRow.frozenAt c2 u
              have k5 : u ≠ j := by omega
              have k6 : j ≠ u := by omega
              have k7 : u < j := by omega
              clear HK c1 c2 c3 e1 e2 hx2 HJ HAdk HTn HJc HJa HKd HCh em HR6 hb6
              generalize swpL c j u = c9 at *
              generalize (gj js k).c = xk at *
              generalize (gj js m).c = xm at *
              go_wp2_with fail
              go_quiet (fail)
              go_wp2_with fail
              go_region
              all_goals
                go_wp2_with fail
                go_roundw
                case rel => exact ⟨u, by omega, by go_num, by first | exact ((below_drewN hb _).setCell hg6 _).setCell hg6 _ | exact (((below_drewN hb _).drew).setCell hg6 _).setCell hg6 _, HJ2, Lib.hid ⟨c9, HNx.out.1, by first | exact HS1.out | exact HS2.out, HNx.out.2⟩⟩
                case measure => simp [intOf]; omega
            · have hd : decide ((gj js k).c < (gj js m).c) = false := decide_eq_false hx2
              have hTr := HAdk.out j c (by omega) (by omega) (.inr (by rw [em, HKd.out, HKd.out]; omega)) HJ.out c3
              have HTr := Lib.hid hTr
              have HRc : ∀ q, Hid ((wr.drewN q).ownsRow w.heap.size 3 1 (.slice (some ⟨g6, 0, none⟩) (n + 1) c6) c.length (clI c)) := fun q => Lib.hid (by rw [c1]; exact c2)
              have HCl := Lib.hid c1
              clear HK c1 c2 c3 e1 e2 hx2 HJ HAdk HTn HJc HJa HKd HCh em HR6 hb6 hTr
              generalize (gj js k).c = xk at *
              generalize (gj js m).c = xm at *
              go_wp2_with fail
              go_quiet (fail)
              go_wp2_with fail
              go_roundw
              case rel => exact ⟨k + 1, c, by omega, by go_num, ⟨_, c6, by rw [HCl.out]⟩, by first | exact HRc _ | exact (by rw [HCl.out]; exact HRc _), HTr, below_drewN hb _⟩
              case measure => simp [intOf]; omega
          · obtain rfl : j = 0 := by omega
            have dg : decide ((0 : Int) < ((0 : Nat) : Int)) = false := rfl
            have dg2 : decide ((0 : Int) < 0) = false := rfl
            have hTr := HAdk.out 0 c (by omega) (Nat.zero_le _) (.inl rfl) HJ.out c3
            have HTr := Lib.hid hTr
            have HRc : ∀ q, Hid ((wr.drewN q).ownsRow w.heap.size 3 1 (.slice (some ⟨g6, 0, none⟩) (n + 1) c6) c.length (clI c)) := fun q => Lib.hid (by rw [c1]; exact c2)
            have HCl := Lib.hid c1
            clear HK c1 c2 c3 HJ HAdk HTn HJc HJa HKd HCh HR6 hb6 hTr
            go_wp2_with fail
            go_quiet (fail)
            go_wp2_with fail
            go_roundw
            case rel => exact ⟨k + 1, c, by omega, by go_num, ⟨_, c6, by rw [HCl.out]⟩, by first | exact HRc _ | exact (by rw [HCl.out]; exact HRc _), HTr, below_drewN hb _⟩
            case measure => simp [intOf]; omega
      · have dx : (gi l k != x) = true := by simp [hy]
        have HT2 := Lib.hid (HSk.out k T HT.out hy)
        clear HSk HAd HE HC HLa HT0 HJc HJa HCh
        generalize gi l k = yl at *
        clear hy
        go_wp2_with fail
        go_roundw
        case rel => exact ⟨k + 1, T, by omega, by go_num, ⟨av, cv, rfl⟩, HRow, HT2, hb⟩
        case measure => simp [intOf]; omega
    · obtain rfl : k = l.length := by omega
      have HTo := Lib.hid (HE.out T HT.out)
      have hTl := HT.out.len
      rcases Nat.eq_zero_or_pos T.length with hX | hX
      · have dX : ((T.length : Int) == 0) = true := by simp; exact List.eq_nil_of_length_eq_zero hX
        have HTe : Hid (T = []) := Lib.hid (List.eq_nil_of_length_eq_zero hX)
        clear HSk HAd HE HC HLa HT0 HJc HJa HCh HT HRow
        go_wp2_with fail
        go_ret3
        exact ⟨[], none, 0, rfl, intsC_nil2 _, by rw [← HTe.out]; exact HTo.out, hb⟩
      · have dX : ((T.length : Int) == 0) = false := beq_false_of_ne (by omega)
        obtain ⟨g, rfl, hg1, hg2, hP⟩ := planR_own HRow.out (by
          rintro rfl
          rcases HRow.out.2 with ⟨h1, h2⟩ | ⟨g2, c2, cur, h1, _⟩
          · omega
          · cases h1)
        obtain ⟨m1, e1, f1⟩ := HT.out.nat (i := T.length - 1) (by omega)
        obtain ⟨m0, e0, f0⟩ := HT.out.nat (i := 0) (by omega)
        have HPi := Lib.hid (hP.ints (by omega))
        have v1 := hP.1 (T.length - 1) (by omega)
        have v0 := hP.1 0 (by omega)
        rw [e1] at v1
        rw [e0] at v0
        have hjl : 0 < js.length := by have := HL.out; omega
        obtain rfl := HJa.out hjl
        have d1 := cell_below (HJc.out m1 (by have := HL.out; omega)).2.2.1 hb
        have d0 := cell_below (HJc.out m0 (by have := HL.out; omega)).2.2.1 hb
        obtain ⟨c10, c11⟩ := HCh.out m1 f1
        obtain ⟨c00, c01⟩ := HCh.out m0 f0
        have HF : Hid (farL js T = (gj js m1).c - (gj js m0).c) := Lib.hid (by
          unfold farL chJ
          rw [if_neg (by intro h; rw [h] at hX; simp at hX), e1, e0, Int.toNat_natCast, Int.toNat_natCast])
        have k1 : m1 < js.length := by have := HL.out; omega
        have k0 : m0 < js.length := by have := HL.out; omega
        obtain ⟨u, hu⟩ : ∃ u : Nat, (T.length : Int) - 1 = u := ⟨T.length - 1, by omega⟩
        have k2 : u < T.length := by omega
        rw [show T.length - 1 = u by omega] at v1
        clear HSk HAd HE HC HLa HT0 HJc HJa HCh HT HRow hP e1 e0 hg1 hg2
        generalize (gj js m1).c = y1 at *
        generalize (gj js m0).c = y0 at *
        go_wp2_with fail
        go_quiet (fail)
        go_wp2_with fail
        go_ret3
        exact ⟨T, some ⟨g, 0, none⟩, cv, by rw [HF.out]; rfl, (show IntsC wr _ _ from HPi.out), HTo.out, below_drewN hb _⟩
end Go.Proofs.Ytghlhjiomebmhaa

namespace Go.Proofs.Ytghlhjiomebmhaa
set_option linter.unusedVariables false
set_option linter.unusedSimpArgs false
open Go.RowKit

/-- append(row, list...): the list empty or not. -/
theorem app_ints {ops : Array Oper} {rest : List Oper} {o : Oper} {a : Act} {Q : Exit → Act → World → Prop} (w : World) (hgd : o.guard = none) (s x : Operand)
    (ho : o.op = .call { callee := .builtin .append, args := #[s, x], argTypes := #[26, 26] })
    (base : Nat) (b : Option Addr) (n c : Nat) (xs : List Value) (hs : a.eval s = .slice b n c) (hown : w.ownsRow base 3 1 (.slice b n c) n xs)
    (ax : Option Addr) (l : List Int) (cx : Nat) (hx : a.eval x = .slice ax l.length cx) (hP : IntsC w ax l) (hlen : n + l.length ≤ 100000000) (hbase : base ≤ w.heap.size)
    (h : ∀ b' c' w', w'.ownsRow base 3 1 (.slice b' (n + l.length) c') (n + l.length) (xs ++ clI l) → Below base w w' → wpList Try.prog ops Q rest (a.put o.dst (.slice b' (n + l.length) c')) w') : wpList Try.prog ops Q (o :: rest) a w := by
  obtain ⟨n0, hi, hz0, hz1, hz2⟩ := info_parts infoInt
  by_cases h0 : l.length = 0
  · have hl := List.eq_nil_of_length_eq_zero h0
    subst hl
    refine wpList_append_zero hgd s x 26 ho base 3 n0 1 undRow hi (.slice b n c) n xs hs hown ax cx hx ?_
    have := h b c w (by rw [show clI [] = [] from rfl, List.append_nil]; exact hown) (Below.refl _ _)
    exact this
  · obtain ⟨-, blk, off, hadr, hcell⟩ := hP
    obtain rfl := hadr (by rintro rfl; exact h0 rfl)
    refine wpList_append_lies w hgd s x 26 ho base 3 n0 _ 1 8 undRow hi hz0 hz1 hz2 rfl (by decide) (.slice b n c) n xs hs hown ⟨blk, off, none⟩ l.length cx (clI l) hx (by rw [clI_len]; omega) (fun j u h => ?_) (clI_one l) (by omega) (by unfold maxLen; omega) (by omega) hbase _ rfl ?_
    · have hj : j < l.length := by
        rw [← clI_len]
        rw [List.getElem?_eq_some_iff] at h
        exact h.1
      rw [clI_get l hj] at h
      cases h
      have hadd : (⟨blk, off, none⟩ : Addr).add j = ⟨blk, off + j, none⟩ := by unfold Addr.add; split <;> simp_all
      rw [hadd]
      exact hcell j hj
    · intro g cap w' h1 h2 _ _
      exact h _ _ _ h1 ((Below.refl _ _).grown h2 hbase (fun z hz => owns_blockI hown hz))
set_option maxRecDepth 100000 in
set_option maxHeartbeats 2000000 in
theorem sameInts_eq (a b : Option Addr) (l : List Int) (ca cb : Nat) (w : World) (hA : IntsC w a l) (hB : IntsC w b l) :
    Calls Try.prog 17 #[.slice a l.length ca, .slice b l.length cb] w fun e w' => e = .returned (.bool true) ∧ Below w.heap.size w w' := by
  obtain ⟨hl64, blk, off, hadr, hc⟩ := hA
  obtain ⟨-, blk2, off2, hadr2, hc2⟩ := hB
  have HC := Lib.hid hc
  have HL : Hid (0 < l.length → a = some ⟨blk, off, none⟩) := Lib.hid fun h => hadr (pos_ne (n := 0) h)
  have HC2 := Lib.hid hc2
  have HL2 : Hid (0 < l.length → b = some ⟨blk2, off2, none⟩) := Lib.hid fun h => hadr2 (pos_ne (n := 0) h)
  clear hc hadr hc2 hadr2
  go_enter Try.func17, Try.ntmps17
  go_wp2_with fail
  go_loopw [5] (fun i wr => ∃ k : Nat, k ≤ l.length ∧ i = .int .i64 k ∧ Below w.heap.size w wr) (fun i _ => l.length - (intOf i).toNat)
  case atStart => exact ⟨0, Nat.zero_le _, rfl, Below.refl _ _⟩
  case round =>
    obtain ⟨k, hk, rfl, hb⟩ := hrel
    by_cases hlt : k < l.length
    · obtain rfl := HL.out (by omega)
      obtain rfl := HL2.out (by omega)
      have c0 := cell_below (HC.out k hlt) hb
      have d0 := cell_below (HC2.out k hlt) hb
      have k1 : decide ((0 : Int) ≤ k) = true := decide_eq_true (by omega)
      have k2 : decide ((k : Int) < l.length) = true := decide_eq_true (by omega)
      clear HC HL HC2 HL2
      generalize gi l k = x at *
      go_wp2_with fail
      go_quiet (fail)
      go_wp2_with fail
      go_roundw
      case rel => exact ⟨k + 1, by omega, by go_num, below_drewN hb _⟩
      case measure => simp [intOf]; omega
    · obtain rfl : k = l.length := by omega
      go_wp2_with fail
      go_ret
      exact ⟨rfl, hb⟩
end Go.Proofs.Ytghlhjiomebmhaa
