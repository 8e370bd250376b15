/-
  The law NightTours of package night. By an AI agent.; The arguments of package night's laws, opened. By an AI agent.
-/
import Derived.Test.YtghlhjiomebmhaaMgNightTours11
import Derived.Test.YtghlhjiomebmhaaMgNightTours12
import Derived.Test.YtghlhjiomebmhaaMgNightTours19
import Derived.Deep.RegionHeld3
import Derived.BigQuiet
import Derived.Deep.DeepCutAuto
import Derived.Lib.OwnBridge
import Derived.Lib.SmallJoins
import Derived.Deep.Slices
import Derived.OpenShut

namespace Go.Proofs.Ytghlhjiomebmhaa
set_option linter.unusedVariables false
set_option linter.unusedSimpArgs false
open Go.RowKit

theorem infoBool : (Try.prog.info? 4).map (fun i => (i.zero, i.size, i.bytes)) = some (some (.bool false), 1, 1) := by kernel_rfl
/-- A row of booleans in a block. -/
def RowB (w : World) (g n : Nat) (f : Nat → Bool) : Prop := (∀ i, i < n → w.cell? ⟨g, i, none⟩ = some (.bool (f i))) ∧ ∀ i, i < n → w.frozen? ⟨g, i, none⟩ = false
theorem RowB.same {w w' : World} {g n : Nat} {f : Nat → Bool} (h : RowB w g n f) (hb : w'.heap[g]? = w.heap[g]?) : RowB w' g n f :=
  ⟨fun i hi => (World.cell?_of_block (w := w) (w' := w') (a := ⟨g, i, none⟩) hb).trans (h.1 i hi), fun i hi => by
    have := h.2 i hi
    unfold World.frozen? at *
    rw [hb]; exact this⟩
theorem RowB.congr {w : World} {g n : Nat} {f f' : Nat → Bool} (h : RowB w g n f) (he : ∀ i, i < n → f' i = f i) : RowB w g n f' := ⟨fun i hi => by rw [he i hi]; exact h.1 i hi, h.2⟩
theorem RowB.store {w : World} {g n : Nat} {f f' : Nat → Bool} (h : RowB w g n f) {j : Nat} (hj : j < n) {v : Bool} (he : ∀ i, i < n → f' i = if i = j then v else f i) : RowB (w.setCell ⟨g, j, none⟩ (.bool v)) g n f' := by
  refine ⟨fun i hi => ?_, fun i hi => ?_⟩
  · have h1 := h.1 i hi
    have h2 := h.2 j hj
    have h3 := h.1 j hj
    rw [he i hi]
    by_cases e : i = j
    · subst e; rw [if_pos rfl]; simp [go_sem, h1]
    · rw [if_neg e]; simp [go_sem, h1, e, h3]
  · rw [World.frozen?_setCell]
    exact h.2 i hi
theorem RowB.made {w : World} {base g n : Nat} (h : w.ownsRow base 4 1 (.slice (some ⟨g, 0, none⟩) n n) n (madeCells #[Value.bool false] n).toList) : RowB w g n (fun _ => false) ∧ base ≤ g ∧ g < w.heap.size := by
  refine ⟨⟨fun i hi => ?_, fun i hi => World.ownsRow.frozenAt h i⟩, ?_⟩
  · rw [toList_madeCells_one] at h
    rw [World.ownsRow.cellAt h i (by omega)]
    simp [hi]
  · rcases h.2 with ⟨h1, h2⟩ | ⟨g2, c2, cur, h1, hg, hgb, _⟩
    · cases h1
    · obtain ⟨rfl, rfl⟩ : g = g2 ∧ n = c2 := by simpa using h1
      exact ⟨hg, (Array.getElem?_eq_some_iff.1 hgb).1⟩
/-- Which jobs were seen behind the first i of a tour of night k. -/
def fI (l : List Int) (k : Nat) (T : List Int) (i : Nat) : Nat → Bool := fun j => decide (0 ≤ gi l j ∧ gi l j < k) || anyK (fun q => gi T q == (j : Int)) i
theorem cK_setT {f f' : Nat → Bool} {m : Nat} : ∀ L, (∀ j, j < L → f' j = if j = m then true else f j) → (m < L → f m = false) → cK f' L = cK f L + (if m < L then 1 else 0)
  | 0, _, _ => by simp [cK]
  | L + 1, h, hm => by
    have ih := cK_setT (f := f) (f' := f') (m := m) L (fun j hj => h j (by omega)) (fun h => hm (by omega))
    have h1 := h L (by omega)
    show cK f' L + (if f' L = true then 1 else 0) = cK f L + (if f L = true then 1 else 0) + (if m < L + 1 then 1 else 0)
    rw [ih, h1]
    by_cases e : L = m
    · subst e
      rw [if_pos rfl, if_neg (Nat.lt_irrefl L), if_pos (Nat.lt_succ_self L), hm (Nat.lt_succ_self L)]; simp
    · rw [if_neg e]
      by_cases e2 : m < L
      · rw [if_pos e2, if_pos (Nat.lt_succ_of_lt e2)]; omega
      · rw [if_neg e2, if_neg (show ¬ m < L + 1 by omega)]; omega
theorem tour_ne {js : List Jo} {l : List Int} {x : Int} {T : List Int} (h : TourP js l x T) {p q : Nat} (hpq : p < q) (hq : q < T.length) : ltK (chJ js) (gi T p) (gi T q) := by
  have := List.pairwise_iff_getElem.1 h.srt p q (by omega) hq hpq
  rw [gi_eq (Nat.lt_trans hpq hq), gi_eq hq]
  exact this
theorem fI_step {js : List Jo} {l : List Int} {k : Nat} {T : List Int} (h : TourP js l k T) {i m : Nat} (hi : i < T.length) (hm : gi T i = m) : (∀ j, fI l k T (i + 1) j = if j = m then true else fI l k T i j) ∧ fI l k T i m = false := by
  constructor
  · intro j
    show (_ || (anyK (fun q => gi T q == (j : Int)) i || (gi T i == (j : Int)))) = _
    rw [hm]
    by_cases e : j = m
    · subst e; rw [if_pos rfl]; simp
    · rw [if_neg e, beq_false_of_ne (show (m : Int) ≠ j by omega), Bool.or_false]; rfl
  · unfold fI
    obtain ⟨m2, e1, e2, e3⟩ := tour_in h hi
    obtain rfl : m = m2 := by omega
    rw [e3, decide_eq_false (by omega), Bool.false_or, anyK_iff]
    intro q hq
    refine beq_false_of_ne fun e => ?_
    have := tour_ne h hq hi
    rw [e, hm] at this
    exact ltK_irrefl _ _ this
theorem fI_end {js : List Jo} {l : List Int} {k : Nat} {T : List Int} (h : TourP js l k T) : ∀ j, j < l.length → decide (0 ≤ gi l j ∧ gi l j < ((k + 1 : Nat) : Int)) = fI l k T T.length j := fun j hj => by
  unfold fI
  rw [Bool.eq_iff_iff, Bool.or_eq_true, decide_eq_true_eq, decide_eq_true_eq]
  constructor
  · intro hh
    by_cases e : gi l j = k
    · right
      have := (h.mem (j : Int)).2 (mem_selK _ _ hj (by simp [e]))
      obtain ⟨q, hq, e2⟩ := gi_of_mem this
      exact anyK_true (j := q) (by simp [e2]) _ hq
    · left; omega
  · rintro (hh | hh)
    · omega
    · obtain ⟨q, hq, e⟩ := anyK_ex _ hh
      have e : gi T q = j := by simpa using e
      obtain ⟨m2, e1, e2, e3⟩ := tour_in h hq
      obtain rfl : j = m2 := by omega
      omega
theorem tours_all {l : List Int} {N : Nat} (h : ∀ i, i < l.length → -1 ≤ gi l i ∧ gi l i < N) : cK (fun j => decide (0 ≤ gi l j ∧ gi l j < (N : Int))) l.length = dnK l l.length := by
  unfold dnK
  exact cK_congr _ fun i hi => by
    have := h i hi
    rw [Bool.eq_iff_iff, decide_eq_true_eq, decide_eq_true_eq]; omega
set_option maxRecDepth 100000 in
set_option maxHeartbeats 2000000 in
theorem nightTours_a (ja : Option Addr) (js : List Jo) (jc : Nat) (na : Option Addr) (ns : List Ni) (nc : Nat) (a : Option Addr) (l : List Int) (ca : Nat) (w : World) (hJ : JobsS w ja js) (hN : NightsS w na ns) (hA : IntsC w a l) (h0 : wideB js.length ns.length 30 30 = true) :
    Calls Try.prog 4 #[.agg #[.slice ja js.length jc, .slice na ns.length nc], .slice a l.length ca] w fun e w' => e = .returned (.bool true) ∧ Below w.heap.size w w' := by
  have HA := Lib.hid (fun W => awake_any W)
  have hjl := hJ.1
  have hal := hA.1
  have HW := Lib.hid (fun W => wide_v ja js.length jc na ns.length nc 30 30 W h0)
  clear h0
  obtain ⟨wB, hwB⟩ : ∃ wB, w.alloc (.cells #[.slice ja js.length jc, .slice na ns.length nc] 25) = wB := ⟨_, rfl⟩
  have hb : Below w.heap.size w wB := by rw [← hwB]; exact (Below.refl _ _).alloc (Nat.le_refl _) _
  have p0 : wB.cell? ⟨w.heap.size, 0, none⟩ = some (.slice ja js.length jc) := by rw [← hwB]; simp [go_sem]
  have p1 : wB.cell? ⟨w.heap.size, 1, none⟩ = some (.slice na ns.length nc) := by rw [← hwB]; simp [go_sem]
  clear hJ hN hA
  go_enter Try.func4, Try.ntmps4
  go_wp2_with fail
  refine (HW.out _).mono ?_
  rintro e w1 ⟨rfl, hbx⟩
  have p0 := cell_below p0 hbx
  have p1 := cell_below p1 hbx
  have hb := below_onN hb hbx hb.size
  clear hbx
  go_wp2_with fail
  refine (HA.out _).mono ?_
  rintro e wz ⟨rfl, hbz⟩
  go_wp2_with fail
  go_ret
  exact ⟨rfl, below_onN hb hbz hb.size⟩
set_option maxRecDepth 100000 in
set_option maxHeartbeats 2000000 in
theorem nightTours_b (ja : Option Addr) (js : List Jo) (jc : Nat) (na : Option Addr) (ns : List Ni) (nc : Nat) (a : Option Addr) (l : List Int) (ca : Nat) (w : World) (hJ : JobsS w ja js) (hN : NightsS w na ns) (hA : IntsC w a l) (h0 : wideB js.length ns.length 30 30 = false) (h1 : 60 < l.length) :
    Calls Try.prog 4 #[.agg #[.slice ja js.length jc, .slice na ns.length nc], .slice a l.length ca] w fun e w' => e = .returned (.bool true) ∧ Below w.heap.size w w' := by
  have HA := Lib.hid (fun W => awake_any W)
  have hjl := hJ.1
  have hal := hA.1
  have HW := Lib.hid (fun W => wide_v ja js.length jc na ns.length nc 30 30 W h0)
  clear h0
  have g1 : decide ((60 : Int) < l.length) = true := decide_eq_true (by omega)
  obtain ⟨wB, hwB⟩ : ∃ wB, w.alloc (.cells #[.slice ja js.length jc, .slice na ns.length nc] 25) = wB := ⟨_, rfl⟩
  have hb : Below w.heap.size w wB := by rw [← hwB]; exact (Below.refl _ _).alloc (Nat.le_refl _) _
  have p0 : wB.cell? ⟨w.heap.size, 0, none⟩ = some (.slice ja js.length jc) := by rw [← hwB]; simp [go_sem]
  have p1 : wB.cell? ⟨w.heap.size, 1, none⟩ = some (.slice na ns.length nc) := by rw [← hwB]; simp [go_sem]
  clear hJ hN hA
  go_enter Try.func4, Try.ntmps4
  go_wp2_with fail
  refine (HW.out _).mono ?_
  rintro e w1 ⟨rfl, hbx⟩
  have p0 := cell_below p0 hbx
  have p1 := cell_below p1 hbx
  have hb := below_onN hb hbx hb.size
  clear hbx
  go_wp2_with fail
  refine (HA.out _).mono ?_
  rintro e wz ⟨rfl, hbz⟩
  go_wp2_with fail
  go_ret
  exact ⟨rfl, below_onN hb hbz hb.size⟩
set_option maxRecDepth 100000 in
set_option maxHeartbeats 2000000 in
theorem nightTours_c (ja : Option Addr) (js : List Jo) (jc : Nat) (na : Option Addr) (ns : List Ni) (nc : Nat) (a : Option Addr) (l : List Int) (ca : Nat) (w : World) (hJ : JobsS w ja js) (hN : NightsS w na ns) (hA : IntsC w a l) (h0 : wideB js.length ns.length 30 30 = false) (h1 : ¬ 60 < l.length) (h2 : rtE js ns l ≠ 0) :
    Calls Try.prog 4 #[.agg #[.slice ja js.length jc, .slice na ns.length nc], .slice a l.length ca] w fun e w' => e = .returned (.bool true) ∧ Below w.heap.size w w' := by
  have HA := Lib.hid (fun W => awake_any W)
  have hjl := hJ.1
  have hal := hA.1
  have HW := Lib.hid (fun W => wide_v ja js.length jc na ns.length nc 30 30 W h0)
  have HR := Lib.hid (fun W (hW : Below w.heap.size w W) => refRight_r ja js jc na ns nc a l ca W (hJ.below hW) (hN.below hW) (hA.below hW))
  clear h0
  have g1 : decide ((60 : Int) < l.length) = false := decide_eq_false (by omega)
  have g2 : (rtE js ns l != 0) = true := by simp [h2]
  generalize rtE js ns l = E at *
  generalize rtV js ns l = V at *
  clear h2
  obtain ⟨wB, hwB⟩ : ∃ wB, w.alloc (.cells #[.slice ja js.length jc, .slice na ns.length nc] 25) = wB := ⟨_, rfl⟩
  have hb : Below w.heap.size w wB := by rw [← hwB]; exact (Below.refl _ _).alloc (Nat.le_refl _) _
  have p0 : wB.cell? ⟨w.heap.size, 0, none⟩ = some (.slice ja js.length jc) := by rw [← hwB]; simp [go_sem]
  have p1 : wB.cell? ⟨w.heap.size, 1, none⟩ = some (.slice na ns.length nc) := by rw [← hwB]; simp [go_sem]
  clear hJ hN hA
  go_enter Try.func4, Try.ntmps4
  go_wp2_with fail
  refine (HW.out _).mono ?_
  rintro e w1 ⟨rfl, hbx⟩
  have p0 := cell_below p0 hbx
  have p1 := cell_below p1 hbx
  have hb := below_onN hb hbx hb.size
  clear hbx
  go_wp2_with fail
  refine (HR.out _ hb).mono ?_
  rintro e w2 ⟨rfl, hbx⟩
  have p0 := cell_below p0 hbx
  have p1 := cell_below p1 hbx
  have hb := below_onN hb hbx hb.size
  clear hbx
  go_wp2_with fail
  refine (HA.out _).mono ?_
  rintro e wz ⟨rfl, hbz⟩
  go_wp2_with fail
  go_ret
  exact ⟨rfl, below_onN hb hbz hb.size⟩
set_option maxRecDepth 100000 in
set_option maxHeartbeats 2000000 in
theorem nightTours_d (ja : Option Addr) (js : List Jo) (jc : Nat) (na : Option Addr) (ns : List Ni) (nc : Nat) (a : Option Addr) (l : List Int) (ca : Nat) (w : World) (hJ : JobsS w ja js) (hN : NightsS w na ns) (hA : IntsC w a l) (h0 : wideB js.length ns.length 30 30 = false) (h1 : ¬ 60 < l.length) (h2 : rtE js ns l = 0) (h3 : rtV js ns l = false) :
    Calls Try.prog 4 #[.agg #[.slice ja js.length jc, .slice na ns.length nc], .slice a l.length ca] w fun e w' => e = .returned (.bool true) ∧ Below w.heap.size w w' := by
  have HA := Lib.hid (fun W => awake_any W)
  have hjl := hJ.1
  have hal := hA.1
  have HW := Lib.hid (fun W => wide_v ja js.length jc na ns.length nc 30 30 W h0)
  have HR := Lib.hid (fun W (hW : Below w.heap.size w W) => refRight_r ja js jc na ns nc a l ca W (hJ.below hW) (hN.below hW) (hA.below hW))
  rw [h2, h3] at HR
  clear h0 h2 h3
  have g1 : decide ((60 : Int) < l.length) = false := decide_eq_false (by omega)
  obtain ⟨wB, hwB⟩ : ∃ wB, w.alloc (.cells #[.slice ja js.length jc, .slice na ns.length nc] 25) = wB := ⟨_, rfl⟩
  have hb : Below w.heap.size w wB := by rw [← hwB]; exact (Below.refl _ _).alloc (Nat.le_refl _) _
  have p0 : wB.cell? ⟨w.heap.size, 0, none⟩ = some (.slice ja js.length jc) := by rw [← hwB]; simp [go_sem]
  have p1 : wB.cell? ⟨w.heap.size, 1, none⟩ = some (.slice na ns.length nc) := by rw [← hwB]; simp [go_sem]
  clear hJ hN hA
  go_enter Try.func4, Try.ntmps4
  go_wp2_with fail
  refine (HW.out _).mono ?_
  rintro e w1 ⟨rfl, hbx⟩
  have p0 := cell_below p0 hbx
  have p1 := cell_below p1 hbx
  have hb := below_onN hb hbx hb.size
  clear hbx
  go_wp2_with fail
  refine (HR.out _ hb).mono ?_
  rintro e w2 ⟨rfl, hbx⟩
  have p0 := cell_below p0 hbx
  have p1 := cell_below p1 hbx
  have hb := below_onN hb hbx hb.size
  clear hbx
  go_wp2_with fail
  refine (HA.out _).mono ?_
  rintro e wz ⟨rfl, hbz⟩
  go_wp2_with fail
  go_ret
  exact ⟨rfl, below_onN hb hbz hb.size⟩
set_option maxRecDepth 100000 in
set_option maxHeartbeats 16000000 in
theorem nightTours_e (ja : Option Addr) (js : List Jo) (jc : Nat) (na : Option Addr) (ns : List Ni) (nc : Nat) (a : Option Addr) (l : List Int) (ca : Nat) (w : World) (hJ : JobsS w ja js) (hN : NightsS w na ns) (hA : IntsC w a l) (h0 : wideB js.length ns.length 30 30 = false) (h1 : ¬ 60 < l.length) (h2 : rtE js ns l = 0) (h3 : rtV js ns l = true) :
    Calls Try.prog 4 #[.agg #[.slice ja js.length jc, .slice na ns.length nc], .slice a l.length ca] w fun e w' => e = .returned (.bool true) ∧ Below w.heap.size w w' := by
  have HA := Lib.hid (fun W => awake_any W)
  have hjl := hJ.1
  have hal := hA.1
  have hnl := hN.1
  have hj30 : js.length ≤ 30 ∧ ns.length ≤ 30 := by
    unfold wideB at h0
    simp at h0
    omega
  obtain ⟨hj30, hn30⟩ := hj30
  have HW := Lib.hid (fun W => wide_v ja js.length jc na ns.length nc 30 30 W h0)
  have HR := Lib.hid (fun W (hW : Below w.heap.size w W) => refRight_r ja js jc na ns nc a l ca W (hJ.below hW) (hN.below hW) (hA.below hW))
  rw [h2, h3] at HR
  have hPE : plnE js ns l = 0 := by rw [plnE_eq, h2, h3, if_neg (by simp)]
  obtain ⟨k1, k2, k3⟩ := plnE_ok hPE
  obtain ⟨hll, hrg⟩ := plnB_iff.1 k2
  have HT := Lib.hid (fun (k : Nat) (hk : k < ns.length) W (hW : Below w.heap.size w W) => tour_3f ja js jc na ns nc a l ca (k : Int) W (hJ.below hW) (hN.below hW) (hA.below hW) hPE ⟨by omega, by omega⟩ (by omega))
  have HDn := Lib.hid (fun W (hW : Below w.heap.size w W) => nDone_r ja js jc na ns nc a l ca W (hJ.below hW) (hN.below hW) (hA.below hW))
  rw [show doV js ns l = (dnK l l.length : Nat) by unfold doV; rw [if_pos hPE], hPE] at HDn
  have HAll : Hid (cK (fun j => decide (0 ≤ gi l j ∧ gi l j < (ns.length : Int))) js.length = dnK l l.length) := Lib.hid (by rw [← hll]; exact tours_all hrg)
  have H0 : Hid (cK (fun j => decide (0 ≤ gi l j ∧ gi l j < ((0 : Nat) : Int))) js.length = 0) := Lib.hid (by
    have : ∀ n, cK (fun j => decide (0 ≤ gi l j ∧ gi l j < ((0 : Nat) : Int))) n = 0 := fun n => by
      induction n with
      | zero => rfl
      | succ n ih =>
        show cK _ n + _ = 0
        rw [ih, if_neg (by simp)]
    exact this _)
  have HLL := Lib.hid hll
  have HCb := Lib.hid (fun m (hm : m < js.length) => chain_b (errL_ok k1).1 hm)
  have g1 : decide ((60 : Int) < l.length) = false := decide_eq_false (by omega)
  have HJs := Lib.hid (fun W (hW : Below w.heap.size w W) => hJ.below hW)
  have HAs := Lib.hid (fun W (hW : Below w.heap.size w W) => hA.below hW)
  obtain ⟨jb, jo, HJa, HJc⟩ := jobs_cells hJ
  obtain ⟨hl64, pb, po, padr, pcell⟩ := hA
  have HPa : Hid (0 < l.length → a = some ⟨pb, po, none⟩) := Lib.hid fun h => padr (pos_ne (n := 0) h)
  have HPc := Lib.hid pcell
  clear h0 h2 h3 hPE k1 k2 k3 hll hrg padr pcell
  obtain ⟨wB, hwB⟩ : ∃ wB, w.alloc (.cells #[.slice ja js.length jc, .slice na ns.length nc] 25) = wB := ⟨_, rfl⟩
  have hb : Below w.heap.size w wB := by rw [← hwB]; exact (Below.refl _ _).alloc (Nat.le_refl _) _
  have p0 : wB.cell? ⟨w.heap.size, 0, none⟩ = some (.slice ja js.length jc) := by rw [← hwB]; simp [go_sem]
  have p1 : wB.cell? ⟨w.heap.size, 1, none⟩ = some (.slice na ns.length nc) := by rw [← hwB]; simp [go_sem]
  clear hJ hN
  go_enter Try.func4, Try.ntmps4
  go_wp2_with fail
  refine (HW.out _).mono ?_
  rintro e w1 ⟨rfl, hbx⟩
  have p0 := cell_below p0 hbx
  have p1 := cell_below p1 hbx
  have hb := below_onN hb hbx hb.size
  clear hbx
  go_wp2_with fail
  refine (HR.out _ hb).mono ?_
  rintro e w2 ⟨rfl, hbx⟩
  have p0 := cell_below p0 hbx
  have p1 := cell_below p1 hbx
  have hb := below_onN hb hbx hb.size
  clear hbx
  obtain ⟨i0, hi, hz0, hz1, hz2⟩ := info_parts infoBool
  have hzw := block_lt p0
  go_wp2_with (refine wpList_make_full _ rfl _ _ 41 rfl w.heap.size 4 i0 (.bool false) 1 Try.underlying41 hi hz0 hz1 _ _ (js.length : Int) (js.length : Int) js.length rfl rfl (by omega) (by omega) ?c1 ?c2 ?c3 ?_)
  case c1 => first | omega | (rw [hz2]; omega)
  case c2 => unfold maxLen; omega
  case c3 => first | (simp; done) | (have := hb.size; omega)
  intro w5 hown hgrow
  obtain ⟨hRB, hg1, hg2⟩ := RowB.made hown
  have hb5 : Below w2.heap.size w2 w5 := (Below.refl _ _).grown hgrow (Nat.le_refl _) (fun k h => by cases h)
  have p0 := cell_below p0 hb5
  have p1 := cell_below p1 hb5
  have hb := below_onN hb hb5 hb.size
  obtain ⟨g, hg⟩ : ∃ g, w2.heap.size = g := ⟨_, rfl⟩
  rw [hg] at hRB hg1 hg2 hzw
  rw [hg]
  clear hown hgrow hb5 hg
  have HRB := Lib.hid (hRB.congr (f' := fun j => decide (0 ≤ gi l j ∧ gi l j < ((0 : Nat) : Int))) (fun i hi => decide_eq_false (by omega)))
  have HP0 := Lib.hid p0
  have HP1 := Lib.hid p1
  have hzp := block_lt p0
  clear hRB
  go_wp2_with fail
  go_loopw [8, 9] (fun v i wr => ∃ k : Nat, k ≤ ns.length ∧ i = .int .i64 k ∧ v = .int .i64 (cK (fun j => decide (0 ≤ gi l j ∧ gi l j < (k : Int))) js.length : Nat) ∧ Below w.heap.size w wr ∧ Hid (RowB wr g js.length (fun j => decide (0 ≤ gi l j ∧ gi l j < (k : Int)))) ∧ wr.cell? ⟨w.heap.size, 0, none⟩ = some (.slice ja js.length jc) ∧ wr.cell? ⟨w.heap.size, 1, none⟩ = some (.slice na ns.length nc) ∧ g < wr.heap.size ∧ w.heap.size < g) (fun _ i _ => ns.length - (intOf i).toNat)
  case atStart => exact ⟨0, Nat.zero_le _, rfl, by rw [H0.out]; rfl, hb, HRB, p0, p1, hg2, by omega⟩
  case round =>
    clear hb p0 p1 hg1 hg2
    obtain ⟨k, hk, rfl, rfl, hb, HRB, p0, p1, hg2, hgw⟩ := hrel
    by_cases hlt : k < ns.length
    · have HTk := Lib.hid (fun W hW => HT.out k hlt W hW)
      clear HT H0 HAll HDn
      go_wp2_with fail
      refine (HTk.out _ hb).mono ?_
      rintro e w6 ⟨T, aT, cT, rfl, hI, hT, hbk, hbx⟩
      have p0 := cell_below p0 hbx
      have p1 := cell_below p1 hbx
      have HRB := Lib.hid (HRB.out.same (hbx.block g hg2))
      have hb := below_onN hb hbx hb.size
      obtain ⟨tlen, tb, tof, tadr, tcell⟩ := hI
      have HTa : Hid (0 < T.length → aT = some ⟨tb, tof, none⟩ ∧ tb ≠ g) := Lib.hid fun h => ⟨tadr (pos_ne (n := 0) h), fun e => by
        have := hbk _ (tadr (pos_ne (n := 0) h))
        simp only at this
        omega⟩
      have HTc := Lib.hid tcell
      have hTl := tlen
      clear tadr tcell tlen hbk
      have hg2 := Nat.lt_of_lt_of_le hg2 hbx.size
      have HCk : Hid (cK (fun j => decide (0 ≤ gi l j ∧ gi l j < (k : Int))) js.length = cK (fI l k T 0) js.length) := Lib.hid (cK_congr _ fun j _ => by unfold fI; rw [show anyK (fun q => gi T q == (j : Int)) 0 = false from rfl, Bool.or_false])
      have HRB0 := Lib.hid (HRB.out.congr (f' := fI l k T 0) fun j _ => by unfold fI; rw [show anyK (fun q => gi T q == (j : Int)) 0 = false from rfl, Bool.or_false])
      have HCe : Hid (cK (fI l k T T.length) js.length = cK (fun j => decide (0 ≤ gi l j ∧ gi l j < ((k + 1 : Nat) : Int))) js.length) := Lib.hid (cK_congr _ fun j hj => (fI_end hT j (by rw [HLL.out]; exact hj)).symm)
      have HRe : Hid (∀ W, RowB W g js.length (fI l k T T.length) → RowB W g js.length (fun j => decide (0 ≤ gi l j ∧ gi l j < ((k + 1 : Nat) : Int)))) := Lib.hid fun W h => h.congr fun j hj => fI_end hT j (by rw [HLL.out]; exact hj)
      have HSt : Hid (∀ i m : Nat, i < T.length → gi T i = m → (∀ j, fI l k T (i + 1) j = if j = m then true else fI l k T i j) ∧ fI l k T i m = false) := Lib.hid fun i m h1 h2 => fI_step hT h1 h2
      have HIn : Hid (∀ i, i < T.length → ∃ m : Nat, gi T i = m ∧ m < l.length ∧ gi l m = k) := Lib.hid fun i hi => tour_in hT hi
      have HNe : Hid (∀ p q, p < q → q < T.length → chJ js (gi T p) ≤ chJ js (gi T q)) := Lib.hid fun p q h1 h2 => by
        have := tour_ne hT h1 h2
        unfold ltK at this
        omega
      have HFa : Hid (farL js T = if T = [] then 0 else chJ js (gi T (T.length - 1)) - chJ js (gi T 0)) := Lib.hid rfl
      rw [HCk.out]
      clear hbx hT HRB HCk HTk
      generalize fI l k T = F at *
      generalize farL js T = far at *
      have dg0 : (decide ((T.length : Int) = 0) && decide (far ≠ 0)) = false ∨ True := .inr trivial
      have hfz : T.length = 0 → far = 0 := fun h => by rw [HFa.out, if_pos (List.eq_nil_of_length_eq_zero h)]
      have HFz := Lib.hid hfz
      clear hfz dg0
      rcases Nat.eq_zero_or_pos T.length with hT0 | hT0
      · have e1 : far = 0 := HFz.out hT0
        subst e1
        have e2 : ((T.length : Int) == 0) = true := by simp; exact List.eq_nil_of_length_eq_zero hT0
        have e3 : decide ((0 : Int) < (T.length : Int)) = false := decide_eq_false (by omega)
        have hni : ¬ ((0 : Int) < (T.length : Int)) := by omega
        have HT0e := Lib.hid hT0
        have HRB1 := Lib.hid (HRe.out w6 (by rw [HT0e.out]; exact HRB0.out))
        have HCe0 : Hid (cK (F 0) js.length = cK (fun j => decide (0 ≤ gi l j ∧ gi l j < ((k + 1 : Nat) : Int))) js.length) := Lib.hid (by rw [← HCe.out, HT0e.out])
        clear HSt HIn HNe HFa HFz HRe HRB0 HCe HTa HTc
        go_wp2_with fail
        refine wp_loop_rounds 1 ?_
        rw [rounds_succ]
        go_wp2_with fail
        go_quiet (fail)
        go_wp2_with fail
        go_roundw
        case rel => exact ⟨k + 1, by omega, by go_num, by rw [HCe0.out], below_drewN hb _, HRB1, p0, p1, hg2, hgw⟩
        case measure => simp [intOf]; omega
      · have e2 : ((T.length : Int) == 0) = false := beq_false_of_ne (by omega)
        go_wp2_with fail
        go_loopw [8, 13] (fun v i wr => ∃ i' : Nat, i' ≤ T.length ∧ i = .int .i64 i' ∧ v = .int .i64 (cK (F i') js.length : Nat) ∧ Two g g w6 wr ∧ Hid (RowB wr g js.length (F i'))) (fun _ i _ => T.length - (intOf i).toNat)
        case atStart => exact ⟨0, Nat.zero_le _, rfl, rfl, Two.refl _ _ _, HRB0⟩
        case round =>
          obtain ⟨i, hi, rfl, rfl, hTw, HRB⟩ := hrel
          have hbw : Below w.heap.size w wr := hb.trans (hTw.below (by omega) (by omega) hb.size)
          have p0 := hTw.cell p0 (by omega) (by omega)
          have p1 := hTw.cell p1 (by omega) (by omega)
          have hg3 : g < wr.heap.size := Nat.lt_of_lt_of_le hg2 hTw.size
          obtain ⟨rfl, htb⟩ := HTa.out hT0
          by_cases hlt2 : i < T.length
          · obtain ⟨m, em, hm1, hm2⟩ := HIn.out i hlt2
            have hmj : m < js.length := by have := HLL.out; omega
            obtain ⟨s1, s2⟩ := HSt.out i m hlt2 em
            have c0 := hTw.cell (HTc.out i hlt2) htb htb
            rw [em] at c0
            have v0 := HRB.out.1 m hmj
            rw [s2] at v0
            have f0 := HRB.out.2 m hmj
            obtain rfl := HPa.out (by omega)
            have e0 := cell_below (HPc.out m hm1) hbw
            rw [hm2] at e0
            have HRs : ∀ n, Hid (RowB ((wr.drewN n).setCell ⟨g, m, none⟩ (.bool true)) g js.length (F (i + 1))) := fun n => Lib.hid (RowB.store (w := wr.drewN n) (f := F i) HRB.out hmj (fun j _ => s1 j))
            have hCt : Hid (((cK (F (i + 1)) js.length : Nat) : Int) = (cK (F i) js.length : Nat) + 1) := Lib.hid (by rw [cK_setT js.length (fun j _ => s1 j) (fun _ => s2), if_pos hmj]; rfl)
            have hcb : cK (F i) js.length ≤ 30 := by have := cK_not (F i) js.length; omega
            have d1 : decide ((m : Int) < 0) = false := decide_eq_false (by omega)
            have d2 : decide (js.length ≤ m) = false := decide_eq_false (by omega)
            have d2' : decide ((js.length : Int) ≤ m) = false := decide_eq_false (by omega)
            have d3 : ((k : Int) != (k : Int)) = false := by simp
            have hbs : ∀ n, Two g g w6 ((wr.drewN n).setCell ⟨g, m, none⟩ (.bool true)) := fun n => (hTw.drewN n).trans (Two.set _ _ _)
            by_cases hi0 : 0 < i
            · have d4 : decide ((0 : Int) < i) = true := decide_eq_true (by omega)
              obtain ⟨u, hu⟩ : ∃ u : Nat, (i : Int) - 1 = u := ⟨i - 1, by omega⟩
              obtain ⟨m', em', hm1', hm2'⟩ := HIn.out u (by omega)
              have hmj' : m' < js.length := by have := HLL.out; omega
              have c1 := hTw.cell (HTc.out u (by omega)) htb htb
              rw [em'] at c1
              obtain rfl := HJa.out (by omega)
              have j0 := cell_below (HJc.out m hmj).2.2.1 hbw
              have j1 := cell_below (HJc.out m' hmj').2.2.1 hbw
              have hle := HNe.out u i (by omega) hlt2
              rw [em, em'] at hle
              have d5 : decide ((gj js m).c < (gj js m').c) = false := decide_eq_false (by
                have e1 : chJ js (m : Int) = (gj js m).c := by unfold chJ; rw [Int.toNat_natCast]
                have e2 : chJ js (m' : Int) = (gj js m').c := by unfold chJ; rw [Int.toNat_natCast]
                rw [e1, e2] at hle; omega)
              have l1 : u < T.length := by omega
              clear HSt HIn HNe HFa HFz HRe HRB HCe HTa HTc HRB0 HCb HJs HAs HPa HPc HJa HJc hle s1 s2 em em' hm2 hm2' HA HR HW
              generalize cK (F i) js.length = cc at *
              generalize (gj js m).c = y1 at *
              generalize (gj js m').c = y0 at *
              go_wp2_with fail
              go_quiet (fail)
              go_wp2_with fail
              go_roundw
              case rel => exact ⟨i + 1, by omega, by go_num, by rw [hCt.out], hbs _, HRs _⟩
              case measure => simp [intOf]; omega
            · have hi1 : i = 0 := by omega
              have d4 : decide ((0 : Int) < i) = false := decide_eq_false (by omega)
              clear HSt HIn HNe HFa HFz HRe HRB HCe HTa HTc HRB0 HCb HJs HAs HPa HPc HJa HJc s1 s2 em hm2 HA HR HW hi1
              generalize cK (F i) js.length = cc at *
              go_wp2_with fail
              go_quiet (fail)
              go_wp2_with fail
              go_roundw
              case rel => exact ⟨i + 1, by omega, by go_num, by rw [hCt.out], hbs _, HRs _⟩
              case measure => simp [intOf]; omega
          · obtain rfl : i = T.length := by omega
            obtain ⟨m1, em1, f1, _⟩ := HIn.out (T.length - 1) (by omega)
            obtain ⟨m0, em0, f0, _⟩ := HIn.out 0 (by omega)
            obtain ⟨u, hu⟩ : ∃ u : Nat, (T.length : Int) - 1 = u := ⟨T.length - 1, by omega⟩
            have c1 := hTw.cell (HTc.out u (by omega)) htb htb
            rw [show u = T.length - 1 by omega, em1, show T.length - 1 = u by omega] at c1
            have c0 := hTw.cell (HTc.out 0 (by omega)) htb htb
            rw [em0, Nat.add_zero] at c0
            have hm1j : m1 < js.length := by have := HLL.out; omega
            have hm0j : m0 < js.length := by have := HLL.out; omega
            obtain rfl := HJa.out (by omega)
            have j1 := cell_below (HJc.out m1 hm1j).2.2.1 hbw
            have j0 := cell_below (HJc.out m0 hm0j).2.2.1 hbw
            obtain ⟨b10, b11⟩ := HCb.out m1 hm1j
            obtain ⟨b00, b01⟩ := HCb.out m0 hm0j
            have hfar : far = (gj js m1).c - (gj js m0).c := by
              rw [HFa.out, if_neg (by intro h; rw [h] at hT0; simp at hT0), em1, em0]
              unfold chJ
              rw [Int.toNat_natCast, Int.toNat_natCast]
            have d4 : decide (0 < T.length) = true := decide_eq_true hT0
            have d4' : decide ((0 : Int) < T.length) = true := decide_eq_true (by omega)
            have l1 : u < T.length := by omega
            have hwu : IntKind.i64.wrap ((T.length : Int) - 1) = u := by rw [hu]; exact IntWalk.i64_in _ (by omega)
            have hwu2 : IntKind.i64.wrap (u : Int) = u := IntWalk.i64_in _ (by omega)
            have hu0 : (0 : Int) ≤ u := by omega
            have hwy : IntKind.i64.wrap ((gj js m1).c - (gj js m0).c) = (gj js m1).c - (gj js m0).c := IntWalk.i64_in _ (by omega)
            have HRf := Lib.hid (HRe.out wr HRB.out)
            have hCe := Lib.hid HCe.out
            clear HSt HIn HNe HFa HFz HRe HRB HCe HTa HTc HRB0 HCb HJs HAs HPa HPc HJa HJc em1 em0 HA HR HW
            generalize cK (F T.length) js.length = cc at *
            generalize (gj js m1).c = y1 at *
            generalize (gj js m0).c = y0 at *
            have d5 : (far != y1 - y0) = false := by rw [hfar]; simp
            have d5' : ((y1 - y0) != (y1 - y0)) = false := by simp
            subst hfar
            go_wp2_with fail
            go_quiet (fail)
            go_wp2_with fail
            go_roundw
            case rel => exact ⟨k + 1, by omega, by go_num, by rw [hCe.out], below_drewN hbw _, HRf, p0, p1, hg3, hgw⟩
            case measure => simp [intOf]; omega
    · obtain rfl : k = ns.length := by omega
      have HDx := Lib.hid (HDn.out wr hb)
      rw [HAll.out]
      clear HT H0 HAll HDn HRB HCb HJs HAs HPa HPc HJa HJc HR HW HLL
      generalize dnK l l.length = D at *
      go_wp2_with fail
      refine HDx.out.mono ?_
      rintro e w7 ⟨rfl, hbx⟩
      have hb := below_onN hb hbx hb.size
      clear hbx
      go_wp2_with fail
      refine (HA.out _).mono ?_
      rintro e wz ⟨rfl, hbz⟩
      go_wp2_with fail
      go_ret
      exact ⟨rfl, below_onN hb hbz hb.size⟩
theorem nightTours_any (ja : Option Addr) (js : List Jo) (jc : Nat) (na : Option Addr) (ns : List Ni) (nc : Nat) (a : Option Addr) (l : List Int) (ca : Nat) (w : World) (hJ : JobsS w ja js) (hN : NightsS w na ns) (hA : IntsC w a l) :
    Calls Try.prog 4 #[.agg #[.slice ja js.length jc, .slice na ns.length nc], .slice a l.length ca] w fun e w' => e = .returned (.bool true) ∧ Below w.heap.size w w' := by
  cases h0 : wideB js.length ns.length 30 30 with
  | true => exact nightTours_a ja js jc na ns nc a l ca w hJ hN hA h0
  | false =>
    by_cases h1 : 60 < l.length
    · exact nightTours_b ja js jc na ns nc a l ca w hJ hN hA h0 h1
    · by_cases h2 : rtE js ns l = 0
      · cases h3 : rtV js ns l with
        | false => exact nightTours_d ja js jc na ns nc a l ca w hJ hN hA h0 h1 h2 h3
        | true => exact nightTours_e ja js jc na ns nc a l ca w hJ hN hA h0 h1 h2 h3
      · exact nightTours_c ja js jc na ns nc a l ca w hJ hN hA h0 h1 h2
end Go.Proofs.Ytghlhjiomebmhaa

namespace Go.Proofs.Ytghlhjiomebmhaa
set_option linter.unusedVariables false
set_option linter.unusedSimpArgs false
open Go.RowKit Go.ChangeShapes Go.WideShapes Go.ChangeAt
set_option maxRecDepth 100000

theorem choose_ltN {α : Type} {n : Nat} (d : α) {p : Nat → α → Prop} (h : ∀ i, i < n → ∃ x, p i x) : ∃ f : Nat → α, ∀ i, i < n → p i (f i) := by
  classical
  exact ⟨fun i => if hi : i < n then (h i hi).choose else d, fun i hi => by simp only [hi, dif_pos]; exact (h i hi).choose_spec⟩
theorem trod_struct8 {H : Type} {enc : TypeId × Value → H} {P : Program} {w : World} {base : Nat} {spare : Nat → Bool} {held : Bool} {t : TypeId} {f0 f1 f2 f3 f4 f5 f6 f7 : Field} {fuel : Nat} {cs : List Value} {x : DataW H × List MemPlace} (ht : P.underlying t = some (.struct #[f0, f1, f2, f3, f4, f5, f6, f7])) (h : DataW.trod enc P w base spare held fuel t cs = some x) :
    ∃ y0 y1 y2 y3 y4 y5 y6 y7 n, DataW.trod enc P w base spare held n f0.type ((cs.drop f0.offset).take (P.cellsOf f0.type)) = some y0 ∧ DataW.trod enc P w base spare held n f1.type ((cs.drop f1.offset).take (P.cellsOf f1.type)) = some y1 ∧
      DataW.trod enc P w base spare held n f2.type ((cs.drop f2.offset).take (P.cellsOf f2.type)) = some y2 ∧ DataW.trod enc P w base spare held n f3.type ((cs.drop f3.offset).take (P.cellsOf f3.type)) = some y3 ∧
      DataW.trod enc P w base spare held n f4.type ((cs.drop f4.offset).take (P.cellsOf f4.type)) = some y4 ∧ DataW.trod enc P w base spare held n f5.type ((cs.drop f5.offset).take (P.cellsOf f5.type)) = some y5 ∧
      DataW.trod enc P w base spare held n f6.type ((cs.drop f6.offset).take (P.cellsOf f6.type)) = some y6 ∧ DataW.trod enc P w base spare held n f7.type ((cs.drop f7.offset).take (P.cellsOf f7.type)) = some y7 := by
  obtain ⟨xs, n, _, rfl, hl, hlen, hf⟩ := DataW.trod_struct ht h
  match xs, hlen with
  | [y0, y1, y2, y3, y4, y5, y6, y7], _ => exact ⟨y0, y1, y2, y3, y4, y5, y6, y7, n, by simpa using hf 0 f0 rfl, by simpa using hf 1 f1 rfl, by simpa using hf 2 f2 rfl, by simpa using hf 3 f3 rfl, by simpa using hf 4 f4 rfl, by simpa using hf 5 f5 rfl, by simpa using hf 6 f6 rfl, by simpa using hf 7 f7 rfl⟩
section
variable {H : Type} {enc : TypeId × Value → H} {W : World} {base : Nat} {sp : Nat → Bool} {held : Bool}
theorem gj_map (f : Nat → Jo) {n i : Nat} (h : i < n) : gj ((List.range n).map f) i = f i := by
  unfold gj; rw [List.getD_eq_getElem?_getD, List.getElem?_map, List.getElem?_range h]; rfl
theorem open_jobs {fuel : Nat} {v : Value} {y : DataW H × List MemPlace} (h : DataW.trod enc Try.prog W base sp held fuel 22 [v] = some y) :
    ∃ (a : Option Addr) (l : List Jo) (cap : Nat), v = .slice a l.length cap ∧ JobsS W a l := by
  have hC : Try.prog.cellsOf 43 = 8 := by kernel_rfl
  rcases Go.Deep.open_slice Try.underlying22 h with ⟨hcs, _⟩ | ⟨a, len, cap, m, n, D, Pl, hcs, hb, hl, hm, hmm, hx, hi⟩
  · obtain rfl : v = .slice none 0 0 := by simpa using hcs
    exact ⟨none, [], 0, rfl, ⟨by simp, 0, 0, (fun h => absurd rfl h), fun i hi => absurd hi (Nat.not_lt_zero _)⟩⟩
  · obtain rfl : v = .slice (some a) len cap := by simpa using hcs
    have hlm : len ≤ m := by rw [hmm]; split <;> omega
    rw [hC] at hi
    have key0 : ∀ i, i < len → ∃ x : Jo, W.cell? ((a.add (i * 8)).add 0) = some (.int .i64 x.n) ∧ W.cell? ((a.add (i * 8)).add 1) = some (.int .i64 x.r) ∧ W.cell? ((a.add (i * 8)).add 2) = some (.int .i64 x.c) ∧ W.cell? ((a.add (i * 8)).add 3) = some (.int .i64 x.f) ∧ W.cell? ((a.add (i * 8)).add 4) = some (.int .i64 x.l) ∧ W.cell? ((a.add (i * 8)).add 5) = some (.int .i64 x.w) ∧ W.cell? ((a.add (i * 8)).add 6) = some (.bool x.dy) ∧ W.cell? ((a.add (i * 8)).add 7) = some (.bool x.wm) := fun i hil => by
      obtain ⟨cs, hc, htr⟩ := hi i (by omega)
      obtain ⟨hcl, _, hat⟩ := World.cells?_some hc
      match cs, hcl with
      | [c0, c1, c2, c3, c4, c5, c6, c7], _ =>
        obtain ⟨y0, y1, y2, y3, y4, y5, y6, y7, n', g0, g1, g2, g3, g4, g5, g6, g7⟩ := trod_struct8 Try.underlying43 htr
        obtain ⟨z0, rfl, b0⟩ := part_int rfl (show DataW.trod enc Try.prog W base sp held n' 3 [c0] = some y0 from g0)
        obtain ⟨z1, rfl, b1⟩ := part_int rfl (show DataW.trod enc Try.prog W base sp held n' 3 [c1] = some y1 from g1)
        obtain ⟨z2, rfl, b2⟩ := part_int rfl (show DataW.trod enc Try.prog W base sp held n' 3 [c2] = some y2 from g2)
        obtain ⟨z3, rfl, b3⟩ := part_int rfl (show DataW.trod enc Try.prog W base sp held n' 3 [c3] = some y3 from g3)
        obtain ⟨z4, rfl, b4⟩ := part_int rfl (show DataW.trod enc Try.prog W base sp held n' 3 [c4] = some y4 from g4)
        obtain ⟨z5, rfl, b5⟩ := part_int rfl (show DataW.trod enc Try.prog W base sp held n' 3 [c5] = some y5 from g5)
        obtain ⟨z6, e6, _⟩ := DataW.trod_bool Try.underlying4 (show DataW.trod enc Try.prog W base sp held n' 4 [c6] = some y6 from g6)
        obtain rfl : c6 = .bool z6 := by simpa using e6
        obtain ⟨z7, e7, _⟩ := DataW.trod_bool Try.underlying4 (show DataW.trod enc Try.prog W base sp held n' 4 [c7] = some y7 from g7)
        obtain rfl : c7 = .bool z7 := by simpa using e7
        exact ⟨⟨z0, z1, z2, z3, z4, z5, z6, z7⟩, hat 0 (by decide), hat 1 (by decide), hat 2 (by decide), hat 3 (by decide), hat 4 (by decide), hat 5 (by decide), hat 6 (by decide), hat 7 (by decide)⟩
    have hspot : 0 < len → a.spot = none := fun h0 => by
      obtain ⟨x, hc, _⟩ := key0 0 h0
      rw [show 0 * 8 = 0 from rfl, add_zero, add_zero] at hc
      exact spot_none hc
    obtain ⟨f, hf⟩ := choose_ltN (α := Jo) (n := len) ⟨0, 0, 0, 0, 0, 0, false, false⟩ (p := fun i x => W.cell? ((a.add (i * 8)).add 0) = some (.int .i64 x.n) ∧ W.cell? ((a.add (i * 8)).add 1) = some (.int .i64 x.r) ∧ W.cell? ((a.add (i * 8)).add 2) = some (.int .i64 x.c) ∧ W.cell? ((a.add (i * 8)).add 3) = some (.int .i64 x.f) ∧ W.cell? ((a.add (i * 8)).add 4) = some (.int .i64 x.l) ∧ W.cell? ((a.add (i * 8)).add 5) = some (.int .i64 x.w) ∧ W.cell? ((a.add (i * 8)).add 6) = some (.bool x.dy) ∧ W.cell? ((a.add (i * 8)).add 7) = some (.bool x.wm)) key0
    refine ⟨some a, (List.range len).map f, cap, by simp, ⟨by simp; unfold maxLen at hm; omega, a.block, a.off, ?_, ?_⟩⟩
    · intro hne
      have hp : 0 < len := by
        have := List.length_pos_iff.2 hne
        simpa using this
      rw [← addr_of (hspot hp)]
    · intro i hi
      have hi : i < len := by simpa using hi
      have hs := hspot (by omega)
      have := hf i hi
      rw [add_at hs, add_zero, add_at rfl, add_at rfl, add_at rfl, add_at rfl, add_at rfl, add_at rfl, add_at rfl] at this
      rw [gj_map f hi]
      exact this
theorem gn_map (f : Nat → Ni) {n i : Nat} (h : i < n) : gn ((List.range n).map f) i = f i := by
  unfold gn; rw [List.getD_eq_getElem?_getD, List.getElem?_map, List.getElem?_range h]; rfl
theorem open_nights {fuel : Nat} {v : Value} {y : DataW H × List MemPlace} (h : DataW.trod enc Try.prog W base sp held fuel 23 [v] = some y) :
    ∃ (a : Option Addr) (l : List Ni) (cap : Nat), v = .slice a l.length cap ∧ NightsS W a l := by
  have hC : Try.prog.cellsOf 51 = 8 := by kernel_rfl
  rcases Go.Deep.open_slice Try.underlying23 h with ⟨hcs, _⟩ | ⟨a, len, cap, m, n, D, Pl, hcs, hb, hl, hm, hmm, hx, hi⟩
  · obtain rfl : v = .slice none 0 0 := by simpa using hcs
    exact ⟨none, [], 0, rfl, ⟨by simp, 0, 0, (fun h => absurd rfl h), fun i hi => absurd hi (Nat.not_lt_zero _)⟩⟩
  · obtain rfl : v = .slice (some a) len cap := by simpa using hcs
    have hlm : len ≤ m := by rw [hmm]; split <;> omega
    rw [hC] at hi
    have key0 : ∀ i, i < len → ∃ x : Ni, W.cell? ((a.add (i * 8)).add 0) = some (.int .i64 x.d) ∧ W.cell? ((a.add (i * 8)).add 1) = some (.int .i64 x.r) ∧ W.cell? ((a.add (i * 8)).add 2) = some (.int .i64 x.f) ∧ W.cell? ((a.add (i * 8)).add 3) = some (.int .i64 x.t) ∧ W.cell? ((a.add (i * 8)).add 4) = some (.int .i64 x.w) ∧ W.cell? ((a.add (i * 8)).add 5) = some (.int .i64 x.p) ∧ W.cell? ((a.add (i * 8)).add 6) = some (.bool x.rn) ∧ W.cell? ((a.add (i * 8)).add 7) = some (.bool x.fr) := fun i hil => by
      obtain ⟨cs, hc, htr⟩ := hi i (by omega)
      obtain ⟨hcl, _, hat⟩ := World.cells?_some hc
      match cs, hcl with
      | [c0, c1, c2, c3, c4, c5, c6, c7], _ =>
        obtain ⟨y0, y1, y2, y3, y4, y5, y6, y7, n', g0, g1, g2, g3, g4, g5, g6, g7⟩ := trod_struct8 Try.underlying51 htr
        obtain ⟨z0, rfl, b0⟩ := part_int rfl (show DataW.trod enc Try.prog W base sp held n' 3 [c0] = some y0 from g0)
        obtain ⟨z1, rfl, b1⟩ := part_int rfl (show DataW.trod enc Try.prog W base sp held n' 3 [c1] = some y1 from g1)
        obtain ⟨z2, rfl, b2⟩ := part_int rfl (show DataW.trod enc Try.prog W base sp held n' 3 [c2] = some y2 from g2)
        obtain ⟨z3, rfl, b3⟩ := part_int rfl (show DataW.trod enc Try.prog W base sp held n' 3 [c3] = some y3 from g3)
        obtain ⟨z4, rfl, b4⟩ := part_int rfl (show DataW.trod enc Try.prog W base sp held n' 3 [c4] = some y4 from g4)
        obtain ⟨z5, rfl, b5⟩ := part_int rfl (show DataW.trod enc Try.prog W base sp held n' 3 [c5] = some y5 from g5)
        obtain ⟨z6, e6, _⟩ := DataW.trod_bool Try.underlying4 (show DataW.trod enc Try.prog W base sp held n' 4 [c6] = some y6 from g6)
        obtain rfl : c6 = .bool z6 := by simpa using e6
        obtain ⟨z7, e7, _⟩ := DataW.trod_bool Try.underlying4 (show DataW.trod enc Try.prog W base sp held n' 4 [c7] = some y7 from g7)
        obtain rfl : c7 = .bool z7 := by simpa using e7
        exact ⟨⟨z0, z1, z2, z3, z4, z5, z6, z7⟩, hat 0 (by decide), hat 1 (by decide), hat 2 (by decide), hat 3 (by decide), hat 4 (by decide), hat 5 (by decide), hat 6 (by decide), hat 7 (by decide)⟩
    have hspot : 0 < len → a.spot = none := fun h0 => by
      obtain ⟨x, hc, _⟩ := key0 0 h0
      rw [show 0 * 8 = 0 from rfl, add_zero, add_zero] at hc
      exact spot_none hc
    obtain ⟨f, hf⟩ := choose_ltN (α := Ni) (n := len) ⟨0, 0, 0, 0, 0, 0, false, false⟩ (p := fun i x => W.cell? ((a.add (i * 8)).add 0) = some (.int .i64 x.d) ∧ W.cell? ((a.add (i * 8)).add 1) = some (.int .i64 x.r) ∧ W.cell? ((a.add (i * 8)).add 2) = some (.int .i64 x.f) ∧ W.cell? ((a.add (i * 8)).add 3) = some (.int .i64 x.t) ∧ W.cell? ((a.add (i * 8)).add 4) = some (.int .i64 x.w) ∧ W.cell? ((a.add (i * 8)).add 5) = some (.int .i64 x.p) ∧ W.cell? ((a.add (i * 8)).add 6) = some (.bool x.rn) ∧ W.cell? ((a.add (i * 8)).add 7) = some (.bool x.fr)) key0
    refine ⟨some a, (List.range len).map f, cap, by simp, ⟨by simp; unfold maxLen at hm; omega, a.block, a.off, ?_, ?_⟩⟩
    · intro hne
      have hp : 0 < len := by
        have := List.length_pos_iff.2 hne
        simpa using this
      rw [← addr_of (hspot hp)]
    · intro i hi
      have hi : i < len := by simpa using hi
      have hs := hspot (by omega)
      have := hf i hi
      rw [add_at hs, add_zero, add_at rfl, add_at rfl, add_at rfl, add_at rfl, add_at rfl, add_at rfl, add_at rfl] at this
      rw [gn_map f hi]
      exact this
theorem open_season {v : Value} {d : DataW H} {p : List MemPlace} (hv : Value.okWide Try.prog W .any base 25 v) (h : DataW.Trod enc Try.prog W 0 sp held 25 v d p) :
    ∃ (ja : Option Addr) (js : List Jo) (jc : Nat) (na : Option Addr) (ns : List Ni) (nc : Nat), v = .agg #[.slice ja js.length jc, .slice na ns.length nc] ∧ JobsS W ja js ∧ NightsS W na ns := by
  obtain ⟨v0, v1, y0, y1, n, rfl, _, _, h0, h1⟩ := Joins.open_agg2 Try.underlying25 (by kernel_rfl) (by kernel_rfl) hv h
  obtain ⟨ja, js, jc, rfl, hJ⟩ := open_jobs (show DataW.trod enc Try.prog W 0 sp held n 22 [v0] = some y0 from h0)
  obtain ⟨na, ns, nc, rfl, hN⟩ := open_nights (show DataW.trod enc Try.prog W 0 sp held n 23 [v1] = some y1 from h1)
  exact ⟨ja, js, jc, na, ns, nc, rfl, hJ, hN⟩
end
end Go.Proofs.Ytghlhjiomebmhaa
