/-
  The reference's Holding. By an AI agent.; The reference's Holding. By an AI agent.; isMetre, Holds and Must of both. By an AI agent.; Holds and Must of both, whole. By an AI agent.
-/
import Derived.Test.YtlpdjinhkmgbgaaGreatDoorMgRuleCW6
import Derived.Deep.RegionHeld3
import Derived.BigQuiet
import Derived.BigRegion
import Derived.Deep.DeepCutAuto

namespace Go.Proofs.YtlpdjinhkmgbgaaGreatDoor
set_option linter.unusedVariables false
set_option linter.unusedSimpArgs false
open Go.RowKit

/-- The value of a start of a topic, or 0. -/
def strR (k v t : Int) : Int := if t = 1 ∧ k = 1 then v else if t = 2 ∧ k = 3 then 1 else 0
theorem strR_top {k v t : Int} (ht : t = 1 ∨ t = 2) (hv : k = 1 → 0 < v) : (0 < strR k v t ↔ topK k = t) ∧ (topK k = t → strR k v t = strK k v) := by
  unfold strR topK strK
  rcases ht with rfl | rfl
  · by_cases h1 : k = 1
    · subst h1; have := hv rfl; simp; omega
    · by_cases h3 : k = 3
      · subst h3; simp
      · simp [h1, h3]
  · by_cases h1 : k = 1
    · subst h1; simp
    · by_cases h3 : k = 3
      · subst h3; simp
      · simp [h1, h3]
/-- Is a sign of account at a distance? -/
def relB (L dir t k : Int) (R : List Sgn) (i : Nat) : Bool := decide (dstK L dir (gs R i).c ≤ k) && (decide (0 < strR (gs R i).k (gs R i).v t) || endB (gs R i).k t)
/-- The last of n for which p holds, or -1. -/
def lstX (p : Nat → Bool) : Nat → Int
  | 0 => -1
  | i + 1 => if p i = true then (i : Int) else lstX p i
theorem lstX_cases (p : Nat → Bool) : ∀ n, (lstX p n = -1 ∧ ∀ j, j < n → p j = false) ∨ ∃ x : Nat, x < n ∧ lstX p n = x ∧ p x = true ∧ ∀ j, x < j → j < n → p j = false
  | 0 => .inl ⟨rfl, fun j hj => absurd hj (Nat.not_lt_zero j)⟩
  | n + 1 => by
    rw [lstX]
    by_cases h : p n = true
    · rw [if_pos h]
      exact .inr ⟨n, by omega, rfl, h, fun j h1 h2 => by omega⟩
    · rw [if_neg h]
      have h' : p n = false := by simpa using h
      rcases lstX_cases p n with ⟨h1, h2⟩ | ⟨x, h1, h2, h3, h4⟩
      · exact .inl ⟨h1, fun j hj => by
          by_cases e : j = n
          · rw [e]; exact h'
          · exact h2 j (by omega)⟩
      · exact .inr ⟨x, by omega, h2, h3, fun j hj1 hj2 => by
          by_cases e : j = n
          · rw [e]; exact h'
          · exact h4 j hj1 (by omega)⟩
/-- Is the sign behind number i its plate? -/
def plB (R : List Sgn) (i : Nat) : Bool := decide (i + 1 < R.length) && (((gs R (i + 1)).k == 7) && ((gs R (i + 1)).c == (gs R i).c))
theorem dst_eq (L dir a b : Int) : (dstK L dir a == dstK L dir b) = (a == b) := by
  unfold dstK
  rw [Bool.eq_iff_iff, beq_iff_eq, beq_iff_eq]
  split <;> omega
theorem plt_plB (L dir k : Int) (R : List Sgn) (i : Nat) (hi : i < R.length) : pltB L dir k (gs R i) (R[i + 1]?) = (plB R i && decide ((gs R (i + 1)).v ≤ k - dstK L dir (gs R i).c)) := by
  unfold plB
  by_cases h : i + 1 < R.length
  · rw [List.getElem?_eq_getElem h, ← gs_at R h, decide_eq_true h, Bool.true_and]
    show ((gs R (i + 1)).k == 7 && (dstK L dir (gs R (i + 1)).c == dstK L dir (gs R i).c && decide (dstK L dir (gs R i).c + (gs R (i + 1)).v ≤ k))) = _
    rw [dst_eq, Bool.and_assoc]
    have : decide (dstK L dir (gs R i).c + (gs R (i + 1)).v ≤ k) = decide ((gs R (i + 1)).v ≤ k - dstK L dir (gs R i).c) := by
      rw [Bool.eq_iff_iff, decide_eq_true_eq, decide_eq_true_eq]; omega
    rw [this]
  · rw [List.getElem?_eq_none (by omega), decide_eq_false h]
    rfl
theorem rel_acc {L dir t k : Int} {R : List Sgn} {i : Nat} (ht : t = 1 ∨ t = 2) (hv : (gs R i).k = 1 → 0 < (gs R i).v) (hd : dstK L dir (gs R i).c ≤ k) : relB L dir t k R i = true ↔ (endB (gs R i).k t = true ∨ topK (gs R i).k = t) := by
  unfold relB
  rw [decide_eq_true hd, Bool.true_and, Bool.or_eq_true, decide_eq_true_eq, (strR_top ht hv).1]
  exact Or.comm
/-- No sign is of account. -/
theorem hold_none {L dir t k : Int} {js : List Int} {R : List Sgn} (ht : t = 1 ∨ t = 2) (hv : ∀ i, i < R.length → (gs R i).k = 1 → 0 < (gs R i).v) (h : ∀ j, j < R.length → relB L dir t k R j = false) (v : Int) : hS L js dir t k R v = v := by
  refine hS_none R v fun s hs hd => ?_
  obtain ⟨i, hi, e⟩ := List.getElem_of_mem hs
  have hi2 := gs_at R hi
  rw [e] at hi2
  subst hi2
  have h1 := h i hi
  have h2 := rel_acc ht (hv i hi) hd
  rw [h1] at h2
  constructor
  · cases h3 : endB (gs R i).k t with
    | false => rfl
    | true => exact absurd (h2.2 (.inl h3)) (by simp)
  · intro h3
    exact absurd (h2.2 (.inr h3)) (by simp)
/-- The last sign of account. -/
theorem hold_last {L dir t k : Int} {js : List Int} {R : List Sgn} {x : Nat} (ht : t = 1 ∨ t = 2) (hv : ∀ i, i < R.length → (gs R i).k = 1 → 0 < (gs R i).v) (hs : ∀ i j, i < j → j < R.length → dstK L dir (gs R i).c ≤ dstK L dir (gs R j).c) (hx : x < R.length) (h : relB L dir t k R x = true) (hl : ∀ j, x < j → j < R.length → relB L dir t k R j = false) (v : Int) :
    hS L js dir t k R v = if endB (gs R x).k t = true then 0 else if jctB L js dir (dstK L dir (gs R x).c) k = true then 0 else if (plB R x && decide ((gs R (x + 1)).v ≤ k - dstK L dir (gs R x).c)) = true then 0 else strR (gs R x).k (gs R x).v t := by
  have hd : dstK L dir (gs R x).c ≤ k := by
    unfold relB at h
    rw [Bool.and_eq_true, decide_eq_true_eq] at h
    exact h.1
  have ha := (rel_acc ht (hv x hx) hd).1 h
  have hsp : R = R.take x ++ gs R x :: R.drop (x + 1) := by
    rw [gs_at R hx, ← List.drop_eq_getElem_cons hx, List.take_append_drop]
  have key := hS_last (L := L) (js := js) (dir := dir) (t := t) (k := k) (gs R x) (R.drop (x + 1)) hd ha (fun y hy hyd => by
    obtain ⟨j, hj, e⟩ := List.getElem_of_mem hy
    rw [List.length_drop] at hj
    rw [List.getElem_drop] at e
    have e2 := gs_at R (i := x + 1 + j) (by omega)
    rw [e] at e2
    subst e2
    have h1 := hl (x + 1 + j) (by omega) (by omega)
    have h2 := rel_acc ht (hv _ (by omega)) hyd
    rw [h1] at h2
    constructor
    · cases h3 : endB (gs R (x + 1 + j)).k t with
      | false => rfl
      | true => exact absurd (h2.2 (.inl h3)) (by simp)
    · intro h3
      exact absurd (h2.2 (.inr h3)) (by simp)) (R.take x) v (fun y hy => by
    obtain ⟨j, hj, e⟩ := List.getElem_of_mem hy
    rw [List.length_take] at hj
    rw [List.getElem_take] at e
    have e2 := gs_at R (i := j) (by omega)
    rw [e] at e2
    subst e2
    have := hs j x (by omega) hx
    omega)
  rw [← hsp] at key
  rw [key]
  have hh : (R.drop (x + 1)).head? = R[x + 1]? := by rw [List.head?_eq_getElem?, List.getElem?_drop]
  rw [hh]
  unfold stpS shutB
  rw [plt_plB L dir k R x hx]
  by_cases h1 : endB (gs R x).k t = true
  · rw [if_pos h1, if_pos h1]
  · rw [if_neg h1, if_neg h1, if_pos (ha.resolve_left h1), (strR_top ht (hv x hx)).2 (ha.resolve_left h1)]
    by_cases h2 : jctB L js dir (dstK L dir (gs R x).c) k = true
    · rw [if_pos h2, if_pos (by simp [h2])]
    · rw [if_neg h2]
      have h2' : jctB L js dir (dstK L dir (gs R x).c) k = false := by simpa using h2
      rw [h2', Bool.false_or]
set_option maxRecDepth 100000 in
set_option maxHeartbeats 1000000 in
theorem refStart_r (s : Sgn) (ad : Option Addr) (cp : Nat) (t : Int) (ht : t = 1 ∨ t = 2) (w : World) :
    Calls Tryz.prog 117 #[.agg #[.int .i64 s.n, .int .i64 s.k, .int .i64 s.v, .int .i64 s.c, .int .i64 s.d, .int .i64 s.rk, .int .i64 s.up, .int .i64 s.dn, .slice ad s.cv.length cp], .int .i64 t] w fun e w' => e = .returned (.int .i64 (strR s.k s.v t)) ∧ Below w.heap.size w w' := by
  rcases ht with rfl | rfl
  · by_cases hk : s.k = 1
    · have hr : Hid (strR s.k s.v 1 = s.v) := Lib.hid (by rw [hk]; rfl)
      have b1 : (s.k == 1) = true := by rw [hk]; rfl
      clear hk
      generalize s.k = sk at *
      go_enter Tryz.func117, Tryz.ntmps117
      go_wp2_with fail
      go_ret
      exact ⟨by rw [hr.out] <;> rfl, (Below.refl _ _).alloc (Nat.le_refl _) _⟩
    · have hr : Hid (strR s.k s.v 1 = 0) := Lib.hid (by unfold strR; simp [hk])
      have b1 : (s.k == 1) = false := beq_false_of_ne hk
      clear hk
      generalize s.k = sk at *
      go_enter Tryz.func117, Tryz.ntmps117
      go_wp2_with fail
      go_ret
      exact ⟨by rw [hr.out] <;> rfl, (Below.refl _ _).alloc (Nat.le_refl _) _⟩
  · by_cases hk : s.k = 3
    · have hr : Hid (strR s.k s.v 2 = 1) := Lib.hid (by rw [hk]; rfl)
      have b1 : (s.k == 3) = true := by rw [hk]; rfl
      clear hk
      generalize s.k = sk at *
      go_enter Tryz.func117, Tryz.ntmps117
      go_wp2_with fail
      go_ret
      exact ⟨by rw [hr.out] <;> rfl, (Below.refl _ _).alloc (Nat.le_refl _) _⟩
    · have hr : Hid (strR s.k s.v 2 = 0) := Lib.hid (by unfold strR; simp [hk])
      have b1 : (s.k == 3) = false := beq_false_of_ne hk
      clear hk
      generalize s.k = sk at *
      go_enter Tryz.func117, Tryz.ntmps117
      go_wp2_with fail
      go_ret
      exact ⟨by rw [hr.out] <;> rfl, (Below.refl _ _).alloc (Nat.le_refl _) _⟩
set_option maxRecDepth 100000 in
set_option maxHeartbeats 1000000 in
theorem refEnd_r (s : Sgn) (ad : Option Addr) (cp : Nat) (t : Int) (ht : t = 1 ∨ t = 2) (w : World) :
    Calls Tryz.prog 118 #[.agg #[.int .i64 s.n, .int .i64 s.k, .int .i64 s.v, .int .i64 s.c, .int .i64 s.d, .int .i64 s.rk, .int .i64 s.up, .int .i64 s.dn, .slice ad s.cv.length cp], .int .i64 t] w fun e w' => e = .returned (.bool (endB s.k t)) ∧ Below w.heap.size w w' := by
  rcases ht with rfl | rfl
  · by_cases h5 : s.k = 5
    · have hr : Hid (endB s.k 1 = true) := Lib.hid (by rw [h5]; rfl)
      have b1 : (s.k == 5) = true := by rw [h5]; rfl
      clear h5
      generalize s.k = sk at *
      go_enter Tryz.func118, Tryz.ntmps118
      go_wp2_with fail
      go_ret
      exact ⟨by rw [hr.out] <;> rfl, (Below.refl _ _).alloc (Nat.le_refl _) _⟩
    · by_cases hk : s.k = 2
      · have hr : Hid (endB s.k 1 = true) := Lib.hid (by rw [hk]; rfl)
        have b1 : (s.k == 5) = false := beq_false_of_ne h5
        have b2 : (s.k == 2) = true := by rw [hk]; rfl
        clear h5 hk
        generalize s.k = sk at *
        go_enter Tryz.func118, Tryz.ntmps118
        go_wp2_with fail
        go_ret
        exact ⟨by rw [hr.out] <;> rfl, (Below.refl _ _).alloc (Nat.le_refl _) _⟩
      · have hr : Hid (endB s.k 1 = false) := Lib.hid (by unfold endB; simp [h5, hk])
        have b1 : (s.k == 5) = false := beq_false_of_ne h5
        have b2 : (s.k == 2) = false := beq_false_of_ne hk
        clear h5 hk
        generalize s.k = sk at *
        go_enter Tryz.func118, Tryz.ntmps118
        go_wp2_with fail
        go_ret
        exact ⟨by rw [hr.out] <;> rfl, (Below.refl _ _).alloc (Nat.le_refl _) _⟩
  · by_cases h5 : s.k = 5
    · have hr : Hid (endB s.k 2 = true) := Lib.hid (by rw [h5]; rfl)
      have b1 : (s.k == 5) = true := by rw [h5]; rfl
      clear h5
      generalize s.k = sk at *
      go_enter Tryz.func118, Tryz.ntmps118
      go_wp2_with fail
      go_ret
      exact ⟨by rw [hr.out] <;> rfl, (Below.refl _ _).alloc (Nat.le_refl _) _⟩
    · by_cases hk : s.k = 4
      · have hr : Hid (endB s.k 2 = true) := Lib.hid (by rw [hk]; rfl)
        have b1 : (s.k == 5) = false := beq_false_of_ne h5
        have b2 : (s.k == 4) = true := by rw [hk]; rfl
        clear h5 hk
        generalize s.k = sk at *
        go_enter Tryz.func118, Tryz.ntmps118
        go_wp2_with fail
        go_ret
        exact ⟨by rw [hr.out] <;> rfl, (Below.refl _ _).alloc (Nat.le_refl _) _⟩
      · have hr : Hid (endB s.k 2 = false) := Lib.hid (by unfold endB; simp [h5, hk])
        have b1 : (s.k == 5) = false := beq_false_of_ne h5
        have b2 : (s.k == 4) = false := beq_false_of_ne hk
        clear h5 hk
        generalize s.k = sk at *
        go_enter Tryz.func118, Tryz.ntmps118
        go_wp2_with fail
        go_ret
        exact ⟨by rw [hr.out] <;> rfl, (Below.refl _ _).alloc (Nat.le_refl _) _⟩
set_option maxRecDepth 100000 in
set_option maxHeartbeats 1000000 in
theorem refBeginning_r (L : Int) (a : Option Addr) (n ca : Nat) (dir c : Int) (hL1 : 0 ≤ L) (hL2 : L ≤ 100000) (hc1 : -1000000 ≤ c) (hc2 : c ≤ 1000000) (w : World) :
    Calls Tryz.prog 41 #[.agg #[.int .i64 L, .slice a n ca], .int .i64 dir, .int .i64 c] w fun e w' => e = .returned (.int .i64 (begK L dir c)) ∧ Below w.heap.size w w' := by
  by_cases h1 : dir = 1
  · subst h1
    have hr : Hid (begK L 1 c = c) := Lib.hid (by unfold begK; simp)
    go_enter Tryz.func41, Tryz.ntmps41
    go_wp2_with fail
    go_ret
    exact ⟨by rw [hr.out]; rfl, (Below.refl _ _).alloc (Nat.le_refl _) _⟩
  · have hr : Hid (begK L dir c = L - 1 - c) := Lib.hid (by unfold begK; simp [h1])
    go_enter Tryz.func41, Tryz.ntmps41
    go_wp2_with fail
    go_ret
    exact ⟨by rw [hr.out]; rfl, (Below.refl _ _).alloc (Nat.le_refl _) _⟩
set_option maxRecDepth 100000 in
set_option maxHeartbeats 1000000 in
theorem refPlated_r (a : Option Addr) (l : List Sgn) (ca i : Nat) (hi : i < l.length) (hn : l.length ≤ 1000) (w : World) (hA : SgnS w a l) :
    Calls Tryz.prog 119 #[.slice a l.length ca, .int .i64 i] w fun e w' => e = .returned (.bool (plB l i)) ∧ Below w.heap.size w w' := by
  obtain ⟨-, blk, off, ad, cp, hadr, hc⟩ := hA
  obtain rfl := hadr (List.ne_nil_of_length_pos (by omega))
  obtain ⟨m, hm1⟩ : ∃ m : Nat, m = i + 1 := ⟨_, rfl⟩
  have HP : Hid (plB l i = (decide (m < l.length) && (((gs l m).k == 7) && ((gs l m).c == (gs l i).c)))) := Lib.hid (by rw [hm1]; rfl)
  have hw : IntKind.i64.wrap ((i : Int) + 1) = (m : Int) := by rw [hm1]; exact IntWalk.i64_in _ (by omega)
  clear hm1
  by_cases hm : m < l.length
  · obtain ⟨⟨-, e1, -, e3, -⟩, -⟩ := hc i hi
    obtain ⟨⟨-, d1, -, d3, -⟩, -⟩ := hc m hm
    by_cases h7 : (gs l m).k = 7
    · by_cases hcc : (gs l m).c = (gs l i).c
      · have hr : Hid (plB l i = true) := Lib.hid (by rw [HP.out, decide_eq_true hm, h7, hcc]; simp)
        have b1 : ((gs l m).k == 7) = true := by rw [h7]; rfl
        have b2 : ((gs l m).c == (gs l i).c) = true := by rw [hcc]; simp
        have b3 : decide (m < l.length) = true := decide_eq_true hm
        clear h7 hcc HP
        generalize (gs l i).c = ci at *
        generalize (gs l m).c = cm at *
        generalize (gs l m).k = km at *
        clear hc hadr
        go_enter Tryz.func119, Tryz.ntmps119
        go_wp2_with fail
        go_quiet (fail)
        go_wp2_with fail
        go_ret
        exact ⟨by rw [hr.out] <;> rfl, below_drewN (Below.refl _ _) _⟩
      · have hr : Hid (plB l i = false) := Lib.hid (by rw [HP.out]; simp [hcc])
        have b1 : ((gs l m).k == 7) = true := by rw [h7]; rfl
        have b2 : ((gs l m).c == (gs l i).c) = false := beq_false_of_ne hcc
        have b3 : decide (m < l.length) = true := decide_eq_true hm
        clear h7 hcc HP
        generalize (gs l i).c = ci at *
        generalize (gs l m).c = cm at *
        generalize (gs l m).k = km at *
        clear hc hadr
        go_enter Tryz.func119, Tryz.ntmps119
        go_wp2_with fail
        go_quiet (fail)
        go_wp2_with fail
        go_ret
        exact ⟨by rw [hr.out] <;> rfl, below_drewN (Below.refl _ _) _⟩
    · have hr : Hid (plB l i = false) := Lib.hid (by rw [HP.out]; simp [h7])
      have b1 : ((gs l m).k == 7) = false := beq_false_of_ne h7
      have b3 : decide (m < l.length) = true := decide_eq_true hm
      clear h7 HP
      generalize (gs l i).c = ci at *
      generalize (gs l m).c = cm at *
      generalize (gs l m).k = km at *
      clear hc hadr
      go_enter Tryz.func119, Tryz.ntmps119
      go_wp2_with fail
      go_quiet (fail)
      go_wp2_with fail
      go_ret
      exact ⟨by rw [hr.out] <;> rfl, below_drewN (Below.refl _ _) _⟩
  · have hr : Hid (plB l i = false) := Lib.hid (by rw [HP.out, decide_eq_false hm]; rfl)
    have b3 : decide (m < l.length) = false := decide_eq_false hm
    clear HP hc hadr
    go_enter Tryz.func119, Tryz.ntmps119
    go_wp2_with fail
    go_quiet (fail)
    go_wp2_with fail
    go_ret
    exact ⟨by rw [hr.out] <;> rfl, below_drewN (Below.refl _ _) _⟩
end Go.Proofs.YtlpdjinhkmgbgaaGreatDoor

namespace Go.Proofs.YtlpdjinhkmgbgaaGreatDoor
set_option linter.unusedVariables false
set_option linter.unusedSimpArgs false
open Go.RowKit

/-- One sign of account more, or none. -/
theorem lst_yes {p : Nat → Bool} {i : Nat} (h : p i = true) : lstX p (i + 1) = i := by rw [lstX, if_pos h]
theorem lst_no {p : Nat → Bool} {i : Nat} (h : p i = false) : lstX p (i + 1) = lstX p i := by rw [lstX, if_neg (by rw [h]; simp)]
set_option maxRecDepth 100000 in
set_option maxHeartbeats 4000000 in
theorem refHolding_r (L : Int) (a : Option Addr) (js : List Int) (ca : Nat) (aa : Option Addr) (l : List Sgn) (cl : Nat) (dir t k : Int) (hL1 : 0 ≤ L) (hL2 : L ≤ 100000) (hJ : ∀ j, j < js.length → 0 ≤ gi js j ∧ gi js j ≤ 100000) (hC : ∀ j, j < l.length → (0 ≤ (gs l j).c ∧ (gs l j).c ≤ 100000) ∧ 0 ≤ (gs l j).v ∧ (gs l j).v ≤ 100000) (hV : ∀ i, i < l.length → (gs l i).k = 1 → 0 < (gs l i).v) (hSo : ∀ i j, i < j → j < l.length → dstK L dir (gs l i).c ≤ dstK L dir (gs l j).c) (hn : l.length ≤ 1000) (ht : t = 1 ∨ t = 2) (hk1 : -1000000 ≤ k) (hk2 : k ≤ 1000000) (w : World) (hI : IntsS w a js) (hA : SgnS w aa l) :
    Calls Tryz.prog 81 #[.agg #[.int .i64 L, .slice a js.length ca], .slice aa l.length cl, .int .i64 dir, .int .i64 t, .int .i64 k] w fun e w' => e = .returned (.int .i64 (hS L js dir t k l 0)) ∧ Below w.heap.size w w' := by
  have HA := Lib.hid hA
  have HC := Lib.hid hC
  have HJ := Lib.hid hJ
  have HNone : Hid ((∀ j, j < l.length → relB L dir t k l j = false) → hS L js dir t k l 0 = 0) := Lib.hid fun h => hold_none ht hV h 0
  have HLast : Hid (∀ x, x < l.length → relB L dir t k l x = true → (∀ j, x < j → j < l.length → relB L dir t k l j = false) → hS L js dir t k l 0 = if endB (gs l x).k t = true then 0 else if jctB L js dir (dstK L dir (gs l x).c) k = true then 0 else if (plB l x && decide ((gs l (x + 1)).v ≤ k - dstK L dir (gs l x).c)) = true then 0 else strR (gs l x).k (gs l x).v t) := Lib.hid fun x h1 h2 h3 => hold_last ht hV hSo h1 h2 h3 0
  have HLc := Lib.hid (lstX_cases (relB L dir t k l))
  clear hC hJ hV hSo
  obtain ⟨-, blk, off, ad, cp, hadr, hc⟩ := hA
  have HR := Lib.hid hc
  have HAd : Hid (0 < l.length → aa = some ⟨blk, off, none⟩) := Lib.hid fun h => hadr (List.ne_nil_of_length_pos h)
  obtain ⟨hjl, -, jb, jo, hja, hjc⟩ := hI
  have HJc := Lib.hid hjc
  have HJa : Hid (0 < js.length → a = some ⟨jb, jo, none⟩) := Lib.hid fun h => hja (List.ne_nil_of_length_pos h)
  have HRel : Hid (∀ i, relB L dir t k l i = (decide (dstK L dir (gs l i).c ≤ k) && (decide (0 < strR (gs l i).k (gs l i).v t) || endB (gs l i).k t))) := Lib.hid fun i => rfl
  generalize hS L js dir t k l 0 = HV at *
  clear hadr hc hja hjc
  have HT := Lib.hid ht
  clear ht
  go_enter Tryz.func81, Tryz.ntmps81
  go_wp2_with fail
  obtain ⟨wB, hwB⟩ : ∃ wB, w.alloc (.cells #[.int .i64 L, .slice a js.length ca] 24) = wB := ⟨_, rfl⟩
  have hb : Below w.heap.size w wB := by rw [← hwB]; exact (Below.refl _ _).alloc (Nat.le_refl _) _
  have p0 : wB.cell? ⟨w.heap.size, 0, none⟩ = some (.int .i64 L) := by rw [← hwB]; simp [go_sem]
  have p1 : wB.cell? ⟨w.heap.size, 1, none⟩ = some (.slice a js.length ca) := by rw [← hwB]; simp [go_sem]
  rw [hwB]
  clear hwB
  have P0 := Lib.hid p0
  have P1 := Lib.hid p1
  have HB := Lib.hid hb
  clear p0 p1 hb
  go_wp2_with fail
  go_loopw [11, 12] (fun q i9 wr => ∃ i : Nat, i ≤ l.length ∧ i9 = .int .i64 i ∧ q = .int .i64 (lstX (relB L dir t k l) i) ∧ Below wB.heap.size wB wr) (fun _ i9 _ => l.length - (intOf i9).toNat)
  case atStart => exact ⟨0, Nat.zero_le _, rfl, rfl, Below.refl _ _⟩
  case round =>
    obtain ⟨i, hi, rfl, rfl, hbr⟩ := hrel
    have hbw := HB.out.trans (hbr.mono HB.out.size)
    have p0 := cell_below P0.out hbr
    have p1 := cell_below P1.out hbr
    have hzp := block_lt p0
    by_cases hlt : i < l.length
    · obtain rfl := HAd.out (by omega)
      obtain ⟨⟨c0, c1, c2, c3, c4, c5, c6, c7⟩, c8, hP⟩ := HR.out i hlt
      have hci := HC.out i hlt
      have HRi := HRel.out i
      have c0 := cell_below c0 hbw
      have c1 := cell_below c1 hbw
      have c2 := cell_below c2 hbw
      have c3 := cell_below c3 hbw
      have c4 := cell_below c4 hbw
      have c5 := cell_below c5 hbw
      have c6 := cell_below c6 hbw
      have c7 := cell_below c7 hbw
      have c8 := cell_below c8 hbw
      have hzc := block_lt c0
      have HD := Lib.hid (fun W => refDistance_r L a js.length ca dir (gs l i).c hL1 hL2 (by omega) (by omega) W)
      have HS := Lib.hid (fun W => refStart_r (gs l i) (ad i) (cp i) t HT.out W)
      have HE := Lib.hid (fun W => refEnd_r (gs l i) (ad i) (cp i) t HT.out W)
      obtain ⟨LX, hLX⟩ : ∃ LX, lstX (relB L dir t k l) i = LX := ⟨_, rfl⟩
      have HLY : Hid (relB L dir t k l i = true → lstX (relB L dir t k l) (i + 1) = i) := Lib.hid fun h => lst_yes h
      have HLN : Hid (relB L dir t k l i = false → lstX (relB L dir t k l) (i + 1) = LX) := Lib.hid fun h => by rw [lst_no h, hLX]
      rw [hLX]
      clear hLX hP HR HAd HC HJ HA HNone HLast HLc HJc HJa HRel
      have g1 : (i : Int) < (l.length : Int) := by omega
      generalize ad i = adi at *
      generalize cp i = cpi at *
      generalize strR (gs l i).k (gs l i).v t = S at *
      generalize dstK L dir (gs l i).c = D at *
      obtain ⟨eb, heb⟩ : ∃ eb, endB (gs l i).k t = eb := ⟨_, rfl⟩
      rw [heb] at HE HRi
      clear heb hci
      obtain ⟨x, hx⟩ : ∃ x, gs l i = x := ⟨_, rfl⟩
      rw [hx] at HS HE HD c0 c1 c2 c3 c4 c5 c6 c7 c8
      clear hx
      generalize relB L dir t k l i = rb at *
      obtain ⟨LY, hLY⟩ : ∃ LY, lstX (relB L dir t k l) (i + 1) = LY := ⟨_, rfl⟩
      rw [hLY] at HLY HLN
      have HLYe := Lib.hid hLY
      clear hLY
      go_wp2_with fail
      by_cases h1 : D ≤ k
      · have d1 : decide (D ≤ k) = true := decide_eq_true h1
        by_cases h2 : 0 < S
        · have d2 : decide (0 < S) = true := decide_eq_true h2
          have hv := HLY.out (by rw [HRi, d1, d2]; rfl)
          have HV2 := Lib.hid hv
          clear hv HRi HLY HLN HE
          refine wp_region_held_drew (S := fun w' => Below wr.heap.size wr w') (by kernel_rfl) ((Below.refl _ _).drew) (fun hHeld => ?_)
          refine wpAnyH_take (i := 0) (oi := { dst := some 22, op := Go.Op.load 24 (Go.Operand.tmp 5), type := 24, pos := "ref.go:165", after := #[], guard := none }) (v := .agg #[.int .i64 L, .slice a js.length ca]) rfl (by kernel_rfl) (by kernel_rfl) (by kernel_rfl) (fun _ _ _ h => h) (.inl ⟨by kernel_rfl, fun w9 h9 => by
            clear hHeld
            have d0 := (h9.cell (p := ⟨w.heap.size, 0, none⟩) hzp).trans p0
            have d1 := (h9.cell (p := ⟨w.heap.size, 1, none⟩) hzp).trans p1
            clear h9
            go_simp⟩) hHeld ?_
          refine takeU (i := 1) (some 23) (.int .i64 dir) (by kernel_rfl) (by kernel_rfl) (by kernel_rfl) (by kernel_rfl) (by kernel_rfl) (fun _ => by kernel_rfl) (fun _ _ _ h => h) hHeld ?_
          refine takeU (i := 2) (some 24) (.slice (some ⟨blk, off, none⟩) l.length cl) (by kernel_rfl) (by kernel_rfl) (by kernel_rfl) (by kernel_rfl) (by kernel_rfl) (fun _ => by kernel_rfl) (fun _ _ _ h => h) hHeld ?_
          refine takeU (i := 3) (some 25) (.int .i64 i) (by kernel_rfl) (by kernel_rfl) (by kernel_rfl) (by kernel_rfl) (by kernel_rfl) (fun _ => by kernel_rfl) (fun _ _ _ h => h) hHeld ?_
          refine wpAnyH_take (i := 4) (oi := { dst := some 26, op := Go.Op.indexAddr 25 (Go.Operand.tmp 24) (Go.Operand.tmp 25), type := 0, pos := "ref.go:165", after := #[{ on := 2, ground := Go.Ground.data }, { on := 3, ground := Go.Ground.data }], guard := none }) (v := .pointer (some ⟨blk, off + i * 9, none⟩)) rfl (by kernel_rfl) (by kernel_rfl) (by kernel_rfl) (fun _ _ _ h => h) (.inl ⟨by kernel_rfl, fun w9 h9 => by
            clear hHeld h9
            go_simp⟩) hHeld ?_
          refine takeU (i := 5) (some 27) (.pointer (some ⟨blk, off + i * 9 + 3, none⟩)) (by kernel_rfl) (by kernel_rfl) (by kernel_rfl) (by kernel_rfl) (by kernel_rfl) (fun _ => by kernel_rfl) (fun _ _ _ h => h) hHeld ?_
          refine wpAnyH_take (i := 6) (oi := { dst := some 28, op := Go.Op.load 3 (Go.Operand.tmp 27), type := 3, pos := "ref.go:165", after := #[{ on := 5, ground := Go.Ground.data }], guard := none }) (v := .int .i64 x.c) rfl (by kernel_rfl) (by kernel_rfl) (by kernel_rfl) (fun _ _ _ h => h) (.inl ⟨by kernel_rfl, fun w9 h9 => by
            clear hHeld
            have d0 := (h9.cell (p := ⟨blk, off + i * 9 + 3, none⟩) hzc).trans c3
            clear h9
            go_simp⟩) hHeld ?_
          refine takeU (i := 8) (some 30) (.int .i64 k) (by kernel_rfl) (by kernel_rfl) (by kernel_rfl) (by kernel_rfl) (by kernel_rfl) (fun _ => by kernel_rfl) (fun _ _ _ h => h) hHeld ?_
          try simp only [Act.put, List.setIfInBounds_toArray, List.set_cons_zero, List.set_cons_succ]
          refine wpAnyH_ready (rs := [7]) (by kernel_rfl) (by simp) ?_
          refine AllReadyH.cons (o := { dst := some 29, op := Go.Op.call { callee := Go.Callee.value (Go.Operand.func 42), args := #[Go.Operand.tmp 22, Go.Operand.tmp 23, Go.Operand.tmp 28], argTypes := #[24, 3, 3] }, type := 3, pos := "ref.go:165", after := #[{ on := 0, ground := Go.Ground.data }, { on := 1, ground := Go.Ground.data }, { on := 6, ground := Go.Ground.data }], guard := none }) rfl (fun K hK => ?_) AllReadyH.nil
          go_simp
          go_at_call 42
          refine (HD.out _).mono ?_
          rintro e w79 ⟨rfl, hb79⟩
          refine hK.out _ _ (hHeld.trans (hb79.mono hHeld.size)) (fun hHeld => ?_)
          clear hK K hb79
          try simp only [Act.put, List.setIfInBounds_toArray, List.set_cons_zero, List.set_cons_succ]
          refine wpAnyH_take (i := 9) (oi := { dst := some 31, op := Go.Op.binOp Go.BinOp.leq 3 (Go.Operand.tmp 29) (Go.Operand.tmp 30) 3, type := 4, pos := "ref.go:165", after := #[{ on := 7, ground := Go.Ground.data }, { on := 8, ground := Go.Ground.data }], guard := none }) (v := .bool true) rfl (by kernel_rfl) (by kernel_rfl) (by kernel_rfl) (fun _ _ _ h => h) (.inl ⟨by kernel_rfl, fun w9 h9 => by
            clear hHeld h9
            go_simp⟩) hHeld ?_
          refine takeU (i := 10) (some 32) (.bool true) (by kernel_rfl) (by kernel_rfl) (by kernel_rfl) (by kernel_rfl) (by kernel_rfl) (fun _ => by kernel_rfl) (fun _ _ _ h => h) hHeld ?_
          refine takeU (i := 11) (some 33) (.slice (some ⟨blk, off, none⟩) l.length cl) (by kernel_rfl) (by kernel_rfl) (by kernel_rfl) (by kernel_rfl) (by kernel_rfl) (fun _ => by kernel_rfl) (fun _ _ _ h => h) hHeld ?_
          refine takeU (i := 12) (some 34) (.int .i64 i) (by kernel_rfl) (by kernel_rfl) (by kernel_rfl) (by kernel_rfl) (by kernel_rfl) (fun _ => by kernel_rfl) (fun _ _ _ h => h) hHeld ?_
          refine wpAnyH_take (i := 13) (oi := { dst := some 35, op := Go.Op.indexAddr 25 (Go.Operand.tmp 33) (Go.Operand.tmp 34), type := 0, pos := "ref.go:165", after := #[{ on := 11, ground := Go.Ground.data }, { on := 12, ground := Go.Ground.data }, { on := 10, ground := Go.Ground.guard }], guard := some (10, true) }) (v := .pointer (some ⟨blk, off + i * 9, none⟩)) rfl (by kernel_rfl) (by kernel_rfl) (by kernel_rfl) (fun _ _ _ h => h) (.inl ⟨by kernel_rfl, fun w9 h9 => by
            clear hHeld h9
            go_simp⟩) hHeld ?_
          refine wpAnyH_take (i := 14) (oi := { dst := some 36, op := Go.Op.load 69 (Go.Operand.tmp 35), type := 69, pos := "ref.go:165", after := #[{ on := 13, ground := Go.Ground.data }, { on := 10, ground := Go.Ground.guard }], guard := some (10, true) }) (v := .agg #[.int .i64 x.n, .int .i64 x.k, .int .i64 x.v, .int .i64 x.c, .int .i64 x.d, .int .i64 x.rk, .int .i64 x.up, .int .i64 x.dn, .slice adi x.cv.length cpi]) rfl (by kernel_rfl) (by kernel_rfl) (by kernel_rfl) (fun _ _ _ h => h) (.inl ⟨by kernel_rfl, fun w9 h9 => by
            clear hHeld
            have d0 := (h9.cell (p := ⟨blk, off + i * 9, none⟩) hzc).trans c0
            have d1 := (h9.cell (p := ⟨blk, off + i * 9 + 1, none⟩) hzc).trans c1
            have d2 := (h9.cell (p := ⟨blk, off + i * 9 + 2, none⟩) hzc).trans c2
            have d3 := (h9.cell (p := ⟨blk, off + i * 9 + 3, none⟩) hzc).trans c3
            have d4 := (h9.cell (p := ⟨blk, off + i * 9 + 4, none⟩) hzc).trans c4
            have d5 := (h9.cell (p := ⟨blk, off + i * 9 + 5, none⟩) hzc).trans c5
            have d6 := (h9.cell (p := ⟨blk, off + i * 9 + 6, none⟩) hzc).trans c6
            have d7 := (h9.cell (p := ⟨blk, off + i * 9 + 7, none⟩) hzc).trans c7
            have d8 := (h9.cell (p := ⟨blk, off + i * 9 + 8, none⟩) hzc).trans c8
            clear h9
            go_simp⟩) hHeld ?_
          refine takeU (i := 15) (some 37) (.int .i64 t) (by kernel_rfl) (by kernel_rfl) (by kernel_rfl) (by kernel_rfl) (by kernel_rfl) (fun _ => by kernel_rfl) (fun _ _ _ h => h) hHeld ?_
          try simp only [Act.put, List.setIfInBounds_toArray, List.set_cons_zero, List.set_cons_succ]
          refine wpAnyH_ready (rs := [16]) (by kernel_rfl) (by simp) ?_
          refine AllReadyH.cons (o := { dst := some 38, op := Go.Op.call { callee := Go.Callee.value (Go.Operand.func 117), args := #[Go.Operand.tmp 36, Go.Operand.tmp 37], argTypes := #[69, 3] }, type := 3, pos := "ref.go:165", after := #[{ on := 14, ground := Go.Ground.data }, { on := 15, ground := Go.Ground.data }, { on := 10, ground := Go.Ground.chain }, { on := 10, ground := Go.Ground.guard }], guard := some (10, true) }) rfl (fun K hK => ?_) AllReadyH.nil
          go_simp
          go_at_call 117
          refine (HS.out _).mono ?_
          rintro e w169 ⟨rfl, hb169⟩
          refine hK.out _ _ (hHeld.trans (hb169.mono hHeld.size)) (fun hHeld => ?_)
          clear hK K hb169
          try simp only [Act.put, List.setIfInBounds_toArray, List.set_cons_zero, List.set_cons_succ]
          refine wpAnyH_take (i := 17) (oi := { dst := some 39, op := Go.Op.binOp Go.BinOp.gtr 3 (Go.Operand.tmp 38) (Go.Operand.const (Go.Value.int Go.IntKind.i64 0)) 3, type := 4, pos := "ref.go:165", after := #[{ on := 16, ground := Go.Ground.data }, { on := 10, ground := Go.Ground.guard }], guard := some (10, true) }) (v := .bool true) rfl (by kernel_rfl) (by kernel_rfl) (by kernel_rfl) (fun _ _ _ h => h) (.inl ⟨by kernel_rfl, fun w9 h9 => by
            clear hHeld h9
            go_simp⟩) hHeld ?_
          refine takeU (i := 18) (some 40) (.bool true) (by kernel_rfl) (by kernel_rfl) (by kernel_rfl) (by kernel_rfl) (by kernel_rfl) (fun _ => by kernel_rfl) (fun _ _ _ h => h) hHeld ?_
          refine skipU (i := 19) (some 41) (by kernel_rfl) (by kernel_rfl) (by kernel_rfl) (by kernel_rfl) (by kernel_rfl) (fun _ _ _ h => h) hHeld ?_
          refine skipU (i := 20) (some 42) (by kernel_rfl) (by kernel_rfl) (by kernel_rfl) (by kernel_rfl) (by kernel_rfl) (fun _ _ _ h => h) hHeld ?_
          refine skipU (i := 21) (some 43) (by kernel_rfl) (by kernel_rfl) (by kernel_rfl) (by kernel_rfl) (by kernel_rfl) (fun _ _ _ h => h) hHeld ?_
          refine skipU (i := 22) (some 44) (by kernel_rfl) (by kernel_rfl) (by kernel_rfl) (by kernel_rfl) (by kernel_rfl) (fun _ _ _ h => h) hHeld ?_
          refine skipU (i := 23) (some 45) (by kernel_rfl) (by kernel_rfl) (by kernel_rfl) (by kernel_rfl) (by kernel_rfl) (fun _ _ _ h => h) hHeld ?_
          refine skipU (i := 24) (some 46) (by kernel_rfl) (by kernel_rfl) (by kernel_rfl) (by kernel_rfl) (by kernel_rfl) (fun _ _ _ h => h) hHeld ?_
          refine takeU (i := 25) (some 47) (.bool true) (by kernel_rfl) (by kernel_rfl) (by kernel_rfl) (by kernel_rfl) (by kernel_rfl) (fun _ => by kernel_rfl) (fun _ _ _ h => h) hHeld ?_
          refine takeU (i := 26) (some 48) (.bool true) (by kernel_rfl) (by kernel_rfl) (by kernel_rfl) (by kernel_rfl) (by kernel_rfl) (fun _ => by kernel_rfl) (fun _ _ _ h => h) hHeld ?_
          refine wpAnyH_done (by kernel_rfl) ?_ _
          try simp only [Act.put, List.setIfInBounds_toArray, List.set_cons_zero, List.set_cons_succ]
          go_wp2_with fail
          go_roundw
          case rel => exact ⟨i + 1, by omega, by go_num, by rw [HLYe.out, HV2.out], hbr.trans (hHeld.mono hbr.size)⟩
          case measure => simp [intOf]; omega
        · have d2 : decide (0 < S) = false := decide_eq_false h2
          cases eb with
          | true =>
            have hv := HLY.out (by rw [HRi, d1, d2]; rfl)
            have HV2 := Lib.hid hv
            clear hv HRi HLY HLN
            refine wp_region_held_drew (S := fun w' => Below wr.heap.size wr w') (by kernel_rfl) ((Below.refl _ _).drew) (fun hHeld => ?_)
            refine wpAnyH_take (i := 0) (oi := { dst := some 22, op := Go.Op.load 24 (Go.Operand.tmp 5), type := 24, pos := "ref.go:165", after := #[], guard := none }) (v := .agg #[.int .i64 L, .slice a js.length ca]) rfl (by kernel_rfl) (by kernel_rfl) (by kernel_rfl) (fun _ _ _ h => h) (.inl ⟨by kernel_rfl, fun w9 h9 => by
              clear hHeld
              have d0 := (h9.cell (p := ⟨w.heap.size, 0, none⟩) hzp).trans p0
              have d1 := (h9.cell (p := ⟨w.heap.size, 1, none⟩) hzp).trans p1
              clear h9
              go_simp⟩) hHeld ?_
            refine takeU (i := 1) (some 23) (.int .i64 dir) (by kernel_rfl) (by kernel_rfl) (by kernel_rfl) (by kernel_rfl) (by kernel_rfl) (fun _ => by kernel_rfl) (fun _ _ _ h => h) hHeld ?_
            refine takeU (i := 2) (some 24) (.slice (some ⟨blk, off, none⟩) l.length cl) (by kernel_rfl) (by kernel_rfl) (by kernel_rfl) (by kernel_rfl) (by kernel_rfl) (fun _ => by kernel_rfl) (fun _ _ _ h => h) hHeld ?_
            refine takeU (i := 3) (some 25) (.int .i64 i) (by kernel_rfl) (by kernel_rfl) (by kernel_rfl) (by kernel_rfl) (by kernel_rfl) (fun _ => by kernel_rfl) (fun _ _ _ h => h) hHeld ?_
            refine wpAnyH_take (i := 4) (oi := { dst := some 26, op := Go.Op.indexAddr 25 (Go.Operand.tmp 24) (Go.Operand.tmp 25), type := 0, pos := "ref.go:165", after := #[{ on := 2, ground := Go.Ground.data }, { on := 3, ground := Go.Ground.data }], guard := none }) (v := .pointer (some ⟨blk, off + i * 9, none⟩)) rfl (by kernel_rfl) (by kernel_rfl) (by kernel_rfl) (fun _ _ _ h => h) (.inl ⟨by kernel_rfl, fun w9 h9 => by
              clear hHeld h9
              go_simp⟩) hHeld ?_
            refine takeU (i := 5) (some 27) (.pointer (some ⟨blk, off + i * 9 + 3, none⟩)) (by kernel_rfl) (by kernel_rfl) (by kernel_rfl) (by kernel_rfl) (by kernel_rfl) (fun _ => by kernel_rfl) (fun _ _ _ h => h) hHeld ?_
            refine wpAnyH_take (i := 6) (oi := { dst := some 28, op := Go.Op.load 3 (Go.Operand.tmp 27), type := 3, pos := "ref.go:165", after := #[{ on := 5, ground := Go.Ground.data }], guard := none }) (v := .int .i64 x.c) rfl (by kernel_rfl) (by kernel_rfl) (by kernel_rfl) (fun _ _ _ h => h) (.inl ⟨by kernel_rfl, fun w9 h9 => by
              clear hHeld
              have d0 := (h9.cell (p := ⟨blk, off + i * 9 + 3, none⟩) hzc).trans c3
              clear h9
              go_simp⟩) hHeld ?_
            refine takeU (i := 8) (some 30) (.int .i64 k) (by kernel_rfl) (by kernel_rfl) (by kernel_rfl) (by kernel_rfl) (by kernel_rfl) (fun _ => by kernel_rfl) (fun _ _ _ h => h) hHeld ?_
            try simp only [Act.put, List.setIfInBounds_toArray, List.set_cons_zero, List.set_cons_succ]
            refine wpAnyH_ready (rs := [7]) (by kernel_rfl) (by simp) ?_
            refine AllReadyH.cons (o := { dst := some 29, op := Go.Op.call { callee := Go.Callee.value (Go.Operand.func 42), args := #[Go.Operand.tmp 22, Go.Operand.tmp 23, Go.Operand.tmp 28], argTypes := #[24, 3, 3] }, type := 3, pos := "ref.go:165", after := #[{ on := 0, ground := Go.Ground.data }, { on := 1, ground := Go.Ground.data }, { on := 6, ground := Go.Ground.data }], guard := none }) rfl (fun K hK => ?_) AllReadyH.nil
            go_simp
            go_at_call 42
            refine (HD.out _).mono ?_
            rintro e w79 ⟨rfl, hb79⟩
            refine hK.out _ _ (hHeld.trans (hb79.mono hHeld.size)) (fun hHeld => ?_)
            clear hK K hb79
            try simp only [Act.put, List.setIfInBounds_toArray, List.set_cons_zero, List.set_cons_succ]
            refine wpAnyH_take (i := 9) (oi := { dst := some 31, op := Go.Op.binOp Go.BinOp.leq 3 (Go.Operand.tmp 29) (Go.Operand.tmp 30) 3, type := 4, pos := "ref.go:165", after := #[{ on := 7, ground := Go.Ground.data }, { on := 8, ground := Go.Ground.data }], guard := none }) (v := .bool true) rfl (by kernel_rfl) (by kernel_rfl) (by kernel_rfl) (fun _ _ _ h => h) (.inl ⟨by kernel_rfl, fun w9 h9 => by
              clear hHeld h9
              go_simp⟩) hHeld ?_
            refine takeU (i := 10) (some 32) (.bool true) (by kernel_rfl) (by kernel_rfl) (by kernel_rfl) (by kernel_rfl) (by kernel_rfl) (fun _ => by kernel_rfl) (fun _ _ _ h => h) hHeld ?_
            refine takeU (i := 11) (some 33) (.slice (some ⟨blk, off, none⟩) l.length cl) (by kernel_rfl) (by kernel_rfl) (by kernel_rfl) (by kernel_rfl) (by kernel_rfl) (fun _ => by kernel_rfl) (fun _ _ _ h => h) hHeld ?_
            refine takeU (i := 12) (some 34) (.int .i64 i) (by kernel_rfl) (by kernel_rfl) (by kernel_rfl) (by kernel_rfl) (by kernel_rfl) (fun _ => by kernel_rfl) (fun _ _ _ h => h) hHeld ?_
            refine wpAnyH_take (i := 13) (oi := { dst := some 35, op := Go.Op.indexAddr 25 (Go.Operand.tmp 33) (Go.Operand.tmp 34), type := 0, pos := "ref.go:165", after := #[{ on := 11, ground := Go.Ground.data }, { on := 12, ground := Go.Ground.data }, { on := 10, ground := Go.Ground.guard }], guard := some (10, true) }) (v := .pointer (some ⟨blk, off + i * 9, none⟩)) rfl (by kernel_rfl) (by kernel_rfl) (by kernel_rfl) (fun _ _ _ h => h) (.inl ⟨by kernel_rfl, fun w9 h9 => by
              clear hHeld h9
              go_simp⟩) hHeld ?_
            refine wpAnyH_take (i := 14) (oi := { dst := some 36, op := Go.Op.load 69 (Go.Operand.tmp 35), type := 69, pos := "ref.go:165", after := #[{ on := 13, ground := Go.Ground.data }, { on := 10, ground := Go.Ground.guard }], guard := some (10, true) }) (v := .agg #[.int .i64 x.n, .int .i64 x.k, .int .i64 x.v, .int .i64 x.c, .int .i64 x.d, .int .i64 x.rk, .int .i64 x.up, .int .i64 x.dn, .slice adi x.cv.length cpi]) rfl (by kernel_rfl) (by kernel_rfl) (by kernel_rfl) (fun _ _ _ h => h) (.inl ⟨by kernel_rfl, fun w9 h9 => by
              clear hHeld
              have d0 := (h9.cell (p := ⟨blk, off + i * 9, none⟩) hzc).trans c0
              have d1 := (h9.cell (p := ⟨blk, off + i * 9 + 1, none⟩) hzc).trans c1
              have d2 := (h9.cell (p := ⟨blk, off + i * 9 + 2, none⟩) hzc).trans c2
              have d3 := (h9.cell (p := ⟨blk, off + i * 9 + 3, none⟩) hzc).trans c3
              have d4 := (h9.cell (p := ⟨blk, off + i * 9 + 4, none⟩) hzc).trans c4
              have d5 := (h9.cell (p := ⟨blk, off + i * 9 + 5, none⟩) hzc).trans c5
              have d6 := (h9.cell (p := ⟨blk, off + i * 9 + 6, none⟩) hzc).trans c6
              have d7 := (h9.cell (p := ⟨blk, off + i * 9 + 7, none⟩) hzc).trans c7
              have d8 := (h9.cell (p := ⟨blk, off + i * 9 + 8, none⟩) hzc).trans c8
              clear h9
              go_simp⟩) hHeld ?_
            refine takeU (i := 15) (some 37) (.int .i64 t) (by kernel_rfl) (by kernel_rfl) (by kernel_rfl) (by kernel_rfl) (by kernel_rfl) (fun _ => by kernel_rfl) (fun _ _ _ h => h) hHeld ?_
            try simp only [Act.put, List.setIfInBounds_toArray, List.set_cons_zero, List.set_cons_succ]
            refine wpAnyH_ready (rs := [16]) (by kernel_rfl) (by simp) ?_
            refine AllReadyH.cons (o := { dst := some 38, op := Go.Op.call { callee := Go.Callee.value (Go.Operand.func 117), args := #[Go.Operand.tmp 36, Go.Operand.tmp 37], argTypes := #[69, 3] }, type := 3, pos := "ref.go:165", after := #[{ on := 14, ground := Go.Ground.data }, { on := 15, ground := Go.Ground.data }, { on := 10, ground := Go.Ground.chain }, { on := 10, ground := Go.Ground.guard }], guard := some (10, true) }) rfl (fun K hK => ?_) AllReadyH.nil
            go_simp
            go_at_call 117
            refine (HS.out _).mono ?_
            rintro e w169 ⟨rfl, hb169⟩
            refine hK.out _ _ (hHeld.trans (hb169.mono hHeld.size)) (fun hHeld => ?_)
            clear hK K hb169
            try simp only [Act.put, List.setIfInBounds_toArray, List.set_cons_zero, List.set_cons_succ]
            refine wpAnyH_take (i := 17) (oi := { dst := some 39, op := Go.Op.binOp Go.BinOp.gtr 3 (Go.Operand.tmp 38) (Go.Operand.const (Go.Value.int Go.IntKind.i64 0)) 3, type := 4, pos := "ref.go:165", after := #[{ on := 16, ground := Go.Ground.data }, { on := 10, ground := Go.Ground.guard }], guard := some (10, true) }) (v := .bool false) rfl (by kernel_rfl) (by kernel_rfl) (by kernel_rfl) (fun _ _ _ h => h) (.inl ⟨by kernel_rfl, fun w9 h9 => by
              clear hHeld h9
              go_simp⟩) hHeld ?_
            refine takeU (i := 18) (some 40) (.bool false) (by kernel_rfl) (by kernel_rfl) (by kernel_rfl) (by kernel_rfl) (by kernel_rfl) (fun _ => by kernel_rfl) (fun _ _ _ h => h) hHeld ?_
            refine takeU (i := 19) (some 41) (.slice (some ⟨blk, off, none⟩) l.length cl) (by kernel_rfl) (by kernel_rfl) (by kernel_rfl) (by kernel_rfl) (by kernel_rfl) (fun _ => by kernel_rfl) (fun _ _ _ h => h) hHeld ?_
            refine takeU (i := 20) (some 42) (.int .i64 i) (by kernel_rfl) (by kernel_rfl) (by kernel_rfl) (by kernel_rfl) (by kernel_rfl) (fun _ => by kernel_rfl) (fun _ _ _ h => h) hHeld ?_
            refine wpAnyH_take (i := 21) (oi := { dst := some 43, op := Go.Op.indexAddr 25 (Go.Operand.tmp 41) (Go.Operand.tmp 42), type := 0, pos := "ref.go:165", after := #[{ on := 19, ground := Go.Ground.data }, { on := 20, ground := Go.Ground.data }, { on := 18, ground := Go.Ground.guard }], guard := some (18, false) }) (v := .pointer (some ⟨blk, off + i * 9, none⟩)) rfl (by kernel_rfl) (by kernel_rfl) (by kernel_rfl) (fun _ _ _ h => h) (.inl ⟨by kernel_rfl, fun w9 h9 => by
              clear hHeld h9
              go_simp⟩) hHeld ?_
            refine wpAnyH_take (i := 22) (oi := { dst := some 44, op := Go.Op.load 69 (Go.Operand.tmp 43), type := 69, pos := "ref.go:165", after := #[{ on := 21, ground := Go.Ground.data }, { on := 18, ground := Go.Ground.guard }], guard := some (18, false) }) (v := .agg #[.int .i64 x.n, .int .i64 x.k, .int .i64 x.v, .int .i64 x.c, .int .i64 x.d, .int .i64 x.rk, .int .i64 x.up, .int .i64 x.dn, .slice adi x.cv.length cpi]) rfl (by kernel_rfl) (by kernel_rfl) (by kernel_rfl) (fun _ _ _ h => h) (.inl ⟨by kernel_rfl, fun w9 h9 => by
              clear hHeld
              have d0 := (h9.cell (p := ⟨blk, off + i * 9, none⟩) hzc).trans c0
              have d1 := (h9.cell (p := ⟨blk, off + i * 9 + 1, none⟩) hzc).trans c1
              have d2 := (h9.cell (p := ⟨blk, off + i * 9 + 2, none⟩) hzc).trans c2
              have d3 := (h9.cell (p := ⟨blk, off + i * 9 + 3, none⟩) hzc).trans c3
              have d4 := (h9.cell (p := ⟨blk, off + i * 9 + 4, none⟩) hzc).trans c4
              have d5 := (h9.cell (p := ⟨blk, off + i * 9 + 5, none⟩) hzc).trans c5
              have d6 := (h9.cell (p := ⟨blk, off + i * 9 + 6, none⟩) hzc).trans c6
              have d7 := (h9.cell (p := ⟨blk, off + i * 9 + 7, none⟩) hzc).trans c7
              have d8 := (h9.cell (p := ⟨blk, off + i * 9 + 8, none⟩) hzc).trans c8
              clear h9
              go_simp⟩) hHeld ?_
            refine takeU (i := 23) (some 45) (.int .i64 t) (by kernel_rfl) (by kernel_rfl) (by kernel_rfl) (by kernel_rfl) (by kernel_rfl) (fun _ => by kernel_rfl) (fun _ _ _ h => h) hHeld ?_
            try simp only [Act.put, List.setIfInBounds_toArray, List.set_cons_zero, List.set_cons_succ]
            refine wpAnyH_ready (rs := [24]) (by kernel_rfl) (by simp) ?_
            refine AllReadyH.cons (o := { dst := some 46, op := Go.Op.call { callee := Go.Callee.value (Go.Operand.func 118), args := #[Go.Operand.tmp 44, Go.Operand.tmp 45], argTypes := #[69, 3] }, type := 4, pos := "ref.go:165", after := #[{ on := 22, ground := Go.Ground.data }, { on := 23, ground := Go.Ground.data }, { on := 18, ground := Go.Ground.chain }, { on := 18, ground := Go.Ground.guard }], guard := some (18, false) }) rfl (fun K hK => ?_) AllReadyH.nil
            go_simp
            go_at_call 118
            refine (HE.out _).mono ?_
            rintro e w249 ⟨rfl, hb249⟩
            refine hK.out _ _ (hHeld.trans (hb249.mono hHeld.size)) (fun hHeld => ?_)
            clear hK K hb249
            try simp only [Act.put, List.setIfInBounds_toArray, List.set_cons_zero, List.set_cons_succ]
            refine takeU (i := 25) (some 47) (.bool true) (by kernel_rfl) (by kernel_rfl) (by kernel_rfl) (by kernel_rfl) (by kernel_rfl) (fun _ => by kernel_rfl) (fun _ _ _ h => h) hHeld ?_
            refine takeU (i := 26) (some 48) (.bool true) (by kernel_rfl) (by kernel_rfl) (by kernel_rfl) (by kernel_rfl) (by kernel_rfl) (fun _ => by kernel_rfl) (fun _ _ _ h => h) hHeld ?_
            refine wpAnyH_done (by kernel_rfl) ?_ _
            try simp only [Act.put, List.setIfInBounds_toArray, List.set_cons_zero, List.set_cons_succ]
            go_wp2_with fail
            go_roundw
            case rel => exact ⟨i + 1, by omega, by go_num, by rw [HLYe.out, HV2.out], hbr.trans (hHeld.mono hbr.size)⟩
            case measure => simp [intOf]; omega
          | false =>
            have hv := HLN.out (by rw [HRi, d1, d2]; rfl)
            have HV2 := Lib.hid hv
            clear hv HRi HLY HLN
            refine wp_region_held_drew (S := fun w' => Below wr.heap.size wr w') (by kernel_rfl) ((Below.refl _ _).drew) (fun hHeld => ?_)
            refine wpAnyH_take (i := 0) (oi := { dst := some 22, op := Go.Op.load 24 (Go.Operand.tmp 5), type := 24, pos := "ref.go:165", after := #[], guard := none }) (v := .agg #[.int .i64 L, .slice a js.length ca]) rfl (by kernel_rfl) (by kernel_rfl) (by kernel_rfl) (fun _ _ _ h => h) (.inl ⟨by kernel_rfl, fun w9 h9 => by
              clear hHeld
              have d0 := (h9.cell (p := ⟨w.heap.size, 0, none⟩) hzp).trans p0
              have d1 := (h9.cell (p := ⟨w.heap.size, 1, none⟩) hzp).trans p1
              clear h9
              go_simp⟩) hHeld ?_
            refine takeU (i := 1) (some 23) (.int .i64 dir) (by kernel_rfl) (by kernel_rfl) (by kernel_rfl) (by kernel_rfl) (by kernel_rfl) (fun _ => by kernel_rfl) (fun _ _ _ h => h) hHeld ?_
            refine takeU (i := 2) (some 24) (.slice (some ⟨blk, off, none⟩) l.length cl) (by kernel_rfl) (by kernel_rfl) (by kernel_rfl) (by kernel_rfl) (by kernel_rfl) (fun _ => by kernel_rfl) (fun _ _ _ h => h) hHeld ?_
            refine takeU (i := 3) (some 25) (.int .i64 i) (by kernel_rfl) (by kernel_rfl) (by kernel_rfl) (by kernel_rfl) (by kernel_rfl) (fun _ => by kernel_rfl) (fun _ _ _ h => h) hHeld ?_
            refine wpAnyH_take (i := 4) (oi := { dst := some 26, op := Go.Op.indexAddr 25 (Go.Operand.tmp 24) (Go.Operand.tmp 25), type := 0, pos := "ref.go:165", after := #[{ on := 2, ground := Go.Ground.data }, { on := 3, ground := Go.Ground.data }], guard := none }) (v := .pointer (some ⟨blk, off + i * 9, none⟩)) rfl (by kernel_rfl) (by kernel_rfl) (by kernel_rfl) (fun _ _ _ h => h) (.inl ⟨by kernel_rfl, fun w9 h9 => by
              clear hHeld h9
              go_simp⟩) hHeld ?_
            refine takeU (i := 5) (some 27) (.pointer (some ⟨blk, off + i * 9 + 3, none⟩)) (by kernel_rfl) (by kernel_rfl) (by kernel_rfl) (by kernel_rfl) (by kernel_rfl) (fun _ => by kernel_rfl) (fun _ _ _ h => h) hHeld ?_
            refine wpAnyH_take (i := 6) (oi := { dst := some 28, op := Go.Op.load 3 (Go.Operand.tmp 27), type := 3, pos := "ref.go:165", after := #[{ on := 5, ground := Go.Ground.data }], guard := none }) (v := .int .i64 x.c) rfl (by kernel_rfl) (by kernel_rfl) (by kernel_rfl) (fun _ _ _ h => h) (.inl ⟨by kernel_rfl, fun w9 h9 => by
              clear hHeld
              have d0 := (h9.cell (p := ⟨blk, off + i * 9 + 3, none⟩) hzc).trans c3
              clear h9
              go_simp⟩) hHeld ?_
            refine takeU (i := 8) (some 30) (.int .i64 k) (by kernel_rfl) (by kernel_rfl) (by kernel_rfl) (by kernel_rfl) (by kernel_rfl) (fun _ => by kernel_rfl) (fun _ _ _ h => h) hHeld ?_
            try simp only [Act.put, List.setIfInBounds_toArray, List.set_cons_zero, List.set_cons_succ]
            refine wpAnyH_ready (rs := [7]) (by kernel_rfl) (by simp) ?_
            refine AllReadyH.cons (o := { dst := some 29, op := Go.Op.call { callee := Go.Callee.value (Go.Operand.func 42), args := #[Go.Operand.tmp 22, Go.Operand.tmp 23, Go.Operand.tmp 28], argTypes := #[24, 3, 3] }, type := 3, pos := "ref.go:165", after := #[{ on := 0, ground := Go.Ground.data }, { on := 1, ground := Go.Ground.data }, { on := 6, ground := Go.Ground.data }], guard := none }) rfl (fun K hK => ?_) AllReadyH.nil
            go_simp
            go_at_call 42
            refine (HD.out _).mono ?_
            rintro e w79 ⟨rfl, hb79⟩
            refine hK.out _ _ (hHeld.trans (hb79.mono hHeld.size)) (fun hHeld => ?_)
            clear hK K hb79
            try simp only [Act.put, List.setIfInBounds_toArray, List.set_cons_zero, List.set_cons_succ]
            refine wpAnyH_take (i := 9) (oi := { dst := some 31, op := Go.Op.binOp Go.BinOp.leq 3 (Go.Operand.tmp 29) (Go.Operand.tmp 30) 3, type := 4, pos := "ref.go:165", after := #[{ on := 7, ground := Go.Ground.data }, { on := 8, ground := Go.Ground.data }], guard := none }) (v := .bool true) rfl (by kernel_rfl) (by kernel_rfl) (by kernel_rfl) (fun _ _ _ h => h) (.inl ⟨by kernel_rfl, fun w9 h9 => by
              clear hHeld h9
              go_simp⟩) hHeld ?_
            refine takeU (i := 10) (some 32) (.bool true) (by kernel_rfl) (by kernel_rfl) (by kernel_rfl) (by kernel_rfl) (by kernel_rfl) (fun _ => by kernel_rfl) (fun _ _ _ h => h) hHeld ?_
            refine takeU (i := 11) (some 33) (.slice (some ⟨blk, off, none⟩) l.length cl) (by kernel_rfl) (by kernel_rfl) (by kernel_rfl) (by kernel_rfl) (by kernel_rfl) (fun _ => by kernel_rfl) (fun _ _ _ h => h) hHeld ?_
            refine takeU (i := 12) (some 34) (.int .i64 i) (by kernel_rfl) (by kernel_rfl) (by kernel_rfl) (by kernel_rfl) (by kernel_rfl) (fun _ => by kernel_rfl) (fun _ _ _ h => h) hHeld ?_
            refine wpAnyH_take (i := 13) (oi := { dst := some 35, op := Go.Op.indexAddr 25 (Go.Operand.tmp 33) (Go.Operand.tmp 34), type := 0, pos := "ref.go:165", after := #[{ on := 11, ground := Go.Ground.data }, { on := 12, ground := Go.Ground.data }, { on := 10, ground := Go.Ground.guard }], guard := some (10, true) }) (v := .pointer (some ⟨blk, off + i * 9, none⟩)) rfl (by kernel_rfl) (by kernel_rfl) (by kernel_rfl) (fun _ _ _ h => h) (.inl ⟨by kernel_rfl, fun w9 h9 => by
              clear hHeld h9
              go_simp⟩) hHeld ?_
            refine wpAnyH_take (i := 14) (oi := { dst := some 36, op := Go.Op.load 69 (Go.Operand.tmp 35), type := 69, pos := "ref.go:165", after := #[{ on := 13, ground := Go.Ground.data }, { on := 10, ground := Go.Ground.guard }], guard := some (10, true) }) (v := .agg #[.int .i64 x.n, .int .i64 x.k, .int .i64 x.v, .int .i64 x.c, .int .i64 x.d, .int .i64 x.rk, .int .i64 x.up, .int .i64 x.dn, .slice adi x.cv.length cpi]) rfl (by kernel_rfl) (by kernel_rfl) (by kernel_rfl) (fun _ _ _ h => h) (.inl ⟨by kernel_rfl, fun w9 h9 => by
              clear hHeld
              have d0 := (h9.cell (p := ⟨blk, off + i * 9, none⟩) hzc).trans c0
              have d1 := (h9.cell (p := ⟨blk, off + i * 9 + 1, none⟩) hzc).trans c1
              have d2 := (h9.cell (p := ⟨blk, off + i * 9 + 2, none⟩) hzc).trans c2
              have d3 := (h9.cell (p := ⟨blk, off + i * 9 + 3, none⟩) hzc).trans c3
              have d4 := (h9.cell (p := ⟨blk, off + i * 9 + 4, none⟩) hzc).trans c4
              have d5 := (h9.cell (p := ⟨blk, off + i * 9 + 5, none⟩) hzc).trans c5
              have d6 := (h9.cell (p := ⟨blk, off + i * 9 + 6, none⟩) hzc).trans c6
              have d7 := (h9.cell (p := ⟨blk, off + i * 9 + 7, none⟩) hzc).trans c7
              have d8 := (h9.cell (p := ⟨blk, off + i * 9 + 8, none⟩) hzc).trans c8
              clear h9
              go_simp⟩) hHeld ?_
            refine takeU (i := 15) (some 37) (.int .i64 t) (by kernel_rfl) (by kernel_rfl) (by kernel_rfl) (by kernel_rfl) (by kernel_rfl) (fun _ => by kernel_rfl) (fun _ _ _ h => h) hHeld ?_
            try simp only [Act.put, List.setIfInBounds_toArray, List.set_cons_zero, List.set_cons_succ]
            refine wpAnyH_ready (rs := [16]) (by kernel_rfl) (by simp) ?_
            refine AllReadyH.cons (o := { dst := some 38, op := Go.Op.call { callee := Go.Callee.value (Go.Operand.func 117), args := #[Go.Operand.tmp 36, Go.Operand.tmp 37], argTypes := #[69, 3] }, type := 3, pos := "ref.go:165", after := #[{ on := 14, ground := Go.Ground.data }, { on := 15, ground := Go.Ground.data }, { on := 10, ground := Go.Ground.chain }, { on := 10, ground := Go.Ground.guard }], guard := some (10, true) }) rfl (fun K hK => ?_) AllReadyH.nil
            go_simp
            go_at_call 117
            refine (HS.out _).mono ?_
            rintro e w169 ⟨rfl, hb169⟩
            refine hK.out _ _ (hHeld.trans (hb169.mono hHeld.size)) (fun hHeld => ?_)
            clear hK K hb169
            try simp only [Act.put, List.setIfInBounds_toArray, List.set_cons_zero, List.set_cons_succ]
            refine wpAnyH_take (i := 17) (oi := { dst := some 39, op := Go.Op.binOp Go.BinOp.gtr 3 (Go.Operand.tmp 38) (Go.Operand.const (Go.Value.int Go.IntKind.i64 0)) 3, type := 4, pos := "ref.go:165", after := #[{ on := 16, ground := Go.Ground.data }, { on := 10, ground := Go.Ground.guard }], guard := some (10, true) }) (v := .bool false) rfl (by kernel_rfl) (by kernel_rfl) (by kernel_rfl) (fun _ _ _ h => h) (.inl ⟨by kernel_rfl, fun w9 h9 => by
              clear hHeld h9
              go_simp⟩) hHeld ?_
            refine takeU (i := 18) (some 40) (.bool false) (by kernel_rfl) (by kernel_rfl) (by kernel_rfl) (by kernel_rfl) (by kernel_rfl) (fun _ => by kernel_rfl) (fun _ _ _ h => h) hHeld ?_
            refine takeU (i := 19) (some 41) (.slice (some ⟨blk, off, none⟩) l.length cl) (by kernel_rfl) (by kernel_rfl) (by kernel_rfl) (by kernel_rfl) (by kernel_rfl) (fun _ => by kernel_rfl) (fun _ _ _ h => h) hHeld ?_
            refine takeU (i := 20) (some 42) (.int .i64 i) (by kernel_rfl) (by kernel_rfl) (by kernel_rfl) (by kernel_rfl) (by kernel_rfl) (fun _ => by kernel_rfl) (fun _ _ _ h => h) hHeld ?_
            refine wpAnyH_take (i := 21) (oi := { dst := some 43, op := Go.Op.indexAddr 25 (Go.Operand.tmp 41) (Go.Operand.tmp 42), type := 0, pos := "ref.go:165", after := #[{ on := 19, ground := Go.Ground.data }, { on := 20, ground := Go.Ground.data }, { on := 18, ground := Go.Ground.guard }], guard := some (18, false) }) (v := .pointer (some ⟨blk, off + i * 9, none⟩)) rfl (by kernel_rfl) (by kernel_rfl) (by kernel_rfl) (fun _ _ _ h => h) (.inl ⟨by kernel_rfl, fun w9 h9 => by
              clear hHeld h9
              go_simp⟩) hHeld ?_
            refine wpAnyH_take (i := 22) (oi := { dst := some 44, op := Go.Op.load 69 (Go.Operand.tmp 43), type := 69, pos := "ref.go:165", after := #[{ on := 21, ground := Go.Ground.data }, { on := 18, ground := Go.Ground.guard }], guard := some (18, false) }) (v := .agg #[.int .i64 x.n, .int .i64 x.k, .int .i64 x.v, .int .i64 x.c, .int .i64 x.d, .int .i64 x.rk, .int .i64 x.up, .int .i64 x.dn, .slice adi x.cv.length cpi]) rfl (by kernel_rfl) (by kernel_rfl) (by kernel_rfl) (fun _ _ _ h => h) (.inl ⟨by kernel_rfl, fun w9 h9 => by
              clear hHeld
              have d0 := (h9.cell (p := ⟨blk, off + i * 9, none⟩) hzc).trans c0
              have d1 := (h9.cell (p := ⟨blk, off + i * 9 + 1, none⟩) hzc).trans c1
              have d2 := (h9.cell (p := ⟨blk, off + i * 9 + 2, none⟩) hzc).trans c2
              have d3 := (h9.cell (p := ⟨blk, off + i * 9 + 3, none⟩) hzc).trans c3
              have d4 := (h9.cell (p := ⟨blk, off + i * 9 + 4, none⟩) hzc).trans c4
              have d5 := (h9.cell (p := ⟨blk, off + i * 9 + 5, none⟩) hzc).trans c5
              have d6 := (h9.cell (p := ⟨blk, off + i * 9 + 6, none⟩) hzc).trans c6
              have d7 := (h9.cell (p := ⟨blk, off + i * 9 + 7, none⟩) hzc).trans c7
              have d8 := (h9.cell (p := ⟨blk, off + i * 9 + 8, none⟩) hzc).trans c8
              clear h9
              go_simp⟩) hHeld ?_
            refine takeU (i := 23) (some 45) (.int .i64 t) (by kernel_rfl) (by kernel_rfl) (by kernel_rfl) (by kernel_rfl) (by kernel_rfl) (fun _ => by kernel_rfl) (fun _ _ _ h => h) hHeld ?_
            try simp only [Act.put, List.setIfInBounds_toArray, List.set_cons_zero, List.set_cons_succ]
            refine wpAnyH_ready (rs := [24]) (by kernel_rfl) (by simp) ?_
            refine AllReadyH.cons (o := { dst := some 46, op := Go.Op.call { callee := Go.Callee.value (Go.Operand.func 118), args := #[Go.Operand.tmp 44, Go.Operand.tmp 45], argTypes := #[69, 3] }, type := 4, pos := "ref.go:165", after := #[{ on := 22, ground := Go.Ground.data }, { on := 23, ground := Go.Ground.data }, { on := 18, ground := Go.Ground.chain }, { on := 18, ground := Go.Ground.guard }], guard := some (18, false) }) rfl (fun K hK => ?_) AllReadyH.nil
            go_simp
            go_at_call 118
            refine (HE.out _).mono ?_
            rintro e w249 ⟨rfl, hb249⟩
            refine hK.out _ _ (hHeld.trans (hb249.mono hHeld.size)) (fun hHeld => ?_)
            clear hK K hb249
            try simp only [Act.put, List.setIfInBounds_toArray, List.set_cons_zero, List.set_cons_succ]
            refine takeU (i := 25) (some 47) (.bool false) (by kernel_rfl) (by kernel_rfl) (by kernel_rfl) (by kernel_rfl) (by kernel_rfl) (fun _ => by kernel_rfl) (fun _ _ _ h => h) hHeld ?_
            refine takeU (i := 26) (some 48) (.bool false) (by kernel_rfl) (by kernel_rfl) (by kernel_rfl) (by kernel_rfl) (by kernel_rfl) (fun _ => by kernel_rfl) (fun _ _ _ h => h) hHeld ?_
            refine wpAnyH_done (by kernel_rfl) ?_ _
            try simp only [Act.put, List.setIfInBounds_toArray, List.set_cons_zero, List.set_cons_succ]
            go_wp2_with fail
            go_roundw
            case rel => exact ⟨i + 1, by omega, by go_num, by rw [HLYe.out, HV2.out], hbr.trans (hHeld.mono hbr.size)⟩
            case measure => simp [intOf]; omega
      · have d1 : decide (D ≤ k) = false := decide_eq_false h1
        have hv := HLN.out (by rw [HRi, d1]; rfl)
        have HV2 := Lib.hid hv
        clear hv HRi HLY HLN HE HS
        refine wp_region_held_drew (S := fun w' => Below wr.heap.size wr w') (by kernel_rfl) ((Below.refl _ _).drew) (fun hHeld => ?_)
        refine wpAnyH_take (i := 0) (oi := { dst := some 22, op := Go.Op.load 24 (Go.Operand.tmp 5), type := 24, pos := "ref.go:165", after := #[], guard := none }) (v := .agg #[.int .i64 L, .slice a js.length ca]) rfl (by kernel_rfl) (by kernel_rfl) (by kernel_rfl) (fun _ _ _ h => h) (.inl ⟨by kernel_rfl, fun w9 h9 => by
          clear hHeld
          have d0 := (h9.cell (p := ⟨w.heap.size, 0, none⟩) hzp).trans p0
          have d1 := (h9.cell (p := ⟨w.heap.size, 1, none⟩) hzp).trans p1
          clear h9
          go_simp⟩) hHeld ?_
        refine takeU (i := 1) (some 23) (.int .i64 dir) (by kernel_rfl) (by kernel_rfl) (by kernel_rfl) (by kernel_rfl) (by kernel_rfl) (fun _ => by kernel_rfl) (fun _ _ _ h => h) hHeld ?_
        refine takeU (i := 2) (some 24) (.slice (some ⟨blk, off, none⟩) l.length cl) (by kernel_rfl) (by kernel_rfl) (by kernel_rfl) (by kernel_rfl) (by kernel_rfl) (fun _ => by kernel_rfl) (fun _ _ _ h => h) hHeld ?_
        refine takeU (i := 3) (some 25) (.int .i64 i) (by kernel_rfl) (by kernel_rfl) (by kernel_rfl) (by kernel_rfl) (by kernel_rfl) (fun _ => by kernel_rfl) (fun _ _ _ h => h) hHeld ?_
        refine wpAnyH_take (i := 4) (oi := { dst := some 26, op := Go.Op.indexAddr 25 (Go.Operand.tmp 24) (Go.Operand.tmp 25), type := 0, pos := "ref.go:165", after := #[{ on := 2, ground := Go.Ground.data }, { on := 3, ground := Go.Ground.data }], guard := none }) (v := .pointer (some ⟨blk, off + i * 9, none⟩)) rfl (by kernel_rfl) (by kernel_rfl) (by kernel_rfl) (fun _ _ _ h => h) (.inl ⟨by kernel_rfl, fun w9 h9 => by
          clear hHeld h9
          go_simp⟩) hHeld ?_
        refine takeU (i := 5) (some 27) (.pointer (some ⟨blk, off + i * 9 + 3, none⟩)) (by kernel_rfl) (by kernel_rfl) (by kernel_rfl) (by kernel_rfl) (by kernel_rfl) (fun _ => by kernel_rfl) (fun _ _ _ h => h) hHeld ?_
        refine wpAnyH_take (i := 6) (oi := { dst := some 28, op := Go.Op.load 3 (Go.Operand.tmp 27), type := 3, pos := "ref.go:165", after := #[{ on := 5, ground := Go.Ground.data }], guard := none }) (v := .int .i64 x.c) rfl (by kernel_rfl) (by kernel_rfl) (by kernel_rfl) (fun _ _ _ h => h) (.inl ⟨by kernel_rfl, fun w9 h9 => by
          clear hHeld
          have d0 := (h9.cell (p := ⟨blk, off + i * 9 + 3, none⟩) hzc).trans c3
          clear h9
          go_simp⟩) hHeld ?_
        refine takeU (i := 8) (some 30) (.int .i64 k) (by kernel_rfl) (by kernel_rfl) (by kernel_rfl) (by kernel_rfl) (by kernel_rfl) (fun _ => by kernel_rfl) (fun _ _ _ h => h) hHeld ?_
        try simp only [Act.put, List.setIfInBounds_toArray, List.set_cons_zero, List.set_cons_succ]
        refine wpAnyH_ready (rs := [7]) (by kernel_rfl) (by simp) ?_
        refine AllReadyH.cons (o := { dst := some 29, op := Go.Op.call { callee := Go.Callee.value (Go.Operand.func 42), args := #[Go.Operand.tmp 22, Go.Operand.tmp 23, Go.Operand.tmp 28], argTypes := #[24, 3, 3] }, type := 3, pos := "ref.go:165", after := #[{ on := 0, ground := Go.Ground.data }, { on := 1, ground := Go.Ground.data }, { on := 6, ground := Go.Ground.data }], guard := none }) rfl (fun K hK => ?_) AllReadyH.nil
        go_simp
        go_at_call 42
        refine (HD.out _).mono ?_
        rintro e w79 ⟨rfl, hb79⟩
        refine hK.out _ _ (hHeld.trans (hb79.mono hHeld.size)) (fun hHeld => ?_)
        clear hK K hb79
        try simp only [Act.put, List.setIfInBounds_toArray, List.set_cons_zero, List.set_cons_succ]
        refine wpAnyH_take (i := 9) (oi := { dst := some 31, op := Go.Op.binOp Go.BinOp.leq 3 (Go.Operand.tmp 29) (Go.Operand.tmp 30) 3, type := 4, pos := "ref.go:165", after := #[{ on := 7, ground := Go.Ground.data }, { on := 8, ground := Go.Ground.data }], guard := none }) (v := .bool false) rfl (by kernel_rfl) (by kernel_rfl) (by kernel_rfl) (fun _ _ _ h => h) (.inl ⟨by kernel_rfl, fun w9 h9 => by
          clear hHeld h9
          go_simp⟩) hHeld ?_
        refine takeU (i := 10) (some 32) (.bool false) (by kernel_rfl) (by kernel_rfl) (by kernel_rfl) (by kernel_rfl) (by kernel_rfl) (fun _ => by kernel_rfl) (fun _ _ _ h => h) hHeld ?_
        refine skipU (i := 11) (some 33) (by kernel_rfl) (by kernel_rfl) (by kernel_rfl) (by kernel_rfl) (by kernel_rfl) (fun _ _ _ h => h) hHeld ?_
        refine skipU (i := 12) (some 34) (by kernel_rfl) (by kernel_rfl) (by kernel_rfl) (by kernel_rfl) (by kernel_rfl) (fun _ _ _ h => h) hHeld ?_
        refine skipU (i := 13) (some 35) (by kernel_rfl) (by kernel_rfl) (by kernel_rfl) (by kernel_rfl) (by kernel_rfl) (fun _ _ _ h => h) hHeld ?_
        refine skipU (i := 14) (some 36) (by kernel_rfl) (by kernel_rfl) (by kernel_rfl) (by kernel_rfl) (by kernel_rfl) (fun _ _ _ h => h) hHeld ?_
        refine skipU (i := 15) (some 37) (by kernel_rfl) (by kernel_rfl) (by kernel_rfl) (by kernel_rfl) (by kernel_rfl) (fun _ _ _ h => h) hHeld ?_
        refine skipU (i := 16) (some 38) (by kernel_rfl) (by kernel_rfl) (by kernel_rfl) (by kernel_rfl) (by kernel_rfl) (fun _ _ _ h => h) hHeld ?_
        refine skipU (i := 17) (some 39) (by kernel_rfl) (by kernel_rfl) (by kernel_rfl) (by kernel_rfl) (by kernel_rfl) (fun _ _ _ h => h) hHeld ?_
        refine skipU (i := 18) (some 40) (by kernel_rfl) (by kernel_rfl) (by kernel_rfl) (by kernel_rfl) (by kernel_rfl) (fun _ _ _ h => h) hHeld ?_
        refine skipU (i := 19) (some 41) (by kernel_rfl) (by kernel_rfl) (by kernel_rfl) (by kernel_rfl) (by kernel_rfl) (fun _ _ _ h => h) hHeld ?_
        refine skipU (i := 20) (some 42) (by kernel_rfl) (by kernel_rfl) (by kernel_rfl) (by kernel_rfl) (by kernel_rfl) (fun _ _ _ h => h) hHeld ?_
        refine skipU (i := 21) (some 43) (by kernel_rfl) (by kernel_rfl) (by kernel_rfl) (by kernel_rfl) (by kernel_rfl) (fun _ _ _ h => h) hHeld ?_
        refine skipU (i := 22) (some 44) (by kernel_rfl) (by kernel_rfl) (by kernel_rfl) (by kernel_rfl) (by kernel_rfl) (fun _ _ _ h => h) hHeld ?_
        refine skipU (i := 23) (some 45) (by kernel_rfl) (by kernel_rfl) (by kernel_rfl) (by kernel_rfl) (by kernel_rfl) (fun _ _ _ h => h) hHeld ?_
        refine skipU (i := 24) (some 46) (by kernel_rfl) (by kernel_rfl) (by kernel_rfl) (by kernel_rfl) (by kernel_rfl) (fun _ _ _ h => h) hHeld ?_
        refine skipU (i := 25) (some 47) (by kernel_rfl) (by kernel_rfl) (by kernel_rfl) (by kernel_rfl) (by kernel_rfl) (fun _ _ _ h => h) hHeld ?_
        refine takeU (i := 26) (some 48) (.bool false) (by kernel_rfl) (by kernel_rfl) (by kernel_rfl) (by kernel_rfl) (by kernel_rfl) (fun _ => by kernel_rfl) (fun _ _ _ h => h) hHeld ?_
        refine wpAnyH_done (by kernel_rfl) ?_ _
        try simp only [Act.put, List.setIfInBounds_toArray, List.set_cons_zero, List.set_cons_succ]
        go_wp2_with fail
        go_roundw
        case rel => exact ⟨i + 1, by omega, by go_num, by rw [HLYe.out, HV2.out], hbr.trans (hHeld.mono hbr.size)⟩
        case measure => simp [intOf]; omega
    · obtain rfl : i = l.length := by omega
      rcases HLc.out l.length with ⟨hx, hno⟩ | ⟨x, hxl, hx, hrx, hla⟩
      · have hv := HNone.out hno
        have HVv := Lib.hid hv
        rw [hx]
        clear hx hno hv HLc HR HAd HC HJ HA HNone HLast HJc HJa HRel HT
        go_wp2_with fail
        go_ret
        exact ⟨by rw [HVv.out] <;> rfl, hbw⟩
      · have hv := HLast.out x hxl hrx hla
        have HVv := Lib.hid hv
        rw [hx]
        obtain rfl := HAd.out (by omega)
        obtain ⟨⟨c0, c1, c2, c3, c4, c5, c6, c7⟩, c8, hP⟩ := HR.out x hxl
        have hcx := (HC.out x hxl).1
        have HPl := Lib.hid (fun W (hW : Below w.heap.size w W) => refPlated_r (some ⟨blk, off, none⟩) l cl x hxl hn W (HA.out.below hW))
        have HNx : Hid (x + 1 < l.length → w.cell? ⟨blk, off + (x + 1) * 9 + 2, none⟩ = some (.int .i64 (gs l (x + 1)).v)) := Lib.hid fun h => (HR.out (x + 1) h).1.2.2.1
        have HNv : Hid (x + 1 < l.length → 0 ≤ (gs l (x + 1)).v ∧ (gs l (x + 1)).v ≤ 100000) := Lib.hid fun h => (HC.out (x + 1) h).2
        have HPd : Hid (plB l x = true → x + 1 < l.length) := Lib.hid fun h => by
          unfold plB at h
          rw [Bool.and_eq_true, decide_eq_true_eq] at h
          exact h.1
        have c0 := cell_below c0 hbw
        have c1 := cell_below c1 hbw
        have c2 := cell_below c2 hbw
        have c3 := cell_below c3 hbw
        have c4 := cell_below c4 hbw
        have c5 := cell_below c5 hbw
        have c6 := cell_below c6 hbw
        have c7 := cell_below c7 hbw
        have c8 := cell_below c8 hbw
        have HD := Lib.hid (fun W => refDistance_r L a js.length ca dir (gs l x).c hL1 hL2 (by omega) (by omega) W)
        have HS := Lib.hid (fun W => refStart_r (gs l x) (ad x) (cp x) t HT.out W)
        have HE := Lib.hid (fun W => refEnd_r (gs l x) (ad x) (cp x) t HT.out W)
        have hDb := dst_bound (L := L) (dir := dir) (c := (gs l x).c) hL1 hL2 hcx.1 hcx.2
        have HJt : Hid (∀ j : Nat, j < js.length → (decide (dstK L dir (gs l x).c < dstK L dir (gi js j)) && decide (dstK L dir (gi js j) ≤ k)) = true → jctB L js dir (dstK L dir (gs l x).c) k = true) := Lib.hid fun j hj h => by unfold jctB; exact anyK_true h _ hj
        have HJf : Hid ((∀ j : Nat, j < js.length → (decide (dstK L dir (gs l x).c < dstK L dir (gi js j)) && decide (dstK L dir (gi js j) ≤ k)) = false) → jctB L js dir (dstK L dir (gs l x).c) k = false) := Lib.hid fun h => (anyK_iff _).2 h
        clear hx hrx hla hv HLc HR HAd HC HA HNone HLast HRel HT hP hcx
        generalize ad x = adx at *
        generalize cp x = cpx at *
        generalize strR (gs l x).k (gs l x).v t = S at *
        generalize dstK L dir (gs l x).c = D at *
        generalize jctB L js dir D k = jt at *
        obtain ⟨eb, heb⟩ : ∃ eb, endB (gs l x).k t = eb := ⟨_, rfl⟩
        rw [heb] at HE HVv
        clear heb
        obtain ⟨s, hs⟩ : ∃ s, gs l x = s := ⟨_, rfl⟩
        rw [hs] at HS HE HD c0 c1 c2 c3 c4 c5 c6 c7 c8
        clear hs
        have g1 : (x : Int) < (l.length : Int) := by omega
        have g2 : ¬ ((x : Int) < 0) := by omega
        cases eb with
        | true =>
          rw [if_pos rfl] at HVv
          clear HJt HJf HNx HNv HPd HPl HS HD
          go_wp2_with (go_at_call 118; refine (HE.out _).mono ?_; rintro e w9 ⟨rfl, hb9⟩)
          go_ret
          exact ⟨by rw [HVv.out] <;> rfl, hbw.trans (hb9.mono hbw.size)⟩
        | false =>
          rw [if_neg (by decide)] at HVv
          go_wp2_with (go_at_call 118; refine (HE.out _).mono ?_; rintro e w9 ⟨rfl, hb9⟩)
          obtain ⟨wr2, rfl⟩ : ∃ wr2 : World, wr2 = w9 := ⟨_, rfl⟩
          have hbw2 := hbw.trans (hb9.mono hbw.size)
          replace p0 := cell_below p0 hb9
          replace p1 := cell_below p1 hb9
          replace c0 := cell_below c0 hb9
          replace c1 := cell_below c1 hb9
          replace c2 := cell_below c2 hb9
          replace c3 := cell_below c3 hb9
          replace c4 := cell_below c4 hb9
          replace c5 := cell_below c5 hb9
          replace c6 := cell_below c6 hb9
          replace c7 := cell_below c7 hb9
          replace c8 := cell_below c8 hb9
          clear hb9 hbw hbr HE
          have hzp := block_lt p0
          have hzc := block_lt c0
          obtain ⟨wr, rfl⟩ : ∃ wr : World, wr = wr2 := ⟨_, rfl⟩
          refine wp_region_held_drew (S := fun w' => Below wr.heap.size wr w') (by kernel_rfl) ((Below.refl _ _).drew) (fun hHeld => ?_)
          refine wpAnyH_take (i := 0) (oi := { dst := some 60, op := Go.Op.load 24 (Go.Operand.tmp 5), type := 24, pos := "ref.go:172", after := #[], guard := none }) (v := .agg #[.int .i64 L, .slice a js.length ca]) rfl (by kernel_rfl) (by kernel_rfl) (by kernel_rfl) (fun _ _ _ h => h) (.inl ⟨by kernel_rfl, fun w9 h9 => by
            clear hHeld
            have d0 := (h9.cell (p := ⟨w.heap.size, 0, none⟩) hzp).trans p0
            have d1 := (h9.cell (p := ⟨w.heap.size, 1, none⟩) hzp).trans p1
            clear h9
            go_simp⟩) hHeld ?_
          refine takeU (i := 1) (some 61) (.int .i64 dir) (by kernel_rfl) (by kernel_rfl) (by kernel_rfl) (by kernel_rfl) (by kernel_rfl) (fun _ => by kernel_rfl) (fun _ _ _ h => h) hHeld ?_
          refine takeU (i := 2) (some 62) (.slice (some ⟨blk, off, none⟩) l.length cl) (by kernel_rfl) (by kernel_rfl) (by kernel_rfl) (by kernel_rfl) (by kernel_rfl) (fun _ => by kernel_rfl) (fun _ _ _ h => h) hHeld ?_
          refine takeU (i := 3) (some 63) (.int .i64 x) (by kernel_rfl) (by kernel_rfl) (by kernel_rfl) (by kernel_rfl) (by kernel_rfl) (fun _ => by kernel_rfl) (fun _ _ _ h => h) hHeld ?_
          refine wpAnyH_take (i := 4) (oi := { dst := some 64, op := Go.Op.indexAddr 25 (Go.Operand.tmp 62) (Go.Operand.tmp 63), type := 0, pos := "ref.go:172", after := #[{ on := 2, ground := Go.Ground.data }, { on := 3, ground := Go.Ground.data }], guard := none }) (v := .pointer (some ⟨blk, off + x * 9, none⟩)) rfl (by kernel_rfl) (by kernel_rfl) (by kernel_rfl) (fun _ _ _ h => h) (.inl ⟨by kernel_rfl, fun w9 h9 => by
            clear hHeld h9
            go_simp⟩) hHeld ?_
          refine takeU (i := 5) (some 65) (.pointer (some ⟨blk, off + x * 9 + 3, none⟩)) (by kernel_rfl) (by kernel_rfl) (by kernel_rfl) (by kernel_rfl) (by kernel_rfl) (fun _ => by kernel_rfl) (fun _ _ _ h => h) hHeld ?_
          refine wpAnyH_take (i := 6) (oi := { dst := some 66, op := Go.Op.load 3 (Go.Operand.tmp 65), type := 3, pos := "ref.go:172", after := #[{ on := 5, ground := Go.Ground.data }], guard := none }) (v := .int .i64 s.c) rfl (by kernel_rfl) (by kernel_rfl) (by kernel_rfl) (fun _ _ _ h => h) (.inl ⟨by kernel_rfl, fun w9 h9 => by
            clear hHeld
            have d0 := (h9.cell (p := ⟨blk, off + x * 9 + 3, none⟩) hzc).trans c3
            clear h9
            go_simp⟩) hHeld ?_
          try simp only [Act.put, List.setIfInBounds_toArray, List.set_cons_zero, List.set_cons_succ]
          refine wpAnyH_ready (rs := [7]) (by kernel_rfl) (by simp) ?_
          refine AllReadyH.cons (o := { dst := some 67, op := Go.Op.call { callee := Go.Callee.value (Go.Operand.func 42), args := #[Go.Operand.tmp 60, Go.Operand.tmp 61, Go.Operand.tmp 66], argTypes := #[24, 3, 3] }, type := 3, pos := "ref.go:172", after := #[{ on := 0, ground := Go.Ground.data }, { on := 1, ground := Go.Ground.data }, { on := 6, ground := Go.Ground.data }], guard := none }) rfl (fun K hK => ?_) AllReadyH.nil
          go_simp
          go_at_call 42
          refine (HD.out _).mono ?_
          rintro e w79 ⟨rfl, hb79⟩
          refine hK.out _ _ (hHeld.trans (hb79.mono hHeld.size)) (fun hHeld => ?_)
          clear hK K hb79
          try simp only [Act.put, List.setIfInBounds_toArray, List.set_cons_zero, List.set_cons_succ]
          refine takeU (i := 8) (some 13) (.int .i64 D) (by kernel_rfl) (by kernel_rfl) (by kernel_rfl) (by kernel_rfl) (by kernel_rfl) (fun _ => by kernel_rfl) (fun _ _ _ h => h) hHeld ?_
          refine wpAnyH_done (by kernel_rfl) ?_ _
          try simp only [Act.put, List.setIfInBounds_toArray, List.set_cons_zero, List.set_cons_succ]
          have hbw := hbw2.trans (hHeld.mono hbw2.size)
          replace p0 := cell_below p0 hHeld
          replace p1 := cell_below p1 hHeld
          replace c0 := cell_below c0 hHeld
          replace c1 := cell_below c1 hHeld
          replace c2 := cell_below c2 hHeld
          replace c3 := cell_below c3 hHeld
          replace c4 := cell_below c4 hHeld
          replace c5 := cell_below c5 hHeld
          replace c6 := cell_below c6 hHeld
          replace c7 := cell_below c7 hHeld
          replace c8 := cell_below c8 hHeld
          clear HD hHeld hbw2
          have P0 := Lib.hid p0
          have P1 := Lib.hid p1
          have C0 := Lib.hid c0
          have C1 := Lib.hid c1
          have C2 := Lib.hid c2
          have C3 := Lib.hid c3
          have C4 := Lib.hid c4
          have C5 := Lib.hid c5
          have C6 := Lib.hid c6
          have C7 := Lib.hid c7
          have C8 := Lib.hid c8
          have HBW := Lib.hid hbw
          clear p0 p1 c0 c1 c2 c3 c4 c5 c6 c7 c8 hbw hzp hzc
          go_wp2_with fail
          go_loopw [14] (fun j9 wq => ∃ j : Nat, j ≤ js.length ∧ j9 = .int .i64 j ∧ Hid (∀ m : Nat, m < j → (decide (D < dstK L dir (gi js m)) && decide (dstK L dir (gi js m) ≤ k)) = false) ∧ Below w79.heap.size w79 wq) (fun j9 _ => js.length - (intOf j9).toNat)
          case atStart => exact ⟨0, Nat.zero_le _, rfl, Lib.hid (fun m hm => absurd hm (Nat.not_lt_zero m)), Below.refl _ _⟩
          case round =>
            obtain ⟨j, hj, rfl, HAll, hbq⟩ := hrel
            have hbw := HBW.out.trans (hbq.mono HBW.out.size)
            obtain ⟨wr, rfl⟩ : ∃ wr2 : World, wr2 = wr := ⟨_, rfl⟩
            have p0 := cell_below P0.out hbq
            have p1 := cell_below P1.out hbq
            have hzp := block_lt p0
            by_cases hjt : j < js.length
            · obtain rfl := HJa.out (by omega)
              have cz := cell_below (HJc.out j hjt) hbw
              have hzj := block_lt cz
              have hJj := HJ.out j hjt
              have HDj := Lib.hid (fun W => refDistance_r L (some ⟨jb, jo, none⟩) js.length ca dir (gi js j) hL1 hL2 (by omega) (by omega) W)
              have HJt1 := HJt.out j hjt
              have HNext : Hid ((decide (D < dstK L dir (gi js j)) && decide (dstK L dir (gi js j) ≤ k)) = false → ∀ m : Nat, m < j + 1 → (decide (D < dstK L dir (gi js m)) && decide (dstK L dir (gi js m) ≤ k)) = false) := Lib.hid fun h m hm => by
                by_cases e : m = j
                · rw [e]; exact h
                · exact HAll.out m (by omega)
              have HJt2 := Lib.hid HJt1
              clear HJt1 HJt HJf HJa HJc HJ HAll hJj HNx HNv HPd HPl HS
              generalize dstK L dir (gi js j) = DJ at HDj HNext HJt2
              generalize gi js j = J at *
              have g3 : (j : Int) < (js.length : Int) := by omega
              go_wp2_with fail
              refine wp_region_held_drew (S := fun w' => Below wr.heap.size wr w') (by kernel_rfl) ((Below.refl _ _).drew) (fun hHeld => ?_)
              refine wpAnyH_take (i := 0) (oi := { dst := some 75, op := Go.Op.load 24 (Go.Operand.tmp 5), type := 24, pos := "ref.go:174", after := #[], guard := none }) (v := .agg #[.int .i64 L, .slice (some ⟨jb, jo, none⟩) js.length ca]) rfl (by kernel_rfl) (by kernel_rfl) (by kernel_rfl) (fun _ _ _ h => h) (.inl ⟨by kernel_rfl, fun w9 h9 => by
                clear hHeld
                have d0 := (h9.cell (p := ⟨w.heap.size, 0, none⟩) hzp).trans p0
                have d1 := (h9.cell (p := ⟨w.heap.size, 1, none⟩) hzp).trans p1
                clear h9
                go_simp⟩) hHeld ?_
              refine takeU (i := 1) (some 76) (.int .i64 dir) (by kernel_rfl) (by kernel_rfl) (by kernel_rfl) (by kernel_rfl) (by kernel_rfl) (fun _ => by kernel_rfl) (fun _ _ _ h => h) hHeld ?_
              refine takeU (i := 2) (some 77) (.pointer (some ⟨w.heap.size, 1, none⟩)) (by kernel_rfl) (by kernel_rfl) (by kernel_rfl) (by kernel_rfl) (by kernel_rfl) (fun _ => by kernel_rfl) (fun _ _ _ h => h) hHeld ?_
              refine wpAnyH_take (i := 3) (oi := { dst := some 78, op := Go.Op.load 22 (Go.Operand.tmp 77), type := 22, pos := "ref.go:174", after := #[{ on := 2, ground := Go.Ground.data }], guard := none }) (v := .slice (some ⟨jb, jo, none⟩) js.length ca) rfl (by kernel_rfl) (by kernel_rfl) (by kernel_rfl) (fun _ _ _ h => h) (.inl ⟨by kernel_rfl, fun w9 h9 => by
                clear hHeld
                have d0 := (h9.cell (p := ⟨w.heap.size, 1, none⟩) hzp).trans p1
                clear h9
                go_simp⟩) hHeld ?_
              refine takeU (i := 4) (some 79) (.int .i64 j) (by kernel_rfl) (by kernel_rfl) (by kernel_rfl) (by kernel_rfl) (by kernel_rfl) (fun _ => by kernel_rfl) (fun _ _ _ h => h) hHeld ?_
              refine wpAnyH_take (i := 5) (oi := { dst := some 80, op := Go.Op.indexAddr 22 (Go.Operand.tmp 78) (Go.Operand.tmp 79), type := 0, pos := "ref.go:174", after := #[{ on := 3, ground := Go.Ground.data }, { on := 4, ground := Go.Ground.data }], guard := none }) (v := .pointer (some ⟨jb, jo + j, none⟩)) rfl (by kernel_rfl) (by kernel_rfl) (by kernel_rfl) (fun _ _ _ h => h) (.inl ⟨by kernel_rfl, fun w9 h9 => by
                clear hHeld h9
                go_simp⟩) hHeld ?_
              refine wpAnyH_take (i := 6) (oi := { dst := some 81, op := Go.Op.load 3 (Go.Operand.tmp 80), type := 3, pos := "ref.go:174", after := #[{ on := 5, ground := Go.Ground.data }], guard := none }) (v := .int .i64 J) rfl (by kernel_rfl) (by kernel_rfl) (by kernel_rfl) (fun _ _ _ h => h) (.inl ⟨by kernel_rfl, fun w9 h9 => by
                clear hHeld
                have d0 := (h9.cell (p := ⟨jb, jo + j, none⟩) hzj).trans cz
                clear h9
                go_simp⟩) hHeld ?_
              try simp only [Act.put, List.setIfInBounds_toArray, List.set_cons_zero, List.set_cons_succ]
              refine wpAnyH_ready (rs := [7]) (by kernel_rfl) (by simp) ?_
              refine AllReadyH.cons (o := { dst := some 82, op := Go.Op.call { callee := Go.Callee.value (Go.Operand.func 42), args := #[Go.Operand.tmp 75, Go.Operand.tmp 76, Go.Operand.tmp 81], argTypes := #[24, 3, 3] }, type := 3, pos := "ref.go:174", after := #[{ on := 0, ground := Go.Ground.data }, { on := 1, ground := Go.Ground.data }, { on := 6, ground := Go.Ground.data }], guard := none }) rfl (fun K hK => ?_) AllReadyH.nil
              go_simp
              go_at_call 42
              refine (HDj.out _).mono ?_
              rintro e w79 ⟨rfl, hb79⟩
              refine hK.out _ _ (hHeld.trans (hb79.mono hHeld.size)) (fun hHeld => ?_)
              clear hK K hb79
              try simp only [Act.put, List.setIfInBounds_toArray, List.set_cons_zero, List.set_cons_succ]
              refine takeU (i := 8) (some 15) (.int .i64 DJ) (by kernel_rfl) (by kernel_rfl) (by kernel_rfl) (by kernel_rfl) (by kernel_rfl) (fun _ => by kernel_rfl) (fun _ _ _ h => h) hHeld ?_
              refine wpAnyH_done (by kernel_rfl) ?_ _
              try simp only [Act.put, List.setIfInBounds_toArray, List.set_cons_zero, List.set_cons_succ]
              have hbe := hbq.trans (hHeld.mono hbq.size)
              by_cases h1 : D < DJ
              · have d1 : decide (D < DJ) = true := decide_eq_true h1
                by_cases h2 : DJ ≤ k
                · have d2 : decide (DJ ≤ k) = true := decide_eq_true h2
                  have hjt1 := HJt2.out (by rw [d1, d2]; rfl)
                  rw [hjt1, if_pos rfl] at HVv
                  clear HNext HJt2 hjt1
                  go_wp2_with fail
                  go_ret
                  exact ⟨by rw [HVv.out] <;> rfl, HBW.out.trans (hbe.mono HBW.out.size)⟩
                · have d2 : decide (DJ ≤ k) = false := decide_eq_false h2
                  have HNx2 := Lib.hid (HNext.out (by rw [d1, d2]; rfl))
                  clear HNext HJt2
                  go_wp2_with fail
                  go_roundw
                  case rel => exact ⟨j + 1, by omega, by go_num, HNx2, hbe⟩
                  case measure => simp [intOf]; omega
              · have d1 : decide (D < DJ) = false := decide_eq_false h1
                have HNx2 := Lib.hid (HNext.out (by rw [d1]; rfl))
                clear HNext HJt2
                go_wp2_with fail
                go_roundw
                case rel => exact ⟨j + 1, by omega, by go_num, HNx2, hbe⟩
                case measure => simp [intOf]; omega
            · obtain rfl : j = js.length := by omega
              have hjf := HJf.out HAll.out
              rw [hjf, if_neg (by decide)] at HVv
              clear hjf HJf HJt HAll HJa HJc HJ
              have HPw := Lib.hid (HPl.out _ hbw)
              have hnx : Hid (x + 1 < l.length → wr.cell? ⟨blk, off + (x + 1) * 9 + 2, none⟩ = some (.int .i64 (gs l (x + 1)).v)) := Lib.hid fun h => cell_below (HNx.out h) hbw
              have c0 := cell_below C0.out hbq
              have c1 := cell_below C1.out hbq
              have c2 := cell_below C2.out hbq
              have c3 := cell_below C3.out hbq
              have c4 := cell_below C4.out hbq
              have c5 := cell_below C5.out hbq
              have c6 := cell_below C6.out hbq
              have c7 := cell_below C7.out hbq
              have c8 := cell_below C8.out hbq
              clear HNx HPl hbq
              generalize (gs l (x + 1)).v = nv at *
              cases hp : plB l x with
              | false =>
                rw [hp] at HPw HVv
                rw [Bool.false_and, if_neg (by decide)] at HVv
                clear hp HNv HPd hnx
                go_wp2_with (first | (go_at_call 119; refine HPw.out.mono ?_; rintro e w8 ⟨rfl, hb8⟩; replace c0 := cell_below c0 hb8; replace c1 := cell_below c1 hb8; replace c2 := cell_below c2 hb8; replace c3 := cell_below c3 hb8; replace c4 := cell_below c4 hb8; replace c5 := cell_below c5 hb8; replace c6 := cell_below c6 hb8; replace c7 := cell_below c7 hb8; replace c8 := cell_below c8 hb8; have HB8 := Lib.hid (hbw.trans (hb8.mono hbw.size)); clear hb8) | (go_at_call 117; refine (HS.out _).mono ?_; rintro e w9 ⟨rfl, hb9⟩))
                go_ret
                exact ⟨by rw [HVv.out] <;> rfl, HB8.out.trans (hb9.mono HB8.out.size)⟩
              | true =>
                have hx1 := HPd.out hp
                have cn := hnx.out hx1
                have hnv := HNv.out hx1
                rw [hp] at HPw HVv
                rw [Bool.true_and] at HVv
                clear hp HNv HPd hnx
                have g5 : (x : Int) + 1 < (l.length : Int) := by omega
                by_cases h4 : nv ≤ k - D
                · have d4 : decide (nv ≤ k - D) = true := decide_eq_true h4
                  rw [d4, if_pos rfl] at HVv
                  go_wp2_with (first | (go_at_call 119; refine HPw.out.mono ?_; rintro e w8 ⟨rfl, hb8⟩; replace c0 := cell_below c0 hb8; replace c1 := cell_below c1 hb8; replace c2 := cell_below c2 hb8; replace c3 := cell_below c3 hb8; replace c4 := cell_below c4 hb8; replace c5 := cell_below c5 hb8; replace c6 := cell_below c6 hb8; replace c7 := cell_below c7 hb8; replace c8 := cell_below c8 hb8; replace cn := cell_below cn hb8; have HB8 := Lib.hid (hbw.trans (hb8.mono hbw.size)); clear hb8) | (go_at_call 117; refine (HS.out _).mono ?_; rintro e w9 ⟨rfl, hb9⟩))
                  go_ret
                  exact ⟨by rw [HVv.out] <;> rfl, HB8.out⟩
                · have d4 : decide (nv ≤ k - D) = false := decide_eq_false h4
                  rw [d4, if_neg (by decide)] at HVv
                  go_wp2_with (first | (go_at_call 119; refine HPw.out.mono ?_; rintro e w8 ⟨rfl, hb8⟩; replace c0 := cell_below c0 hb8; replace c1 := cell_below c1 hb8; replace c2 := cell_below c2 hb8; replace c3 := cell_below c3 hb8; replace c4 := cell_below c4 hb8; replace c5 := cell_below c5 hb8; replace c6 := cell_below c6 hb8; replace c7 := cell_below c7 hb8; replace c8 := cell_below c8 hb8; replace cn := cell_below cn hb8; have HB8 := Lib.hid (hbw.trans (hb8.mono hbw.size)); clear hb8) | (go_at_call 117; refine (HS.out _).mono ?_; rintro e w9 ⟨rfl, hb9⟩))
                  go_ret
                  exact ⟨by rw [HVv.out] <;> rfl, HB8.out.trans (hb9.mono HB8.out.size)⟩
end Go.Proofs.YtlpdjinhkmgbgaaGreatDoor

namespace Go.Proofs.YtlpdjinhkmgbgaaGreatDoor
set_option linter.unusedVariables false
set_option linter.unusedSimpArgs false
open Go.RowKit

set_option maxRecDepth 100000 in
set_option maxHeartbeats 1000000 in
theorem isMetre_r (L : Int) (a : Option Addr) (n ca : Nat) (m : Int) (hL1 : 0 ≤ L) (hL2 : L ≤ 100000) (w : World) :
    Calls Tryz.prog 48 #[.agg #[.int .i64 L, .slice a n ca], .int .i64 m] w fun e w' => e = .returned (.bool (btw m 0 (L - 1))) ∧ Below w.heap.size w w' := by
  have HW := Lib.hid (fun W => within_r 0 (L - 1) m W)
  generalize btw m 0 (L - 1) = bb at *
  go_enter Tryz.func48, Tryz.ntmps48
  go_wp2_with (go_at_call 69; refine (HW.out _).mono ?_; rintro e w1 ⟨rfl, rfl⟩)
  go_ret
  exact ⟨rfl, (Below.refl _ _).alloc (Nat.le_refl _) _⟩
theorem sg_nil (w : World) : SgnS w none [] := ⟨by decide, 0, 0, fun _ => none, fun _ => 0, fun h => (h rfl).elim, fun i hi => absurd hi (Nat.not_lt_zero i)⟩
set_option maxRecDepth 100000 in
set_option maxHeartbeats 1000000 in
theorem Holds_bad (L : Int) (a : Option Addr) (js : List Int) (ca : Nat) (aa : Option Addr) (l : List Sgn) (cl : Nat) (h dir tp m : Int) (hV : lstE L js l [] ≠ 0) (w : World) (hI : IntsS w a js) (hA : SgnS w aa l) :
    Calls Tryz.prog 21 #[.agg #[.int .i64 L, .slice a js.length ca], .slice aa l.length cl, .int .i64 h, .int .i64 dir, .int .i64 tp, .int .i64 m] w fun e w' => e = .returned (.tuple #[.int .i64 0, .int .i64 (lstE L js l [])]) ∧ Below w.heap.size w w' := by
  have H1 := Lib.hid (fun W (hW : Below w.heap.size w W) => listsError_r L a js ca aa l cl none [] 0 W (hI.below hW) (hA.below hW) (ed_nilR W))
  clear hI hA
  generalize lstE L js l [] = E at *
  have d1 : (E != 0) = true := by simp [hV]
  clear hV
  go_enter Tryz.func21, Tryz.ntmps21
  go_wp2_with fail
  obtain ⟨wB, hwB⟩ : ∃ wB, w.alloc (.cells #[.int .i64 L, .slice a js.length ca] 24) = wB := ⟨_, rfl⟩
  have hb : Below w.heap.size w wB := by rw [← hwB]; exact (Below.refl _ _).alloc (Nat.le_refl _) _
  have l0 : wB.cell? ⟨w.heap.size, 0, none⟩ = some (.int .i64 L) := by rw [← hwB]; simp [go_sem]
  have l1 : wB.cell? ⟨w.heap.size, 1, none⟩ = some (.slice a js.length ca) := by rw [← hwB]; simp [go_sem]
  rw [hwB]
  clear hwB
  go_wp2_with (go_at_call 27; refine (H1.out _ hb).mono ?_; rintro e w1 ⟨rfl, hb1⟩)
  go_ret2
  exact ⟨rfl, hb.trans (hb1.mono hb.size)⟩
set_option maxRecDepth 100000 in
set_option maxHeartbeats 1000000 in
theorem Holds_arg (L : Int) (a : Option Addr) (js : List Int) (ca : Nat) (aa : Option Addr) (l : List Sgn) (cl : Nat) (h dir tp m : Int) (hV : lstE L js l [] = 0) (hx : ((btw h 0 10000000) && (dirB dir) && (topB tp) && (btw m 0 (L - 1))) = false) (w : World) (hI : IntsS w a js) (hA : SgnS w aa l) :
    Calls Tryz.prog 21 #[.agg #[.int .i64 L, .slice a js.length ca], .slice aa l.length cl, .int .i64 h, .int .i64 dir, .int .i64 tp, .int .i64 m] w fun e w' => e = .returned (.tuple #[.int .i64 0, .int .i64 2]) ∧ Below w.heap.size w w' := by
  have hLb := (lst_good hV).1
  have H1 := Lib.hid (fun W (hW : Below w.heap.size w W) => by
    have := listsError_r L a js ca aa l cl none [] 0 W (hI.below hW) (hA.below hW) (ed_nilR W)
    rw [hV] at this
    exact this)
  have K0 := Lib.hid (fun W => isHour_r h W)
  have K1 := Lib.hid (fun W => isDir_r dir W)
  have K2 := Lib.hid (fun W => isTopic_r tp W)
  have K3 := Lib.hid (fun W => isMetre_r L a js.length ca m hLb.1 hLb.2 W)
  clear hI hA hV hLb
  generalize btw h 0 10000000 = b0 at *
  generalize dirB dir = b1 at *
  generalize topB tp = b2 at *
  generalize btw m 0 (L - 1) = b3 at *
  cases b0 with
  | false =>
    clear hx
    go_enter Tryz.func21, Tryz.ntmps21
    go_wp2_with fail
    obtain ⟨wB, hwB⟩ : ∃ wB, w.alloc (.cells #[.int .i64 L, .slice a js.length ca] 24) = wB := ⟨_, rfl⟩
    have hb : Below w.heap.size w wB := by rw [← hwB]; exact (Below.refl _ _).alloc (Nat.le_refl _) _
    have l0 : wB.cell? ⟨w.heap.size, 0, none⟩ = some (.int .i64 L) := by rw [← hwB]; simp [go_sem]
    have l1 : wB.cell? ⟨w.heap.size, 1, none⟩ = some (.slice a js.length ca) := by rw [← hwB]; simp [go_sem]
    rw [hwB]
    clear hwB
    go_wp2_with (first | (go_at_call 27; refine (H1.out _ hb).mono ?_; rintro e w1 ⟨rfl, hb1⟩; replace hb := hb.trans (hb1.mono hb.size); replace l0 := cell_below l0 hb1; replace l1 := cell_below l1 hb1; clear hb1) | (go_at_call 28; refine (K0.out _).mono ?_; rintro e w2 ⟨rfl, rfl⟩) | (go_at_call 45; refine (K1.out _).mono ?_; rintro e w2 ⟨rfl, rfl⟩) | (go_at_call 46; refine (K2.out _).mono ?_; rintro e w2 ⟨rfl, rfl⟩) | (go_at_call 48; refine (K3.out _).mono ?_; rintro e w2 ⟨rfl, hb2⟩; replace hb := hb.trans (hb2.mono hb.size); replace l0 := cell_below l0 hb2; replace l1 := cell_below l1 hb2; clear hb2))
    go_ret2
    exact ⟨rfl, hb⟩
  | true =>
    cases b1 with
    | false =>
      clear hx
      go_enter Tryz.func21, Tryz.ntmps21
      go_wp2_with fail
      obtain ⟨wB, hwB⟩ : ∃ wB, w.alloc (.cells #[.int .i64 L, .slice a js.length ca] 24) = wB := ⟨_, rfl⟩
      have hb : Below w.heap.size w wB := by rw [← hwB]; exact (Below.refl _ _).alloc (Nat.le_refl _) _
      have l0 : wB.cell? ⟨w.heap.size, 0, none⟩ = some (.int .i64 L) := by rw [← hwB]; simp [go_sem]
      have l1 : wB.cell? ⟨w.heap.size, 1, none⟩ = some (.slice a js.length ca) := by rw [← hwB]; simp [go_sem]
      rw [hwB]
      clear hwB
      go_wp2_with (first | (go_at_call 27; refine (H1.out _ hb).mono ?_; rintro e w1 ⟨rfl, hb1⟩; replace hb := hb.trans (hb1.mono hb.size); replace l0 := cell_below l0 hb1; replace l1 := cell_below l1 hb1; clear hb1) | (go_at_call 28; refine (K0.out _).mono ?_; rintro e w2 ⟨rfl, rfl⟩) | (go_at_call 45; refine (K1.out _).mono ?_; rintro e w2 ⟨rfl, rfl⟩) | (go_at_call 46; refine (K2.out _).mono ?_; rintro e w2 ⟨rfl, rfl⟩) | (go_at_call 48; refine (K3.out _).mono ?_; rintro e w2 ⟨rfl, hb2⟩; replace hb := hb.trans (hb2.mono hb.size); replace l0 := cell_below l0 hb2; replace l1 := cell_below l1 hb2; clear hb2))
      go_ret2
      exact ⟨rfl, hb⟩
    | true =>
      cases b2 with
      | false =>
        clear hx
        go_enter Tryz.func21, Tryz.ntmps21
        go_wp2_with fail
        obtain ⟨wB, hwB⟩ : ∃ wB, w.alloc (.cells #[.int .i64 L, .slice a js.length ca] 24) = wB := ⟨_, rfl⟩
        have hb : Below w.heap.size w wB := by rw [← hwB]; exact (Below.refl _ _).alloc (Nat.le_refl _) _
        have l0 : wB.cell? ⟨w.heap.size, 0, none⟩ = some (.int .i64 L) := by rw [← hwB]; simp [go_sem]
        have l1 : wB.cell? ⟨w.heap.size, 1, none⟩ = some (.slice a js.length ca) := by rw [← hwB]; simp [go_sem]
        rw [hwB]
        clear hwB
        go_wp2_with (first | (go_at_call 27; refine (H1.out _ hb).mono ?_; rintro e w1 ⟨rfl, hb1⟩; replace hb := hb.trans (hb1.mono hb.size); replace l0 := cell_below l0 hb1; replace l1 := cell_below l1 hb1; clear hb1) | (go_at_call 28; refine (K0.out _).mono ?_; rintro e w2 ⟨rfl, rfl⟩) | (go_at_call 45; refine (K1.out _).mono ?_; rintro e w2 ⟨rfl, rfl⟩) | (go_at_call 46; refine (K2.out _).mono ?_; rintro e w2 ⟨rfl, rfl⟩) | (go_at_call 48; refine (K3.out _).mono ?_; rintro e w2 ⟨rfl, hb2⟩; replace hb := hb.trans (hb2.mono hb.size); replace l0 := cell_below l0 hb2; replace l1 := cell_below l1 hb2; clear hb2))
        go_ret2
        exact ⟨rfl, hb⟩
      | true =>
        cases b3 with
        | false =>
          clear hx
          go_enter Tryz.func21, Tryz.ntmps21
          go_wp2_with fail
          obtain ⟨wB, hwB⟩ : ∃ wB, w.alloc (.cells #[.int .i64 L, .slice a js.length ca] 24) = wB := ⟨_, rfl⟩
          have hb : Below w.heap.size w wB := by rw [← hwB]; exact (Below.refl _ _).alloc (Nat.le_refl _) _
          have l0 : wB.cell? ⟨w.heap.size, 0, none⟩ = some (.int .i64 L) := by rw [← hwB]; simp [go_sem]
          have l1 : wB.cell? ⟨w.heap.size, 1, none⟩ = some (.slice a js.length ca) := by rw [← hwB]; simp [go_sem]
          rw [hwB]
          clear hwB
          go_wp2_with (first | (go_at_call 27; refine (H1.out _ hb).mono ?_; rintro e w1 ⟨rfl, hb1⟩; replace hb := hb.trans (hb1.mono hb.size); replace l0 := cell_below l0 hb1; replace l1 := cell_below l1 hb1; clear hb1) | (go_at_call 28; refine (K0.out _).mono ?_; rintro e w2 ⟨rfl, rfl⟩) | (go_at_call 45; refine (K1.out _).mono ?_; rintro e w2 ⟨rfl, rfl⟩) | (go_at_call 46; refine (K2.out _).mono ?_; rintro e w2 ⟨rfl, rfl⟩) | (go_at_call 48; refine (K3.out _).mono ?_; rintro e w2 ⟨rfl, hb2⟩; replace hb := hb.trans (hb2.mono hb.size); replace l0 := cell_below l0 hb2; replace l1 := cell_below l1 hb2; clear hb2))
          go_ret2
          exact ⟨rfl, hb⟩
        | true =>
          cases hx
set_option maxRecDepth 100000 in
set_option maxHeartbeats 1000000 in
theorem Must_bad (L : Int) (a : Option Addr) (js : List Int) (ca : Nat) (ae : Option Addr) (q : List Edc) (cq : Nat) (h dir tp m : Int) (hV : lstE L js [] q ≠ 0) (w : World) (hI : IntsS w a js) (hE : EdS w ae q) :
    Calls Tryz.prog 22 #[.agg #[.int .i64 L, .slice a js.length ca], .slice ae q.length cq, .int .i64 h, .int .i64 dir, .int .i64 tp, .int .i64 m] w fun e w' => e = .returned (.tuple #[.int .i64 0, .int .i64 (lstE L js [] q)]) ∧ Below w.heap.size w w' := by
  have H1 := Lib.hid (fun W (hW : Below w.heap.size w W) => listsError_r L a js ca none [] 0 ae q cq W (hI.below hW) (sg_nil W) (hE.below hW))
  clear hI hE
  generalize lstE L js [] q = E at *
  have d1 : (E != 0) = true := by simp [hV]
  clear hV
  go_enter Tryz.func22, Tryz.ntmps22
  go_wp2_with fail
  obtain ⟨wB, hwB⟩ : ∃ wB, w.alloc (.cells #[.int .i64 L, .slice a js.length ca] 24) = wB := ⟨_, rfl⟩
  have hb : Below w.heap.size w wB := by rw [← hwB]; exact (Below.refl _ _).alloc (Nat.le_refl _) _
  have l0 : wB.cell? ⟨w.heap.size, 0, none⟩ = some (.int .i64 L) := by rw [← hwB]; simp [go_sem]
  have l1 : wB.cell? ⟨w.heap.size, 1, none⟩ = some (.slice a js.length ca) := by rw [← hwB]; simp [go_sem]
  rw [hwB]
  clear hwB
  go_wp2_with (go_at_call 27; refine (H1.out _ hb).mono ?_; rintro e w1 ⟨rfl, hb1⟩)
  go_ret2
  exact ⟨rfl, hb.trans (hb1.mono hb.size)⟩
set_option maxRecDepth 100000 in
set_option maxHeartbeats 1000000 in
theorem Must_arg (L : Int) (a : Option Addr) (js : List Int) (ca : Nat) (ae : Option Addr) (q : List Edc) (cq : Nat) (h dir tp m : Int) (hV : lstE L js [] q = 0) (hx : ((btw h 0 10000000) && (dirB dir) && (topB tp) && (btw m 0 (L - 1))) = false) (w : World) (hI : IntsS w a js) (hE : EdS w ae q) :
    Calls Tryz.prog 22 #[.agg #[.int .i64 L, .slice a js.length ca], .slice ae q.length cq, .int .i64 h, .int .i64 dir, .int .i64 tp, .int .i64 m] w fun e w' => e = .returned (.tuple #[.int .i64 0, .int .i64 2]) ∧ Below w.heap.size w w' := by
  have hLb := (lst_good hV).1
  have H1 := Lib.hid (fun W (hW : Below w.heap.size w W) => by
    have := listsError_r L a js ca none [] 0 ae q cq W (hI.below hW) (sg_nil W) (hE.below hW)
    rw [hV] at this
    exact this)
  have K0 := Lib.hid (fun W => isHour_r h W)
  have K1 := Lib.hid (fun W => isDir_r dir W)
  have K2 := Lib.hid (fun W => isTopic_r tp W)
  have K3 := Lib.hid (fun W => isMetre_r L a js.length ca m hLb.1 hLb.2 W)
  clear hI hE hV hLb
  generalize btw h 0 10000000 = b0 at *
  generalize dirB dir = b1 at *
  generalize topB tp = b2 at *
  generalize btw m 0 (L - 1) = b3 at *
  cases b0 with
  | false =>
    clear hx
    go_enter Tryz.func22, Tryz.ntmps22
    go_wp2_with fail
    obtain ⟨wB, hwB⟩ : ∃ wB, w.alloc (.cells #[.int .i64 L, .slice a js.length ca] 24) = wB := ⟨_, rfl⟩
    have hb : Below w.heap.size w wB := by rw [← hwB]; exact (Below.refl _ _).alloc (Nat.le_refl _) _
    have l0 : wB.cell? ⟨w.heap.size, 0, none⟩ = some (.int .i64 L) := by rw [← hwB]; simp [go_sem]
    have l1 : wB.cell? ⟨w.heap.size, 1, none⟩ = some (.slice a js.length ca) := by rw [← hwB]; simp [go_sem]
    rw [hwB]
    clear hwB
    go_wp2_with (first | (go_at_call 27; refine (H1.out _ hb).mono ?_; rintro e w1 ⟨rfl, hb1⟩; replace hb := hb.trans (hb1.mono hb.size); replace l0 := cell_below l0 hb1; replace l1 := cell_below l1 hb1; clear hb1) | (go_at_call 28; refine (K0.out _).mono ?_; rintro e w2 ⟨rfl, rfl⟩) | (go_at_call 45; refine (K1.out _).mono ?_; rintro e w2 ⟨rfl, rfl⟩) | (go_at_call 46; refine (K2.out _).mono ?_; rintro e w2 ⟨rfl, rfl⟩) | (go_at_call 48; refine (K3.out _).mono ?_; rintro e w2 ⟨rfl, hb2⟩; replace hb := hb.trans (hb2.mono hb.size); replace l0 := cell_below l0 hb2; replace l1 := cell_below l1 hb2; clear hb2))
    go_ret2
    exact ⟨rfl, hb⟩
  | true =>
    cases b1 with
    | false =>
      clear hx
      go_enter Tryz.func22, Tryz.ntmps22
      go_wp2_with fail
      obtain ⟨wB, hwB⟩ : ∃ wB, w.alloc (.cells #[.int .i64 L, .slice a js.length ca] 24) = wB := ⟨_, rfl⟩
      have hb : Below w.heap.size w wB := by rw [← hwB]; exact (Below.refl _ _).alloc (Nat.le_refl _) _
      have l0 : wB.cell? ⟨w.heap.size, 0, none⟩ = some (.int .i64 L) := by rw [← hwB]; simp [go_sem]
      have l1 : wB.cell? ⟨w.heap.size, 1, none⟩ = some (.slice a js.length ca) := by rw [← hwB]; simp [go_sem]
      rw [hwB]
      clear hwB
      go_wp2_with (first | (go_at_call 27; refine (H1.out _ hb).mono ?_; rintro e w1 ⟨rfl, hb1⟩; replace hb := hb.trans (hb1.mono hb.size); replace l0 := cell_below l0 hb1; replace l1 := cell_below l1 hb1; clear hb1) | (go_at_call 28; refine (K0.out _).mono ?_; rintro e w2 ⟨rfl, rfl⟩) | (go_at_call 45; refine (K1.out _).mono ?_; rintro e w2 ⟨rfl, rfl⟩) | (go_at_call 46; refine (K2.out _).mono ?_; rintro e w2 ⟨rfl, rfl⟩) | (go_at_call 48; refine (K3.out _).mono ?_; rintro e w2 ⟨rfl, hb2⟩; replace hb := hb.trans (hb2.mono hb.size); replace l0 := cell_below l0 hb2; replace l1 := cell_below l1 hb2; clear hb2))
      go_ret2
      exact ⟨rfl, hb⟩
    | true =>
      cases b2 with
      | false =>
        clear hx
        go_enter Tryz.func22, Tryz.ntmps22
        go_wp2_with fail
        obtain ⟨wB, hwB⟩ : ∃ wB, w.alloc (.cells #[.int .i64 L, .slice a js.length ca] 24) = wB := ⟨_, rfl⟩
        have hb : Below w.heap.size w wB := by rw [← hwB]; exact (Below.refl _ _).alloc (Nat.le_refl _) _
        have l0 : wB.cell? ⟨w.heap.size, 0, none⟩ = some (.int .i64 L) := by rw [← hwB]; simp [go_sem]
        have l1 : wB.cell? ⟨w.heap.size, 1, none⟩ = some (.slice a js.length ca) := by rw [← hwB]; simp [go_sem]
        rw [hwB]
        clear hwB
        go_wp2_with (first | (go_at_call 27; refine (H1.out _ hb).mono ?_; rintro e w1 ⟨rfl, hb1⟩; replace hb := hb.trans (hb1.mono hb.size); replace l0 := cell_below l0 hb1; replace l1 := cell_below l1 hb1; clear hb1) | (go_at_call 28; refine (K0.out _).mono ?_; rintro e w2 ⟨rfl, rfl⟩) | (go_at_call 45; refine (K1.out _).mono ?_; rintro e w2 ⟨rfl, rfl⟩) | (go_at_call 46; refine (K2.out _).mono ?_; rintro e w2 ⟨rfl, rfl⟩) | (go_at_call 48; refine (K3.out _).mono ?_; rintro e w2 ⟨rfl, hb2⟩; replace hb := hb.trans (hb2.mono hb.size); replace l0 := cell_below l0 hb2; replace l1 := cell_below l1 hb2; clear hb2))
        go_ret2
        exact ⟨rfl, hb⟩
      | true =>
        cases b3 with
        | false =>
          clear hx
          go_enter Tryz.func22, Tryz.ntmps22
          go_wp2_with fail
          obtain ⟨wB, hwB⟩ : ∃ wB, w.alloc (.cells #[.int .i64 L, .slice a js.length ca] 24) = wB := ⟨_, rfl⟩
          have hb : Below w.heap.size w wB := by rw [← hwB]; exact (Below.refl _ _).alloc (Nat.le_refl _) _
          have l0 : wB.cell? ⟨w.heap.size, 0, none⟩ = some (.int .i64 L) := by rw [← hwB]; simp [go_sem]
          have l1 : wB.cell? ⟨w.heap.size, 1, none⟩ = some (.slice a js.length ca) := by rw [← hwB]; simp [go_sem]
          rw [hwB]
          clear hwB
          go_wp2_with (first | (go_at_call 27; refine (H1.out _ hb).mono ?_; rintro e w1 ⟨rfl, hb1⟩; replace hb := hb.trans (hb1.mono hb.size); replace l0 := cell_below l0 hb1; replace l1 := cell_below l1 hb1; clear hb1) | (go_at_call 28; refine (K0.out _).mono ?_; rintro e w2 ⟨rfl, rfl⟩) | (go_at_call 45; refine (K1.out _).mono ?_; rintro e w2 ⟨rfl, rfl⟩) | (go_at_call 46; refine (K2.out _).mono ?_; rintro e w2 ⟨rfl, rfl⟩) | (go_at_call 48; refine (K3.out _).mono ?_; rintro e w2 ⟨rfl, hb2⟩; replace hb := hb.trans (hb2.mono hb.size); replace l0 := cell_below l0 hb2; replace l1 := cell_below l1 hb2; clear hb2))
          go_ret2
          exact ⟨rfl, hb⟩
        | true =>
          cases hx
/-- What holds on a metre. -/
def hldV (L : Int) (js : List Int) (l : List Sgn) (h dir t m : Int) : Int := hS L js dir t (begK L dir m) (insR L dir h l l.length) 0
/-- Is an edict for a metre? -/
def edB (x : Edc) (h t d m : Int) : Bool := (x.tp == t) && ((x.d == d) && (decide (x.fr ≤ m) && (decide (m < x.tt) && (decide (x.st ≤ h) && decide (h < x.en)))))
/-- The greatest number of the first k edicts for a metre, and its value. -/
def mustK (q : List Edc) (h t d m : Int) : Nat → Int × Int
  | 0 => (0, 0)
  | k + 1 => if (edB (ge q k) h t d m && decide ((mustK q h t d m k).1 < (ge q k).n)) = true then ((ge q k).n, (ge q k).v) else mustK q h t d m k
def mustV (q : List Edc) (h t d m : Int) : Int := (mustK q h t d m q.length).2
set_option maxRecDepth 100000 in
set_option maxHeartbeats 4000000 in
theorem mustAt_r (ae : Option Addr) (q : List Edc) (cq : Nat) (h t d m : Int) (w : World) (hE : EdS w ae q) :
    Calls Tryz.prog 52 #[.slice ae q.length cq, .int .i64 h, .agg #[.int .i64 t, .int .i64 d], .int .i64 m] w fun e w' => e = .returned (.int .i64 (mustV q h t d m)) ∧ Below w.heap.size w w' := by
  obtain ⟨hlen, blk, off, hadr, hc⟩ := hE
  have HC := Lib.hid hc
  have HL : Hid (0 < q.length → ae = some ⟨blk, off, none⟩) := Lib.hid fun h => hadr (List.ne_nil_of_length_pos h)
  clear hc hadr
  go_enter Tryz.func52, Tryz.ntmps52
  go_wp2_with fail
  obtain ⟨wB, hwB⟩ : ∃ wB, w.alloc (.cells #[.int .i64 t, .int .i64 d] 73) = wB := ⟨_, rfl⟩
  have hb : Below w.heap.size w wB := by rw [← hwB]; exact (Below.refl _ _).alloc (Nat.le_refl _) _
  have p0 : wB.cell? ⟨w.heap.size, 0, none⟩ = some (.int .i64 t) := by rw [← hwB]; simp [go_sem]
  have p1 : wB.cell? ⟨w.heap.size, 1, none⟩ = some (.int .i64 d) := by rw [← hwB]; simp [go_sem]
  rw [hwB]
  clear hwB
  have P0 := Lib.hid p0
  have P1 := Lib.hid p1
  have HB := Lib.hid hb
  clear p0 p1 hb
  go_wp2_with fail
  go_loopw [9, 10, 15] (fun g9 v9 i9 wr => ∃ k : Nat, k ≤ q.length ∧ i9 = .int .i64 k ∧ g9 = .int .i64 (mustK q h t d m k).1 ∧ v9 = .int .i64 (mustK q h t d m k).2 ∧ Below wB.heap.size wB wr) (fun _ _ i9 _ => q.length - (intOf i9).toNat)
  case atStart => exact ⟨0, Nat.zero_le _, rfl, rfl, rfl, Below.refl _ _⟩
  case round =>
    obtain ⟨k, hk, rfl, rfl, rfl, hbr⟩ := hrel
    have hbw := HB.out.trans (hbr.mono HB.out.size)
    have p0 := cell_below P0.out hbr
    have p1 := cell_below P1.out hbr
    have hzp := block_lt p0
    by_cases hlt : k < q.length
    · obtain rfl := HL.out (by omega)
      obtain ⟨c0, c1, c2, c3, c4, c5, c6, c7⟩ := HC.out k hlt
      have c0 := cell_below c0 hbw
      have c1 := cell_below c1 hbw
      have c2 := cell_below c2 hbw
      have c3 := cell_below c3 hbw
      have c4 := cell_below c4 hbw
      have c5 := cell_below c5 hbw
      have c6 := cell_below c6 hbw
      have c7 := cell_below c7 hbw
      have g1 : (k : Int) < (q.length : Int) := by omega
      have HK : Hid (mustK q h t d m (k + 1) = if (edB (ge q k) h t d m && decide ((mustK q h t d m k).1 < (ge q k).n)) = true then ((ge q k).n, (ge q k).v) else mustK q h t d m k) := Lib.hid rfl
      have HM : Hid (∃ y, mustK q h t d m (k + 1) = y) := Lib.hid ⟨_, rfl⟩
      obtain ⟨y, hy⟩ := HM.out
      have HY := Lib.hid hy
      rw [hy] at HK
      obtain ⟨g, v, hgv⟩ : ∃ g v, mustK q h t d m k = (g, v) := ⟨_, _, rfl⟩
      rw [hgv] at HK ⊢
      clear hy hgv HM HC HL
      obtain ⟨x, hx⟩ : ∃ x, ge q k = x := ⟨_, rfl⟩
      rw [hx] at HK c0 c1 c2 c3 c4 c5 c6 c7
      clear hx
      show Code.wp _ _ _ _ _
      by_cases e0 : x.tp = t
      · have b0 : (x.tp == t) = true := by rw [e0]; simp
        clear e0
        by_cases e1 : x.d = d
        · have b1 : (x.d == d) = true := by rw [e1]; simp
          clear e1
          by_cases e2 : x.fr ≤ m
          · have b2 : decide (x.fr ≤ m) = true := decide_eq_true e2
            clear e2
            by_cases e3 : m < x.tt
            · have b3 : decide (m < x.tt) = true := decide_eq_true e3
              clear e3
              by_cases e4 : x.st ≤ h
              · have b4 : decide (x.st ≤ h) = true := decide_eq_true e4
                clear e4
                by_cases e5 : h < x.en
                · have b5 : decide (h < x.en) = true := decide_eq_true e5
                  clear e5
                  by_cases e6 : g < x.n
                  · have b6 : decide (g < x.n) = true := decide_eq_true e6
                    clear e6
                    have hv : y = (x.n, x.v) := by rw [HK.out]; simp only [edB, b0, b1, b2, b3, b4, b5, b6]; rfl
                    have HV := Lib.hid hv
                    clear hv HK
                    obtain ⟨wq, hwq⟩ : ∃ wq, wr.alloc (.cells #[.int .i64 x.n, .int .i64 x.tp, .int .i64 x.v, .int .i64 x.d, .int .i64 x.fr, .int .i64 x.tt, .int .i64 x.st, .int .i64 x.en] 126) = wq := ⟨_, rfl⟩
                    have q1 : ∀ c T o b, b < wr.heap.size → (wr.alloc (.cells c T)).cell? ⟨b, o, none⟩ = wr.cell? ⟨b, o, none⟩ := fun c T o b hb => (Below.alloc (Below.refl _ wr) (Nat.le_refl _) _).cell (p := ⟨b, o, none⟩) hb
                    clear hwq wq
                    go_wp2_with fail
                    go_quiet (fail)
                    go_wp2_with fail
                    go_roundw
                    case rel => exact ⟨k + 1, by omega, by go_num, by rw [HY.out, HV.out], by rw [HY.out, HV.out], below_drewN (hbr.alloc hbr.size _) _⟩
                    case measure => simp [intOf]; omega
                  · have b6 : decide (g < x.n) = false := decide_eq_false e6
                    clear e6
                    have hv : y = (g, v) := by rw [HK.out]; simp [edB, b0, b1, b2, b3, b4, b5, b6]
                    have HV := Lib.hid hv
                    clear hv HK
                    have q1 : ∀ c T o b, b < wr.heap.size → (wr.alloc (.cells c T)).cell? ⟨b, o, none⟩ = wr.cell? ⟨b, o, none⟩ := fun c T o b hb => (Below.alloc (Below.refl _ wr) (Nat.le_refl _) _).cell (p := ⟨b, o, none⟩) hb
                    go_wp2_with fail
                    go_roundw
                    case rel => exact ⟨k + 1, by omega, by go_num, by rw [HY.out, HV.out], by rw [HY.out, HV.out], hbr.alloc hbr.size _⟩
                    case measure => simp [intOf]; omega
                · have b5 : decide (h < x.en) = false := decide_eq_false e5
                  clear e5
                  have hv : y = (g, v) := by rw [HK.out]; simp [edB, b0, b1, b2, b3, b4, b5]
                  have HV := Lib.hid hv
                  clear hv HK
                  have q1 : ∀ c T o b, b < wr.heap.size → (wr.alloc (.cells c T)).cell? ⟨b, o, none⟩ = wr.cell? ⟨b, o, none⟩ := fun c T o b hb => (Below.alloc (Below.refl _ wr) (Nat.le_refl _) _).cell (p := ⟨b, o, none⟩) hb
                  go_wp2_with fail
                  go_roundw
                  case rel => exact ⟨k + 1, by omega, by go_num, by rw [HY.out, HV.out], by rw [HY.out, HV.out], hbr.alloc hbr.size _⟩
                  case measure => simp [intOf]; omega
              · have b4 : decide (x.st ≤ h) = false := decide_eq_false e4
                clear e4
                have hv : y = (g, v) := by rw [HK.out]; simp [edB, b0, b1, b2, b3, b4]
                have HV := Lib.hid hv
                clear hv HK
                have q1 : ∀ c T o b, b < wr.heap.size → (wr.alloc (.cells c T)).cell? ⟨b, o, none⟩ = wr.cell? ⟨b, o, none⟩ := fun c T o b hb => (Below.alloc (Below.refl _ wr) (Nat.le_refl _) _).cell (p := ⟨b, o, none⟩) hb
                go_wp2_with fail
                go_roundw
                case rel => exact ⟨k + 1, by omega, by go_num, by rw [HY.out, HV.out], by rw [HY.out, HV.out], hbr.alloc hbr.size _⟩
                case measure => simp [intOf]; omega
            · have b3 : decide (m < x.tt) = false := decide_eq_false e3
              clear e3
              have hv : y = (g, v) := by rw [HK.out]; simp [edB, b0, b1, b2, b3]
              have HV := Lib.hid hv
              clear hv HK
              have q1 : ∀ c T o b, b < wr.heap.size → (wr.alloc (.cells c T)).cell? ⟨b, o, none⟩ = wr.cell? ⟨b, o, none⟩ := fun c T o b hb => (Below.alloc (Below.refl _ wr) (Nat.le_refl _) _).cell (p := ⟨b, o, none⟩) hb
              go_wp2_with fail
              go_roundw
              case rel => exact ⟨k + 1, by omega, by go_num, by rw [HY.out, HV.out], by rw [HY.out, HV.out], hbr.alloc hbr.size _⟩
              case measure => simp [intOf]; omega
          · have b2 : decide (x.fr ≤ m) = false := decide_eq_false e2
            clear e2
            have hv : y = (g, v) := by rw [HK.out]; simp [edB, b0, b1, b2]
            have HV := Lib.hid hv
            clear hv HK
            have q1 : ∀ c T o b, b < wr.heap.size → (wr.alloc (.cells c T)).cell? ⟨b, o, none⟩ = wr.cell? ⟨b, o, none⟩ := fun c T o b hb => (Below.alloc (Below.refl _ wr) (Nat.le_refl _) _).cell (p := ⟨b, o, none⟩) hb
            go_wp2_with fail
            go_roundw
            case rel => exact ⟨k + 1, by omega, by go_num, by rw [HY.out, HV.out], by rw [HY.out, HV.out], hbr.alloc hbr.size _⟩
            case measure => simp [intOf]; omega
        · have b1 : (x.d == d) = false := beq_false_of_ne e1
          clear e1
          have hv : y = (g, v) := by rw [HK.out]; simp [edB, b0, b1]
          have HV := Lib.hid hv
          clear hv HK
          have q1 : ∀ c T o b, b < wr.heap.size → (wr.alloc (.cells c T)).cell? ⟨b, o, none⟩ = wr.cell? ⟨b, o, none⟩ := fun c T o b hb => (Below.alloc (Below.refl _ wr) (Nat.le_refl _) _).cell (p := ⟨b, o, none⟩) hb
          go_wp2_with fail
          go_roundw
          case rel => exact ⟨k + 1, by omega, by go_num, by rw [HY.out, HV.out], by rw [HY.out, HV.out], hbr.alloc hbr.size _⟩
          case measure => simp [intOf]; omega
      · have b0 : (x.tp == t) = false := beq_false_of_ne e0
        clear e0
        have hv : y = (g, v) := by rw [HK.out]; simp [edB, b0]
        have HV := Lib.hid hv
        clear hv HK
        have q1 : ∀ c T o b, b < wr.heap.size → (wr.alloc (.cells c T)).cell? ⟨b, o, none⟩ = wr.cell? ⟨b, o, none⟩ := fun c T o b hb => (Below.alloc (Below.refl _ wr) (Nat.le_refl _) _).cell (p := ⟨b, o, none⟩) hb
        go_wp2_with fail
        go_roundw
        case rel => exact ⟨k + 1, by omega, by go_num, by rw [HY.out, HV.out], by rw [HY.out, HV.out], hbr.alloc hbr.size _⟩
        case measure => simp [intOf]; omega
    · obtain rfl : k = q.length := by omega
      have HV : Hid (mustV q h t d m = (mustK q h t d m q.length).2) := Lib.hid rfl
      clear HC HL
      go_wp2_with fail
      go_ret
      exact ⟨by rw [HV.out]; rfl, hbw⟩
set_option maxRecDepth 100000 in
set_option maxHeartbeats 4000000 in
theorem refMust_r (ae : Option Addr) (q : List Edc) (cq : Nat) (h t d m : Int) (w : World) (hE : EdS w ae q) :
    Calls Tryz.prog 40 #[.slice ae q.length cq, .int .i64 h, .int .i64 d, .int .i64 t, .int .i64 m] w fun e w' => e = .returned (.int .i64 (mustV q h t d m)) ∧ Below w.heap.size w w' := by
  obtain ⟨hlen, blk, off, hadr, hc⟩ := hE
  have HC := Lib.hid hc
  have HL : Hid (0 < q.length → ae = some ⟨blk, off, none⟩) := Lib.hid fun h => hadr (List.ne_nil_of_length_pos h)
  clear hc hadr
  go_enter Tryz.func40, Tryz.ntmps40
  go_wp2_with fail
  go_loopw [11, 12, 13] (fun g9 v9 i9 wr => ∃ k : Nat, k ≤ q.length ∧ i9 = .int .i64 k ∧ g9 = .int .i64 (mustK q h t d m k).1 ∧ v9 = .int .i64 (mustK q h t d m k).2 ∧ Below w.heap.size w wr) (fun _ _ i9 _ => q.length - (intOf i9).toNat)
  case atStart => exact ⟨0, Nat.zero_le _, rfl, rfl, rfl, Below.refl _ _⟩
  case round =>
    obtain ⟨k, hk, rfl, rfl, rfl, hbr⟩ := hrel
    have hbw := hbr
    by_cases hlt : k < q.length
    · obtain rfl := HL.out (by omega)
      obtain ⟨c0, c1, c2, c3, c4, c5, c6, c7⟩ := HC.out k hlt
      have c0 := cell_below c0 hbw
      have c1 := cell_below c1 hbw
      have c2 := cell_below c2 hbw
      have c3 := cell_below c3 hbw
      have c4 := cell_below c4 hbw
      have c5 := cell_below c5 hbw
      have c6 := cell_below c6 hbw
      have c7 := cell_below c7 hbw
      have g1 : (k : Int) < (q.length : Int) := by omega
      have HK : Hid (mustK q h t d m (k + 1) = if (edB (ge q k) h t d m && decide ((mustK q h t d m k).1 < (ge q k).n)) = true then ((ge q k).n, (ge q k).v) else mustK q h t d m k) := Lib.hid rfl
      have HM : Hid (∃ y, mustK q h t d m (k + 1) = y) := Lib.hid ⟨_, rfl⟩
      obtain ⟨y, hy⟩ := HM.out
      have HY := Lib.hid hy
      rw [hy] at HK
      obtain ⟨g, v, hgv⟩ : ∃ g v, mustK q h t d m k = (g, v) := ⟨_, _, rfl⟩
      rw [hgv] at HK ⊢
      clear hy hgv HM HC HL
      obtain ⟨x, hx⟩ : ∃ x, ge q k = x := ⟨_, rfl⟩
      rw [hx] at HK c0 c1 c2 c3 c4 c5 c6 c7
      clear hx
      show Code.wp _ _ _ _ _
      by_cases e0 : x.tp = t
      · have b0 : (x.tp == t) = true := by rw [e0]; simp
        clear e0
        by_cases e1 : x.d = d
        · have b1 : (x.d == d) = true := by rw [e1]; simp
          clear e1
          by_cases e2 : x.fr ≤ m
          · have b2 : decide (x.fr ≤ m) = true := decide_eq_true e2
            clear e2
            by_cases e3 : m < x.tt
            · have b3 : decide (m < x.tt) = true := decide_eq_true e3
              clear e3
              by_cases e4 : x.st ≤ h
              · have b4 : decide (x.st ≤ h) = true := decide_eq_true e4
                clear e4
                by_cases e5 : h < x.en
                · have b5 : decide (h < x.en) = true := decide_eq_true e5
                  clear e5
                  by_cases e6 : g < x.n
                  · have b6 : decide (g < x.n) = true := decide_eq_true e6
                    clear e6
                    have hv : y = (x.n, x.v) := by rw [HK.out]; simp only [edB, b0, b1, b2, b3, b4, b5, b6]; rfl
                    have HV := Lib.hid hv
                    clear hv HK
                    obtain ⟨wq, hwq⟩ : ∃ wq, wr.alloc (.cells #[.int .i64 x.n, .int .i64 x.tp, .int .i64 x.v, .int .i64 x.d, .int .i64 x.fr, .int .i64 x.tt, .int .i64 x.st, .int .i64 x.en] 126) = wq := ⟨_, rfl⟩
                    have q1 : ∀ c T o b, b < wr.heap.size → (wr.alloc (.cells c T)).cell? ⟨b, o, none⟩ = wr.cell? ⟨b, o, none⟩ := fun c T o b hb => (Below.alloc (Below.refl _ wr) (Nat.le_refl _) _).cell (p := ⟨b, o, none⟩) hb
                    clear hwq wq
                    go_wp2_with fail
                    go_quiet (fail)
                    go_wp2_with fail
                    go_roundw
                    case rel => exact ⟨k + 1, by omega, by go_num, by rw [HY.out, HV.out], by rw [HY.out, HV.out], below_drewN (hbr.alloc hbr.size _) _⟩
                    case measure => simp [intOf]; omega
                  · have b6 : decide (g < x.n) = false := decide_eq_false e6
                    clear e6
                    have hv : y = (g, v) := by rw [HK.out]; simp [edB, b0, b1, b2, b3, b4, b5, b6]
                    have HV := Lib.hid hv
                    clear hv HK
                    have q1 : ∀ c T o b, b < wr.heap.size → (wr.alloc (.cells c T)).cell? ⟨b, o, none⟩ = wr.cell? ⟨b, o, none⟩ := fun c T o b hb => (Below.alloc (Below.refl _ wr) (Nat.le_refl _) _).cell (p := ⟨b, o, none⟩) hb
                    go_wp2_with fail
                    go_roundw
                    case rel => exact ⟨k + 1, by omega, by go_num, by rw [HY.out, HV.out], by rw [HY.out, HV.out], hbr.alloc hbr.size _⟩
                    case measure => simp [intOf]; omega
                · have b5 : decide (h < x.en) = false := decide_eq_false e5
                  clear e5
                  have hv : y = (g, v) := by rw [HK.out]; simp [edB, b0, b1, b2, b3, b4, b5]
                  have HV := Lib.hid hv
                  clear hv HK
                  have q1 : ∀ c T o b, b < wr.heap.size → (wr.alloc (.cells c T)).cell? ⟨b, o, none⟩ = wr.cell? ⟨b, o, none⟩ := fun c T o b hb => (Below.alloc (Below.refl _ wr) (Nat.le_refl _) _).cell (p := ⟨b, o, none⟩) hb
                  go_wp2_with fail
                  go_roundw
                  case rel => exact ⟨k + 1, by omega, by go_num, by rw [HY.out, HV.out], by rw [HY.out, HV.out], hbr.alloc hbr.size _⟩
                  case measure => simp [intOf]; omega
              · have b4 : decide (x.st ≤ h) = false := decide_eq_false e4
                clear e4
                have hv : y = (g, v) := by rw [HK.out]; simp [edB, b0, b1, b2, b3, b4]
                have HV := Lib.hid hv
                clear hv HK
                have q1 : ∀ c T o b, b < wr.heap.size → (wr.alloc (.cells c T)).cell? ⟨b, o, none⟩ = wr.cell? ⟨b, o, none⟩ := fun c T o b hb => (Below.alloc (Below.refl _ wr) (Nat.le_refl _) _).cell (p := ⟨b, o, none⟩) hb
                go_wp2_with fail
                go_roundw
                case rel => exact ⟨k + 1, by omega, by go_num, by rw [HY.out, HV.out], by rw [HY.out, HV.out], hbr.alloc hbr.size _⟩
                case measure => simp [intOf]; omega
            · have b3 : decide (m < x.tt) = false := decide_eq_false e3
              clear e3
              have hv : y = (g, v) := by rw [HK.out]; simp [edB, b0, b1, b2, b3]
              have HV := Lib.hid hv
              clear hv HK
              have q1 : ∀ c T o b, b < wr.heap.size → (wr.alloc (.cells c T)).cell? ⟨b, o, none⟩ = wr.cell? ⟨b, o, none⟩ := fun c T o b hb => (Below.alloc (Below.refl _ wr) (Nat.le_refl _) _).cell (p := ⟨b, o, none⟩) hb
              go_wp2_with fail
              go_roundw
              case rel => exact ⟨k + 1, by omega, by go_num, by rw [HY.out, HV.out], by rw [HY.out, HV.out], hbr.alloc hbr.size _⟩
              case measure => simp [intOf]; omega
          · have b2 : decide (x.fr ≤ m) = false := decide_eq_false e2
            clear e2
            have hv : y = (g, v) := by rw [HK.out]; simp [edB, b0, b1, b2]
            have HV := Lib.hid hv
            clear hv HK
            have q1 : ∀ c T o b, b < wr.heap.size → (wr.alloc (.cells c T)).cell? ⟨b, o, none⟩ = wr.cell? ⟨b, o, none⟩ := fun c T o b hb => (Below.alloc (Below.refl _ wr) (Nat.le_refl _) _).cell (p := ⟨b, o, none⟩) hb
            go_wp2_with fail
            go_roundw
            case rel => exact ⟨k + 1, by omega, by go_num, by rw [HY.out, HV.out], by rw [HY.out, HV.out], hbr.alloc hbr.size _⟩
            case measure => simp [intOf]; omega
        · have b1 : (x.d == d) = false := beq_false_of_ne e1
          clear e1
          have hv : y = (g, v) := by rw [HK.out]; simp [edB, b0, b1]
          have HV := Lib.hid hv
          clear hv HK
          have q1 : ∀ c T o b, b < wr.heap.size → (wr.alloc (.cells c T)).cell? ⟨b, o, none⟩ = wr.cell? ⟨b, o, none⟩ := fun c T o b hb => (Below.alloc (Below.refl _ wr) (Nat.le_refl _) _).cell (p := ⟨b, o, none⟩) hb
          go_wp2_with fail
          go_roundw
          case rel => exact ⟨k + 1, by omega, by go_num, by rw [HY.out, HV.out], by rw [HY.out, HV.out], hbr.alloc hbr.size _⟩
          case measure => simp [intOf]; omega
      · have b0 : (x.tp == t) = false := beq_false_of_ne e0
        clear e0
        have hv : y = (g, v) := by rw [HK.out]; simp [edB, b0]
        have HV := Lib.hid hv
        clear hv HK
        have q1 : ∀ c T o b, b < wr.heap.size → (wr.alloc (.cells c T)).cell? ⟨b, o, none⟩ = wr.cell? ⟨b, o, none⟩ := fun c T o b hb => (Below.alloc (Below.refl _ wr) (Nat.le_refl _) _).cell (p := ⟨b, o, none⟩) hb
        go_wp2_with fail
        go_roundw
        case rel => exact ⟨k + 1, by omega, by go_num, by rw [HY.out, HV.out], by rw [HY.out, HV.out], hbr.alloc hbr.size _⟩
        case measure => simp [intOf]; omega
    · obtain rfl : k = q.length := by omega
      have HV : Hid (mustV q h t d m = (mustK q h t d m q.length).2) := Lib.hid rfl
      clear HC HL
      go_wp2_with fail
      go_ret
      exact ⟨by rw [HV.out]; rfl, hbw⟩
end Go.Proofs.YtlpdjinhkmgbgaaGreatDoor

namespace Go.Proofs.YtlpdjinhkmgbgaaGreatDoor
set_option linter.unusedVariables false
set_option linter.unusedSimpArgs false
open Go.RowKit

/-- What good signs say of a row. -/
theorem ins_good {L : Int} {js : List Int} {l : List Sgn} {q : List Edc} (hV : lstE L js l q = 0) (dir h : Int) :
    (∀ i, i < (insR L dir h l l.length).length → (gs (insR L dir h l l.length) i).k = 1 → 0 < (gs (insR L dir h l l.length) i).v) ∧
    (∀ i j, i < j → j < (insR L dir h l l.length).length → dstK L dir (gs (insR L dir h l l.length) i).c ≤ dstK L dir (gs (insR L dir h l l.length) j).c) ∧
    (∀ j, j < (insR L dir h l l.length).length → (0 ≤ (gs (insR L dir h l l.length) j).c ∧ (gs (insR L dir h l l.length) j).c ≤ 100000) ∧ 0 ≤ (gs (insR L dir h l l.length) j).v ∧ (gs (insR L dir h l l.length) j).v ≤ 100000) ∧
    (insR L dir h l l.length).length ≤ 1000 := by
  obtain ⟨⟨hL1, hL2⟩, hJ, hC, hn⟩ := lst_good hV
  have hsb := lst_sgns hV
  obtain ⟨hn1, hn2⟩ := sgn_nums hsb
  have hmem : ∀ i, i < (insR L dir h l l.length).length → ∃ j, j < l.length ∧ gs l j = gs (insR L dir h l l.length) i := fun i hi => insR_mem (by rw [gs_at _ hi]; exact List.getElem_mem hi)
  refine ⟨fun i hi hk => ?_, fun i j hij hj => ?_, fun j hj => ?_, ?_⟩
  · obtain ⟨j, hj, e⟩ := hmem i hi
    rw [← e] at hk ⊢
    unfold sgnsB at hsb
    simp only [Bool.and_eq_true, decide_eq_true_eq] at hsb
    have hA := hsb.1.2
    unfold allB at hA
    simp only [Bool.not_eq_true'] at hA
    have h3 : sgnB L (gs l j) = true := by simpa using (anyK_iff _).1 hA j hj
    unfold sgnB at h3
    simp only [Bool.and_eq_true, decide_eq_true_eq] at h3
    have hv := h3.1.1.1.1.1.1
    rw [hk] at hv
    have hv2 : btw (gs l j).v 10 200 = true := hv
    have := btw_ge hv2
    omega
  · have hp := insR_sorted (L := L) (dir := dir) (h := h) hn2 l.length (Nat.le_refl _)
    have := (List.pairwise_iff_getElem.1 hp) i j (by omega) hj hij
    rw [← gs_at _ (by omega : i < _), ← gs_at _ hj] at this
    unfold ahS at this
    omega
  · obtain ⟨i, hi, e⟩ := hmem j hj
    rw [← e]
    exact hC i hi
  · have := insR_len L dir h l l.length
    omega
/-- A row comes back. -/
def RrR (R : List Sgn) (w : World) (e : Ending) (w' : World) : Prop := ∃ b c, e = .returned (.slice b R.length c) ∧ SgnS w' b R ∧ Below w.heap.size w w'
theorem beg_bd {L dir m : Int} (h1 : 0 ≤ L) (h2 : L ≤ 100000) (h3 : 0 ≤ m) (h4 : m < L) : 0 ≤ begK L dir m ∧ begK L dir m < L := by unfold begK; split <;> omega
theorem top_or {t : Int} (h : topB t = true) : t = 1 ∨ t = 2 := by unfold topB at h; simpa using h
set_option maxRecDepth 100000 in
set_option maxHeartbeats 1000000 in
theorem Holds_good (L : Int) (a : Option Addr) (js : List Int) (ca : Nat) (aa : Option Addr) (l : List Sgn) (cl : Nat) (h dir tp m : Int) (hV : lstE L js l [] = 0) (h0 : btw h 0 10000000 = true) (h1 : dirB dir = true) (h2 : topB tp = true) (h3 : btw m 0 (L - 1) = true) (w : World) (hI : IntsS w a js) (hA : SgnS w aa l) :
    Calls Tryz.prog 21 #[.agg #[.int .i64 L, .slice a js.length ca], .slice aa l.length cl, .int .i64 h, .int .i64 dir, .int .i64 tp, .int .i64 m] w fun e w' => e = .returned (.tuple #[.int .i64 (hldV L js l h dir tp m), .int .i64 0]) ∧ Below w.heap.size w w' := by
  obtain ⟨hLb, hJ, hC, hn⟩ := lst_good hV
  obtain ⟨hn1, hn2⟩ := sgn_nums (lst_sgns hV)
  have hm := btw_ge h3
  have H1 := Lib.hid (fun W (hW : Below w.heap.size w W) => by
    have := listsError_r L a js ca aa l cl none [] 0 W (hI.below hW) (hA.below hW) (ed_nilR W)
    rw [hV] at this
    exact this)
  have K0 := Lib.hid (fun W => h0 ▸ isHour_r h W)
  have K1 := Lib.hid (fun W => h1 ▸ isDir_r dir W)
  have K2 := Lib.hid (fun W => h2 ▸ isTopic_r tp W)
  have K3 := Lib.hid (fun W => h3 ▸ isMetre_r L a js.length ca m hLb.1 hLb.2 W)
  have HR := Lib.hid (fun W (hW : Below w.heap.size w W) => (rowOf_r L a js ca aa l cl h dir hLb.1 hLb.2 hJ (fun j hj => by have := hC j hj; omega) hn W (hI.below hW) (hA.below hW)).mono fun e w' H => rowF_of hLb.1 hLb.2 hJ hC H)
  have HBg := Lib.hid (fun W => beginOf_r L a js.length ca dir m hLb.1 hLb.2 (by omega) (by omega) W)
  have htp : tp ≠ 0 := by have := top_or h2; omega
  have hbk := beg_bd (dir := dir) hLb.1 hLb.2 hm.1 (by omega)
  have HVal : Hid (∀ row, RowL L js dir h l row → hldL tp (begK L dir m) row 0 = hldV L js l h dir tp m) := Lib.hid fun row hr => hld_ins hn2 htp hbk.2 hr
  generalize hldV L js l h dir tp m = V at *
  generalize begK L dir m = bk at *
  clear hI hA hV h0 h1 h2 h3 hm hn1 hn2 hJ hC hLb htp hbk hn
  go_enter Tryz.func21, Tryz.ntmps21
  go_wp2_with fail
  obtain ⟨wB, hwB⟩ : ∃ wB, w.alloc (.cells #[.int .i64 L, .slice a js.length ca] 24) = wB := ⟨_, rfl⟩
  have hb : Below w.heap.size w wB := by rw [← hwB]; exact (Below.refl _ _).alloc (Nat.le_refl _) _
  have l0 : wB.cell? ⟨w.heap.size, 0, none⟩ = some (.int .i64 L) := by rw [← hwB]; simp [go_sem]
  have l1 : wB.cell? ⟨w.heap.size, 1, none⟩ = some (.slice a js.length ca) := by rw [← hwB]; simp [go_sem]
  rw [hwB]
  clear hwB
  go_wp2_with (first | (go_at_call 27; refine (H1.out _ hb).mono ?_; rintro e w1 ⟨rfl, hb1⟩; replace hb := hb.trans (hb1.mono hb.size); replace l0 := cell_below l0 hb1; replace l1 := cell_below l1 hb1; clear hb1) | (go_at_call 28; refine (K0.out _).mono ?_; rintro e w2 ⟨rfl, rfl⟩) | (go_at_call 45; refine (K1.out _).mono ?_; rintro e w2 ⟨rfl, rfl⟩) | (go_at_call 46; refine (K2.out _).mono ?_; rintro e w2 ⟨rfl, rfl⟩) | (go_at_call 48; refine (K3.out _).mono ?_; rintro e w2 ⟨rfl, hb2⟩; replace hb := hb.trans (hb2.mono hb.size); replace l0 := cell_below l0 hb2; replace l1 := cell_below l1 hb2; clear hb2))
  obtain ⟨wX, rfl⟩ : ∃ wX : World, wX = w2 := ⟨_, rfl⟩
  have hz0 := block_lt l0
  have L0 := Lib.hid l0
  have L1 := Lib.hid l1
  have HB := Lib.hid hb
  have HRX := Lib.hid (fun W (hW : Below wX.heap.size wX W) => HR.out W (HB.out.trans (hW.mono HB.out.size)))
  clear hb HR H1
  have hB : Below wX.heap.size wX wX := Below.refl _ _
  go_region_held3 (fun w' => w'.cell? ⟨w.heap.size, 0, none⟩ = some (.int .i64 L) ∧ w'.cell? ⟨w.heap.size, 1, none⟩ = some (.slice a js.length ca)) (go_keep)
    (first
      | (go_at_call 50
         refine (HRX.out _ (show Below wX.heap.size wX _ by first | exact hB | exact hB.drew)).mono ?_
         rintro e w9 ⟨row, ar, cr, hRL, hrl, hbd, rfl, hP, hb9⟩
         replace hB : Below wX.heap.size wX w9 := (show Below wX.heap.size wX _ by first | exact hB | exact hB.drew).trans (hb9.mono (by have := hB.size; first | exact this | (simp; exact this)))
         have l0 := (hB.cell (p := ⟨w.heap.size, 0, none⟩) hz0).trans L0.out
         have l1 := (hB.cell (p := ⟨w.heap.size, 1, none⟩) hz0).trans L1.out
         have HP := Lib.hid hP
         have HRL := Lib.hid hRL
         clear hP hRL hbd hrl
         skip)
      | (go_at_call 51
         refine (HBg.out _).mono ?_
         rintro e w9 ⟨rfl, hb9⟩
         replace hB : Below wX.heap.size wX w9 := (show Below wX.heap.size wX _ by first | exact hB | exact hB.drew).trans (hb9.mono (by have := hB.size; first | exact this | (simp; exact this)))
         have l0 := (hB.cell (p := ⟨w.heap.size, 0, none⟩) hz0).trans L0.out
         have l1 := (hB.cell (p := ⟨w.heap.size, 1, none⟩) hz0).trans L1.out
         skip)
      | (go_at_call 49
         refine (holdsAt_r ar row cr tp bk _ (by first | exact HP.out | exact HP.out.below hb9)).mono ?_
         rintro e w9 ⟨rfl, hb9⟩
         replace hB : Below wX.heap.size wX w9 := (show Below wX.heap.size wX _ by first | exact hB | exact hB.drew).trans (hb9.mono (by have := hB.size; first | exact this | (simp; exact this)))
         have l0 := (hB.cell (p := ⟨w.heap.size, 0, none⟩) hz0).trans L0.out
         have l1 := (hB.cell (p := ⟨w.heap.size, 1, none⟩) hz0).trans L1.out
         skip))

  all_goals
    have hv := HVal.out row HRL.out
    have HVv := Lib.hid hv
    clear hv HVal
    go_wp2_with fail
    go_ret2
    exact ⟨by rw [HVv.out]; rfl, HB.out.trans (hB.mono HB.out.size)⟩
set_option maxRecDepth 100000 in
set_option maxHeartbeats 1000000 in
theorem Must_good (L : Int) (a : Option Addr) (js : List Int) (ca : Nat) (ae : Option Addr) (q : List Edc) (cq : Nat) (h dir tp m : Int) (hV : lstE L js [] q = 0) (h0 : btw h 0 10000000 = true) (h1 : dirB dir = true) (h2 : topB tp = true) (h3 : btw m 0 (L - 1) = true) (w : World) (hI : IntsS w a js) (hE : EdS w ae q) :
    Calls Tryz.prog 22 #[.agg #[.int .i64 L, .slice a js.length ca], .slice ae q.length cq, .int .i64 h, .int .i64 dir, .int .i64 tp, .int .i64 m] w fun e w' => e = .returned (.tuple #[.int .i64 (mustV q h tp dir m), .int .i64 0]) ∧ Below w.heap.size w w' := by
  obtain ⟨hLb, -, -, -⟩ := lst_good hV
  have H1 := Lib.hid (fun W (hW : Below w.heap.size w W) => by
    have := listsError_r L a js ca none [] 0 ae q cq W (hI.below hW) (sg_nil W) (hE.below hW)
    rw [hV] at this
    exact this)
  have K0 := Lib.hid (fun W => h0 ▸ isHour_r h W)
  have K1 := Lib.hid (fun W => h1 ▸ isDir_r dir W)
  have K2 := Lib.hid (fun W => h2 ▸ isTopic_r tp W)
  have K3 := Lib.hid (fun W => h3 ▸ isMetre_r L a js.length ca m hLb.1 hLb.2 W)
  have HM := Lib.hid (fun W (hW : Below w.heap.size w W) => mustAt_r ae q cq h tp dir m W (hE.below hW))
  clear hI hE hV h0 h1 h2 h3 hLb
  generalize mustV q h tp dir m = V at *
  go_enter Tryz.func22, Tryz.ntmps22
  go_wp2_with fail
  obtain ⟨wB, hwB⟩ : ∃ wB, w.alloc (.cells #[.int .i64 L, .slice a js.length ca] 24) = wB := ⟨_, rfl⟩
  have hb : Below w.heap.size w wB := by rw [← hwB]; exact (Below.refl _ _).alloc (Nat.le_refl _) _
  have l0 : wB.cell? ⟨w.heap.size, 0, none⟩ = some (.int .i64 L) := by rw [← hwB]; simp [go_sem]
  have l1 : wB.cell? ⟨w.heap.size, 1, none⟩ = some (.slice a js.length ca) := by rw [← hwB]; simp [go_sem]
  rw [hwB]
  clear hwB
  go_wp2_with (first | (go_at_call 27; refine (H1.out _ hb).mono ?_; rintro e w1 ⟨rfl, hb1⟩; replace hb := hb.trans (hb1.mono hb.size); replace l0 := cell_below l0 hb1; replace l1 := cell_below l1 hb1; clear hb1) | (go_at_call 28; refine (K0.out _).mono ?_; rintro e w2 ⟨rfl, rfl⟩) | (go_at_call 45; refine (K1.out _).mono ?_; rintro e w2 ⟨rfl, rfl⟩) | (go_at_call 46; refine (K2.out _).mono ?_; rintro e w2 ⟨rfl, rfl⟩) | (go_at_call 48; refine (K3.out _).mono ?_; rintro e w2 ⟨rfl, hb2⟩; replace hb := hb.trans (hb2.mono hb.size); replace l0 := cell_below l0 hb2; replace l1 := cell_below l1 hb2; clear hb2) | (go_at_call 52; refine (HM.out _ hb).mono ?_; rintro e w3 ⟨rfl, hb3⟩))
  go_ret2
  exact ⟨rfl, hb.trans (hb3.mono hb.size)⟩
/-- A number with an error. -/
def NumA (V E : Int) (w : World) (e : Ending) (w' : World) : Prop := e = .returned (.tuple #[.int .i64 V, .int .i64 E]) ∧ Below w.heap.size w w'
theorem Holds_any (L : Int) (a : Option Addr) (js : List Int) (ca : Nat) (aa : Option Addr) (l : List Sgn) (cl : Nat) (h dir tp m : Int) (b9 r : Bool) (hr : r = (btw h 0 10000000 && dirB dir && topB tp && btw m 0 (L - 1))) (w : World) (hI : IntsS w a js) (hA : SgnS w aa l) :
    Calls Tryz.prog 21 #[.agg #[.int .i64 L, .slice a js.length ca], .slice aa l.length cl, .int .i64 h, .int .i64 dir, .int .i64 tp, .int .i64 m] w (NumA (if whyK (lineB L js) true (sgnsB L js l) false b9 r = 0 then hldV L js l h dir tp m else 0) (whyK (lineB L js) true (sgnsB L js l) false b9 r) w) := by
  obtain ⟨k1, k2⟩ := lst_s L js l true b9 r
  by_cases hV : lstE L js l [] = 0
  · rw [k2 hV]
    cases hx : r with
    | false =>
      rw [if_pos rfl, if_neg (by decide)]
      exact Holds_arg L a js ca aa l cl h dir tp m hV (by rw [← hr]; exact hx) w hI hA
    | true =>
      rw [if_neg (show ¬ (true = false) by decide), if_pos rfl]
      rw [hx] at hr
      have hr := hr.symm
      simp only [Bool.and_eq_true] at hr
      exact Holds_good L a js ca aa l cl h dir tp m hV hr.1.1.1 hr.1.1.2 hr.1.2 hr.2 w hI hA
  · rw [k1 hV, if_neg hV]
    exact Holds_bad L a js ca aa l cl h dir tp m hV w hI hA
theorem Must_any (L : Int) (a : Option Addr) (js : List Int) (ca : Nat) (ae : Option Addr) (q : List Edc) (cq : Nat) (h dir tp m : Int) (b9 r : Bool) (hr : r = (btw h 0 10000000 && dirB dir && topB tp && btw m 0 (L - 1))) (w : World) (hI : IntsS w a js) (hE : EdS w ae q) :
    Calls Tryz.prog 22 #[.agg #[.int .i64 L, .slice a js.length ca], .slice ae q.length cq, .int .i64 h, .int .i64 dir, .int .i64 tp, .int .i64 m] w (NumA (if whyK (lineB L js) false b9 true (edcsB L js q) r = 0 then mustV q h tp dir m else 0) (whyK (lineB L js) false b9 true (edcsB L js q) r) w) := by
  obtain ⟨k1, k2⟩ := lst_e L js q b9 r
  by_cases hV : lstE L js [] q = 0
  · rw [k2 hV]
    cases hx : r with
    | false =>
      rw [if_pos rfl, if_neg (by decide)]
      exact Must_arg L a js ca ae q cq h dir tp m hV (by rw [← hr]; exact hx) w hI hE
    | true =>
      rw [if_neg (show ¬ (true = false) by decide), if_pos rfl]
      rw [hx] at hr
      have hr := hr.symm
      simp only [Bool.and_eq_true] at hr
      exact Must_good L a js ca ae q cq h dir tp m hV hr.1.1.1 hr.1.1.2 hr.1.2 hr.2 w hI hE
  · rw [k1 hV, if_neg hV]
    exact Must_bad L a js ca ae q cq h dir tp m hV w hI hE
end Go.Proofs.YtlpdjinhkmgbgaaGreatDoor
