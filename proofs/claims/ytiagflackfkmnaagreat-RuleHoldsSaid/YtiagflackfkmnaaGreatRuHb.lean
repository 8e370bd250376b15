/-
  The reference's Holding. By an AI agent.
-/
import Derived.Test.YtiagflackfkmnaaGreatRuRg
import Derived.Deep.RegionHeld3
import Derived.BigQuiet
import Derived.BigRegion
namespace Go.Proofs.YtiagflackfkmnaaGreat
set_option linter.unusedVariables false
set_option linter.unusedSimpArgs false
open Go.RowKit

/-- The value of a start of a topic, or 0. -/
def strR (k v t : Int) : Int := if t = 1 ∧ k = 1 then v else if t = 2 ∧ k = 3 then 1 else 0
theorem strR_top {k v t : Int} (ht : t = 1 ∨ t = 2) (hv : k = 1 → 0 < v) : (0 < strR k v t ↔ topK k = t) ∧ (topK k = t → strR k v t = strK k v) := by
  unfold strR topK strK
  rcases ht with rfl | rfl
  · by_cases h1 : k = 1
    · subst h1; have := hv rfl; simp; omega
    · by_cases h3 : k = 3
      · subst h3; simp
      · simp [h1, h3]
  · by_cases h1 : k = 1
    · subst h1; simp
    · by_cases h3 : k = 3
      · subst h3; simp
      · simp [h1, h3]
/-- Is a sign of account at a distance? -/
def relB (L dir t k : Int) (R : List Sgn) (i : Nat) : Bool := decide (dstK L dir (gs R i).c ≤ k) && (decide (0 < strR (gs R i).k (gs R i).v t) || endB (gs R i).k t)
/-- The last of n for which p holds, or -1. -/
def lstX (p : Nat → Bool) : Nat → Int
  | 0 => -1
  | i + 1 => if p i = true then (i : Int) else lstX p i
theorem lstX_cases (p : Nat → Bool) : ∀ n, (lstX p n = -1 ∧ ∀ j, j < n → p j = false) ∨ ∃ x : Nat, x < n ∧ lstX p n = x ∧ p x = true ∧ ∀ j, x < j → j < n → p j = false
  | 0 => .inl ⟨rfl, fun j hj => absurd hj (Nat.not_lt_zero j)⟩
  | n + 1 => by
    rw [lstX]
    by_cases h : p n = true
    · rw [if_pos h]
      exact .inr ⟨n, by omega, rfl, h, fun j h1 h2 => by omega⟩
    · rw [if_neg h]
      have h' : p n = false := by simpa using h
      rcases lstX_cases p n with ⟨h1, h2⟩ | ⟨x, h1, h2, h3, h4⟩
      · exact .inl ⟨h1, fun j hj => by
          by_cases e : j = n
          · rw [e]; exact h'
          · exact h2 j (by omega)⟩
      · exact .inr ⟨x, by omega, h2, h3, fun j hj1 hj2 => by
          by_cases e : j = n
          · rw [e]; exact h'
          · exact h4 j hj1 (by omega)⟩
/-- Is the sign behind number i its plate? -/
def plB (R : List Sgn) (i : Nat) : Bool := decide (i + 1 < R.length) && (((gs R (i + 1)).k == 7) && ((gs R (i + 1)).c == (gs R i).c))
theorem dst_eq (L dir a b : Int) : (dstK L dir a == dstK L dir b) = (a == b) := by
  unfold dstK
  rw [Bool.eq_iff_iff, beq_iff_eq, beq_iff_eq]
  split <;> omega
theorem plt_plB (L dir k : Int) (R : List Sgn) (i : Nat) (hi : i < R.length) : pltB L dir k (gs R i) (R[i + 1]?) = (plB R i && decide ((gs R (i + 1)).v ≤ k - dstK L dir (gs R i).c)) := by
  unfold plB
  by_cases h : i + 1 < R.length
  · rw [List.getElem?_eq_getElem h, ← gs_at R h, decide_eq_true h, Bool.true_and]
    show ((gs R (i + 1)).k == 7 && (dstK L dir (gs R (i + 1)).c == dstK L dir (gs R i).c && decide (dstK L dir (gs R i).c + (gs R (i + 1)).v ≤ k))) = _
    rw [dst_eq, Bool.and_assoc]
    have : decide (dstK L dir (gs R i).c + (gs R (i + 1)).v ≤ k) = decide ((gs R (i + 1)).v ≤ k - dstK L dir (gs R i).c) := by
      rw [Bool.eq_iff_iff, decide_eq_true_eq, decide_eq_true_eq]; omega
    rw [this]
  · rw [List.getElem?_eq_none (by omega), decide_eq_false h]
    rfl
theorem rel_acc {L dir t k : Int} {R : List Sgn} {i : Nat} (ht : t = 1 ∨ t = 2) (hv : (gs R i).k = 1 → 0 < (gs R i).v) (hd : dstK L dir (gs R i).c ≤ k) : relB L dir t k R i = true ↔ (endB (gs R i).k t = true ∨ topK (gs R i).k = t) := by
  unfold relB
  rw [decide_eq_true hd, Bool.true_and, Bool.or_eq_true, decide_eq_true_eq, (strR_top ht hv).1]
  exact Or.comm
/-- No sign is of account. -/
theorem hold_none {L dir t k : Int} {js : List Int} {R : List Sgn} (ht : t = 1 ∨ t = 2) (hv : ∀ i, i < R.length → (gs R i).k = 1 → 0 < (gs R i).v) (h : ∀ j, j < R.length → relB L dir t k R j = false) (v : Int) : hS L js dir t k R v = v := by
  refine hS_none R v fun s hs hd => ?_
  obtain ⟨i, hi, e⟩ := List.getElem_of_mem hs
  have hi2 := gs_at R hi
  rw [e] at hi2
  subst hi2
  have h1 := h i hi
  have h2 := rel_acc ht (hv i hi) hd
  rw [h1] at h2
  constructor
  · cases h3 : endB (gs R i).k t with
    | false => rfl
    | true => exact absurd (h2.2 (.inl h3)) (by simp)
  · intro h3
    exact absurd (h2.2 (.inr h3)) (by simp)
/-- The last sign of account. -/
theorem hold_last {L dir t k : Int} {js : List Int} {R : List Sgn} {x : Nat} (ht : t = 1 ∨ t = 2) (hv : ∀ i, i < R.length → (gs R i).k = 1 → 0 < (gs R i).v) (hs : ∀ i j, i < j → j < R.length → dstK L dir (gs R i).c ≤ dstK L dir (gs R j).c) (hx : x < R.length) (h : relB L dir t k R x = true) (hl : ∀ j, x < j → j < R.length → relB L dir t k R j = false) (v : Int) :
    hS L js dir t k R v = if endB (gs R x).k t = true then 0 else if jctB L js dir (dstK L dir (gs R x).c) k = true then 0 else if (plB R x && decide ((gs R (x + 1)).v ≤ k - dstK L dir (gs R x).c)) = true then 0 else strR (gs R x).k (gs R x).v t := by
  have hd : dstK L dir (gs R x).c ≤ k := by
    unfold relB at h
    rw [Bool.and_eq_true, decide_eq_true_eq] at h
    exact h.1
  have ha := (rel_acc ht (hv x hx) hd).1 h
  have hsp : R = R.take x ++ gs R x :: R.drop (x + 1) := by
    rw [gs_at R hx, ← List.drop_eq_getElem_cons hx, List.take_append_drop]
  have key := hS_last (L := L) (js := js) (dir := dir) (t := t) (k := k) (gs R x) (R.drop (x + 1)) hd ha (fun y hy hyd => by
    obtain ⟨j, hj, e⟩ := List.getElem_of_mem hy
    rw [List.length_drop] at hj
    rw [List.getElem_drop] at e
    have e2 := gs_at R (i := x + 1 + j) (by omega)
    rw [e] at e2
    subst e2
    have h1 := hl (x + 1 + j) (by omega) (by omega)
    have h2 := rel_acc ht (hv _ (by omega)) hyd
    rw [h1] at h2
    constructor
    · cases h3 : endB (gs R (x + 1 + j)).k t with
      | false => rfl
      | true => exact absurd (h2.2 (.inl h3)) (by simp)
    · intro h3
      exact absurd (h2.2 (.inr h3)) (by simp)) (R.take x) v (fun y hy => by
    obtain ⟨j, hj, e⟩ := List.getElem_of_mem hy
    rw [List.length_take] at hj
    rw [List.getElem_take] at e
    have e2 := gs_at R (i := j) (by omega)
    rw [e] at e2
    subst e2
    have := hs j x (by omega) hx
    omega)
  rw [← hsp] at key
  rw [key]
  have hh : (R.drop (x + 1)).head? = R[x + 1]? := by rw [List.head?_eq_getElem?, List.getElem?_drop]
  rw [hh]
  unfold stpS shutB
  rw [plt_plB L dir k R x hx]
  by_cases h1 : endB (gs R x).k t = true
  · rw [if_pos h1, if_pos h1]
  · rw [if_neg h1, if_neg h1, if_pos (ha.resolve_left h1), (strR_top ht (hv x hx)).2 (ha.resolve_left h1)]
    by_cases h2 : jctB L js dir (dstK L dir (gs R x).c) k = true
    · rw [if_pos h2, if_pos (by simp [h2])]
    · rw [if_neg h2]
      have h2' : jctB L js dir (dstK L dir (gs R x).c) k = false := by simpa using h2
      rw [h2', Bool.false_or]
set_option maxRecDepth 100000 in
set_option maxHeartbeats 1000000 in
theorem refStart_r (s : Sgn) (ad : Option Addr) (cp : Nat) (t : Int) (ht : t = 1 ∨ t = 2) (w : World) :
    Calls Tryz.prog 94 #[.agg #[.int .i64 s.n, .int .i64 s.k, .int .i64 s.v, .int .i64 s.c, .int .i64 s.d, .int .i64 s.rk, .int .i64 s.up, .int .i64 s.dn, .slice ad s.cv.length cp], .int .i64 t] w fun e w' => e = .returned (.int .i64 (strR s.k s.v t)) ∧ Below w.heap.size w w' := by
  rcases ht with rfl | rfl
  · by_cases hk : s.k = 1
    · have hr : Hid (strR s.k s.v 1 = s.v) := Lib.hid (by rw [hk]; rfl)
      have b1 : (s.k == 1) = true := by rw [hk]; rfl
      clear hk
      generalize s.k = sk at *
      go_enter Tryz.func94, Tryz.ntmps94
      go_wp2_with fail
      go_ret
      exact ⟨by rw [hr.out] <;> rfl, (Below.refl _ _).alloc (Nat.le_refl _) _⟩
    · have hr : Hid (strR s.k s.v 1 = 0) := Lib.hid (by unfold strR; simp [hk])
      have b1 : (s.k == 1) = false := beq_false_of_ne hk
      clear hk
      generalize s.k = sk at *
      go_enter Tryz.func94, Tryz.ntmps94
      go_wp2_with fail
      go_ret
      exact ⟨by rw [hr.out] <;> rfl, (Below.refl _ _).alloc (Nat.le_refl _) _⟩
  · by_cases hk : s.k = 3
    · have hr : Hid (strR s.k s.v 2 = 1) := Lib.hid (by rw [hk]; rfl)
      have b1 : (s.k == 3) = true := by rw [hk]; rfl
      clear hk
      generalize s.k = sk at *
      go_enter Tryz.func94, Tryz.ntmps94
      go_wp2_with fail
      go_ret
      exact ⟨by rw [hr.out] <;> rfl, (Below.refl _ _).alloc (Nat.le_refl _) _⟩
    · have hr : Hid (strR s.k s.v 2 = 0) := Lib.hid (by unfold strR; simp [hk])
      have b1 : (s.k == 3) = false := beq_false_of_ne hk
      clear hk
      generalize s.k = sk at *
      go_enter Tryz.func94, Tryz.ntmps94
      go_wp2_with fail
      go_ret
      exact ⟨by rw [hr.out] <;> rfl, (Below.refl _ _).alloc (Nat.le_refl _) _⟩
set_option maxRecDepth 100000 in
set_option maxHeartbeats 1000000 in
theorem refEnd_r (s : Sgn) (ad : Option Addr) (cp : Nat) (t : Int) (ht : t = 1 ∨ t = 2) (w : World) :
    Calls Tryz.prog 95 #[.agg #[.int .i64 s.n, .int .i64 s.k, .int .i64 s.v, .int .i64 s.c, .int .i64 s.d, .int .i64 s.rk, .int .i64 s.up, .int .i64 s.dn, .slice ad s.cv.length cp], .int .i64 t] w fun e w' => e = .returned (.bool (endB s.k t)) ∧ Below w.heap.size w w' := by
  rcases ht with rfl | rfl
  · by_cases h5 : s.k = 5
    · have hr : Hid (endB s.k 1 = true) := Lib.hid (by rw [h5]; rfl)
      have b1 : (s.k == 5) = true := by rw [h5]; rfl
      clear h5
      generalize s.k = sk at *
      go_enter Tryz.func95, Tryz.ntmps95
      go_wp2_with fail
      go_ret
      exact ⟨by rw [hr.out] <;> rfl, (Below.refl _ _).alloc (Nat.le_refl _) _⟩
    · by_cases hk : s.k = 2
      · have hr : Hid (endB s.k 1 = true) := Lib.hid (by rw [hk]; rfl)
        have b1 : (s.k == 5) = false := beq_false_of_ne h5
        have b2 : (s.k == 2) = true := by rw [hk]; rfl
        clear h5 hk
        generalize s.k = sk at *
        go_enter Tryz.func95, Tryz.ntmps95
        go_wp2_with fail
        go_ret
        exact ⟨by rw [hr.out] <;> rfl, (Below.refl _ _).alloc (Nat.le_refl _) _⟩
      · have hr : Hid (endB s.k 1 = false) := Lib.hid (by unfold endB; simp [h5, hk])
        have b1 : (s.k == 5) = false := beq_false_of_ne h5
        have b2 : (s.k == 2) = false := beq_false_of_ne hk
        clear h5 hk
        generalize s.k = sk at *
        go_enter Tryz.func95, Tryz.ntmps95
        go_wp2_with fail
        go_ret
        exact ⟨by rw [hr.out] <;> rfl, (Below.refl _ _).alloc (Nat.le_refl _) _⟩
  · by_cases h5 : s.k = 5
    · have hr : Hid (endB s.k 2 = true) := Lib.hid (by rw [h5]; rfl)
      have b1 : (s.k == 5) = true := by rw [h5]; rfl
      clear h5
      generalize s.k = sk at *
      go_enter Tryz.func95, Tryz.ntmps95
      go_wp2_with fail
      go_ret
      exact ⟨by rw [hr.out] <;> rfl, (Below.refl _ _).alloc (Nat.le_refl _) _⟩
    · by_cases hk : s.k = 4
      · have hr : Hid (endB s.k 2 = true) := Lib.hid (by rw [hk]; rfl)
        have b1 : (s.k == 5) = false := beq_false_of_ne h5
        have b2 : (s.k == 4) = true := by rw [hk]; rfl
        clear h5 hk
        generalize s.k = sk at *
        go_enter Tryz.func95, Tryz.ntmps95
        go_wp2_with fail
        go_ret
        exact ⟨by rw [hr.out] <;> rfl, (Below.refl _ _).alloc (Nat.le_refl _) _⟩
      · have hr : Hid (endB s.k 2 = false) := Lib.hid (by unfold endB; simp [h5, hk])
        have b1 : (s.k == 5) = false := beq_false_of_ne h5
        have b2 : (s.k == 4) = false := beq_false_of_ne hk
        clear h5 hk
        generalize s.k = sk at *
        go_enter Tryz.func95, Tryz.ntmps95
        go_wp2_with fail
        go_ret
        exact ⟨by rw [hr.out] <;> rfl, (Below.refl _ _).alloc (Nat.le_refl _) _⟩
set_option maxRecDepth 100000 in
set_option maxHeartbeats 1000000 in
theorem refBeginning_r (L : Int) (a : Option Addr) (n ca : Nat) (dir c : Int) (hL1 : 0 ≤ L) (hL2 : L ≤ 100000) (hc1 : -1000000 ≤ c) (hc2 : c ≤ 1000000) (w : World) :
    Calls Tryz.prog 57 #[.agg #[.int .i64 L, .slice a n ca], .int .i64 dir, .int .i64 c] w fun e w' => e = .returned (.int .i64 (begK L dir c)) ∧ Below w.heap.size w w' := by
  by_cases h1 : dir = 1
  · subst h1
    have hr : Hid (begK L 1 c = c) := Lib.hid (by unfold begK; simp)
    go_enter Tryz.func57, Tryz.ntmps57
    go_wp2_with fail
    go_ret
    exact ⟨by rw [hr.out]; rfl, (Below.refl _ _).alloc (Nat.le_refl _) _⟩
  · have hr : Hid (begK L dir c = L - 1 - c) := Lib.hid (by unfold begK; simp [h1])
    go_enter Tryz.func57, Tryz.ntmps57
    go_wp2_with fail
    go_ret
    exact ⟨by rw [hr.out]; rfl, (Below.refl _ _).alloc (Nat.le_refl _) _⟩
set_option maxRecDepth 100000 in
set_option maxHeartbeats 1000000 in
theorem refPlated_r (a : Option Addr) (l : List Sgn) (ca i : Nat) (hi : i < l.length) (hn : l.length ≤ 1000) (w : World) (hA : SgnS w a l) :
    Calls Tryz.prog 96 #[.slice a l.length ca, .int .i64 i] w fun e w' => e = .returned (.bool (plB l i)) ∧ Below w.heap.size w w' := by
  obtain ⟨-, blk, off, ad, cp, hadr, hc⟩ := hA
  obtain rfl := hadr (List.ne_nil_of_length_pos (by omega))
  obtain ⟨m, hm1⟩ : ∃ m : Nat, m = i + 1 := ⟨_, rfl⟩
  have HP : Hid (plB l i = (decide (m < l.length) && (((gs l m).k == 7) && ((gs l m).c == (gs l i).c)))) := Lib.hid (by rw [hm1]; rfl)
  have hw : IntKind.i64.wrap ((i : Int) + 1) = (m : Int) := by rw [hm1]; exact IntWalk.i64_in _ (by omega)
  clear hm1
  by_cases hm : m < l.length
  · obtain ⟨⟨-, e1, -, e3, -⟩, -⟩ := hc i hi
    obtain ⟨⟨-, d1, -, d3, -⟩, -⟩ := hc m hm
    by_cases h7 : (gs l m).k = 7
    · by_cases hcc : (gs l m).c = (gs l i).c
      · have hr : Hid (plB l i = true) := Lib.hid (by rw [HP.out, decide_eq_true hm, h7, hcc]; simp)
        have b1 : ((gs l m).k == 7) = true := by rw [h7]; rfl
        have b2 : ((gs l m).c == (gs l i).c) = true := by rw [hcc]; simp
        have b3 : decide (m < l.length) = true := decide_eq_true hm
        clear h7 hcc HP
        generalize (gs l i).c = ci at *
        generalize (gs l m).c = cm at *
        generalize (gs l m).k = km at *
        clear hc hadr
        go_enter Tryz.func96, Tryz.ntmps96
        go_wp2_with fail
        go_quiet (fail)
        go_wp2_with fail
        go_ret
        exact ⟨by rw [hr.out] <;> rfl, below_drewN (Below.refl _ _) _⟩
      · have hr : Hid (plB l i = false) := Lib.hid (by rw [HP.out]; simp [hcc])
        have b1 : ((gs l m).k == 7) = true := by rw [h7]; rfl
        have b2 : ((gs l m).c == (gs l i).c) = false := beq_false_of_ne hcc
        have b3 : decide (m < l.length) = true := decide_eq_true hm
        clear h7 hcc HP
        generalize (gs l i).c = ci at *
        generalize (gs l m).c = cm at *
        generalize (gs l m).k = km at *
        clear hc hadr
        go_enter Tryz.func96, Tryz.ntmps96
        go_wp2_with fail
        go_quiet (fail)
        go_wp2_with fail
        go_ret
        exact ⟨by rw [hr.out] <;> rfl, below_drewN (Below.refl _ _) _⟩
    · have hr : Hid (plB l i = false) := Lib.hid (by rw [HP.out]; simp [h7])
      have b1 : ((gs l m).k == 7) = false := beq_false_of_ne h7
      have b3 : decide (m < l.length) = true := decide_eq_true hm
      clear h7 HP
      generalize (gs l i).c = ci at *
      generalize (gs l m).c = cm at *
      generalize (gs l m).k = km at *
      clear hc hadr
      go_enter Tryz.func96, Tryz.ntmps96
      go_wp2_with fail
      go_quiet (fail)
      go_wp2_with fail
      go_ret
      exact ⟨by rw [hr.out] <;> rfl, below_drewN (Below.refl _ _) _⟩
  · have hr : Hid (plB l i = false) := Lib.hid (by rw [HP.out, decide_eq_false hm]; rfl)
    have b3 : decide (m < l.length) = false := decide_eq_false hm
    clear HP hc hadr
    go_enter Tryz.func96, Tryz.ntmps96
    go_wp2_with fail
    go_quiet (fail)
    go_wp2_with fail
    go_ret
    exact ⟨by rw [hr.out] <;> rfl, below_drewN (Below.refl _ _) _⟩
end Go.Proofs.YtiagflackfkmnaaGreat
