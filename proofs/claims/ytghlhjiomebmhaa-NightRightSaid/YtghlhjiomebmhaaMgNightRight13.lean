/-
  The search of package night keeps plans right: plain mathematics. By an AI agent.; No right plan does more jobs than a list of jobs and the places of their nights let: plain mathematics. By an AI agent.; A job that finds no night never finds one later, and the nights that were tried for it prove a shortage: plain mathematics. By an AI agent.; What Shortage of package night returns is a shortage: plain mathematics. By an AI agent.
-/
import Derived.Test.YtghlhjiomebmhaaMgNightRight10
import Derived.Test.YtghlhjiomebmhaaMgNightRight12


namespace Go.Proofs.Ytghlhjiomebmhaa
set_option linter.unusedVariables false
set_option linter.unusedSimpArgs false
open Go.RowKit

/-- How many of the numbers below n are such. -/
def cK (f : Nat → Bool) : Nat → Nat
  | 0 => 0
  | k + 1 => cK f k + (if f k = true then 1 else 0)
theorem selK_cK (p : Nat → Bool) : ∀ n, (selK p n).length = cK p n
  | 0 => rfl
  | k + 1 => by
    have := selK_cK p k
    unfold selK cK
    split
    · rw [List.length_append, this]; rfl
    · rw [this]; rfl
theorem cntN_cK (l : List Int) (x : Int) : cntN l x = (cK (fun k => gi l k == x) l.length : Nat) := by unfold cntN; rw [selK_cK]
theorem cK_le {f g : Nat → Bool} : ∀ n, (∀ i, i < n → f i = true → g i = true) → cK f n ≤ cK g n
  | 0, _ => Nat.le_refl _
  | k + 1, h => by
    have := cK_le (f := f) (g := g) k (fun i hi => h i (by omega))
    unfold cK
    by_cases e : f k = true
    · rw [if_pos e, if_pos (h k (by omega) e)]; omega
    · rw [if_neg e]; omega
theorem cK_lt {f g : Nat → Bool} {j : Nat} (hf : f j = false) (hg : g j = true) : ∀ n, j < n → (∀ i, i < n → f i = true → g i = true) → cK f n < cK g n
  | 0, hj, _ => by omega
  | k + 1, hj, h => by
    unfold cK
    by_cases e : j = k
    · subst e
      have := cK_le (f := f) (g := g) j (fun i hi => h i (by omega))
      rw [if_pos hg, if_neg (by rw [hf]; decide)]; omega
    · have := cK_lt hf hg k (by omega) (fun i hi => h i (by omega))
      by_cases e2 : f k = true
      · rw [if_pos e2, if_pos (h k (by omega) e2)]; omega
      · rw [if_neg e2]; omega
theorem cK_one {f g : Nat → Bool} {j : Nat} : ∀ n, (∀ i, i < n → i ≠ j → f i = true → g i = true) → cK f n ≤ cK g n + 1
  | 0, _ => by simp [cK]
  | k + 1, h => by
    unfold cK
    by_cases e : k = j
    · subst e
      have := cK_le (f := f) (g := g) k (fun i hi => h i (by omega) (by omega))
      split <;> omega
    · have := cK_one (f := f) (g := g) (j := j) k (fun i hi => h i (by omega))
      by_cases e2 : f k = true
      · rw [if_pos e2, if_pos (h k (by omega) e e2)]; omega
      · rw [if_neg e2]; omega
/-- A plan that is right for lists of nights and places. -/
structure GoodP (C : List (List Int)) (P : List Int) (L N : Nat) (pl : List Int) : Prop where
  len : pl.length = L
  ent : ∀ i, i < L → gi pl i = -1 ∨ ∃ m : Nat, gi pl i = m ∧ m < N ∧ (m : Int) ∈ gr C i
  cap : ∀ m : Nat, m < N → cntN pl m ≤ gi P m
/-- What changes goes to nights that were not tried. -/
def Moves (tr : Int → Bool) (pl pl' : List Int) : Prop := ∀ i, gi pl' i = gi pl i ∨ tr (gi pl' i) = false
theorem Moves.refl (tr : Int → Bool) (pl : List Int) : Moves tr pl pl := fun i => .inl rfl
theorem Moves.less {tr tr' : Int → Bool} {pl pl' : List Int} (h : Moves tr' pl pl') (ht : ∀ x, tr x = true → tr' x = true) : Moves tr pl pl' := fun i => by
  rcases h i with h | h
  · exact .inl h
  · exact .inr (by
      cases e : tr (gi pl' i) with
      | false => rfl
      | true => rw [ht _ e] at h; cases h)
section
variable (C : List (List Int)) (P : List Int) (L N : Nat)
def SoundF (F : Nat → List Int → (Int → Bool) → Srch) : Prop := ∀ k pl tr, k < L → GoodP C P L N pl →
  ((F k pl tr).1 = false → (F k pl tr).2.1 = pl) ∧ ((F k pl tr).1 = true → GoodP C P L N (F k pl tr).2.1 ∧ Moves tr pl (F k pl tr).2.1 ∧ tr (gi (F k pl tr).2.1 k) = false)
def SoundV (V : Int → List Int → (Int → Bool) → Srch) : Prop := ∀ (n : Nat) pl tr, n < N → tr n = true → GoodP C P L N pl →
  ((V n pl tr).1 = false → (V n pl tr).2.1 = pl) ∧ ((V n pl tr).1 = true → GoodP C P L N (V n pl tr).2.1 ∧ Moves tr pl (V n pl tr).2.1 ∧ cntN (V n pl tr).2.1 n < gi P n)
variable {C P L N}
theorem cnt_less {pl pl' : List Int} {tr : Int → Bool} {n k : Nat} (hl : pl'.length = pl.length) (hk : k < pl.length) (hm : Moves tr pl pl') (ht : tr n = true) (hn : gi pl k = n) (hu : tr (gi pl' k) = false) : cntN pl' n < cntN pl n := by
  rw [cntN_cK, cntN_cK, hl]
  have : cK (fun i => gi pl' i == (n : Int)) pl.length < cK (fun i => gi pl i == (n : Int)) pl.length := by
    refine cK_lt (j := k) ?_ ?_ _ hk fun i hi h => ?_
    · refine beq_false_of_ne fun e => ?_
      rw [e, ht] at hu; cases hu
    · rw [hn]; simp
    · have e : gi pl' i = n := by simpa using h
      rcases hm i with h1 | h1
      · rw [h1] at e; rw [e]; simp
      · rw [e, ht] at h1; cases h1
  omega
theorem vacL_sound {F : Nat → List Int → (Int → Bool) → Srch} (hF : SoundF C P L N F) (hK : ∀ k, Keeps (F k)) (n : Nat) (hn : n < N) : ∀ m k pl tr, m + k ≤ L → tr n = true → GoodP C P L N pl →
    ((vacL F n m k pl tr).1 = false → (vacL F n m k pl tr).2.1 = pl) ∧ ((vacL F n m k pl tr).1 = true → GoodP C P L N (vacL F n m k pl tr).2.1 ∧ Moves tr pl (vacL F n m k pl tr).2.1 ∧ cntN (vacL F n m k pl tr).2.1 n < gi P n)
  | 0, k, pl, tr, _, _, _ => ⟨fun _ => rfl, fun h => by cases h⟩
  | m + 1, k, pl, tr, hmk, ht, hg => by
    unfold vacL
    by_cases e : gi pl k = n
    · rw [if_pos e]
      have h1 := hF k pl tr (by omega) hg
      by_cases e2 : (F k pl tr).1 = true
      · rw [if_pos e2]
        obtain ⟨g1, g2, g3⟩ := h1.2 e2
        refine ⟨fun h => (by cases h), fun _ => ⟨g1, g2, ?_⟩⟩
        have h2 := cnt_less (g1.len.trans hg.len.symm) (by rw [hg.len]; omega) g2 ht e g3
        have h3 := hg.cap n hn
        show cntN (F k pl tr).2.1 n < gi P n
        omega
      · rw [if_neg e2]
        have e3 := h1.1 (by simpa using e2)
        rw [e3]
        have hkp := (hK k pl tr).2
        have h4 := vacL_sound hF hK n hn m (k + 1) pl (F k pl tr).2.2 (by omega) (hkp _ ht) hg
        exact ⟨h4.1, fun h => ⟨(h4.2 h).1, (h4.2 h).2.1.less hkp, (h4.2 h).2.2⟩⟩
    · rw [if_neg e]
      exact vacL_sound hF hK n hn m (k + 1) pl tr (by omega) ht hg
theorem vacF_sound {F : Nat → List Int → (Int → Bool) → Srch} (hF : SoundF C P L N F) (hK : ∀ k, Keeps (F k)) (fr : Nat) (hfr : fr ≤ L) : SoundV C P L N (vacF F P fr) := by
  intro n pl tr hn ht hg
  unfold vacF
  rw [Int.toNat_natCast]
  by_cases e : cntN pl n < gi P n
  · rw [if_pos e]; exact ⟨fun h => (by cases h), fun _ => ⟨hg, Moves.refl _ _, e⟩⟩
  · rw [if_neg e]; exact vacL_sound hF hK n hn _ _ pl tr (by rw [hg.len]; omega) ht hg
theorem good_set {pl : List Int} {n job : Nat} (hg : GoodP C P L N pl) (hj : job < L) (hn : n < N) (hc : (n : Int) ∈ gr C job) (hlt : cntN pl n < gi P n) : GoodP C P L N (pl.set job n) := by
  have hjl : job < pl.length := by rw [hg.len]; exact hj
  refine ⟨by rw [List.length_set]; exact hg.len, fun i hi => ?_, fun m hm => ?_⟩
  · rw [gi_set pl job n i hjl]
    by_cases e : i = job
    · subst e; rw [if_pos rfl]; exact .inr ⟨n, rfl, hn, hc⟩
    · rw [if_neg e]; exact hg.ent i hi
  · have hcap := hg.cap m hm
    rw [cntN_cK] at hcap hlt ⊢
    rw [List.length_set]
    by_cases e : m = n
    · subst e
      have := cK_one (f := fun i => gi (pl.set job (m : Int)) i == (m : Int)) (g := fun i => gi pl i == (m : Int)) (j := job) pl.length fun i hi hne h => by
        simp only [gi_set pl job m i hjl, if_neg hne] at h; exact h
      omega
    · have := cK_le (f := fun i => gi (pl.set job (n : Int)) i == (m : Int)) (g := fun i => gi pl i == (m : Int)) pl.length fun i hi h => by
        simp only [gi_set pl job n i hjl] at h
        by_cases e2 : i = job
        · rw [if_pos e2] at h; have : (n : Int) = m := by simpa using h
          omega
        · rw [if_neg e2] at h; exact h
      omega
theorem plcL_sound {V : Int → List Int → (Int → Bool) → Srch} (hV : SoundV C P L N V) (hK : ∀ n, Keeps (V n)) (job : Nat) (hj : job < L) : ∀ l : List Int, (∀ x : Int, x ∈ l → ∃ m : Nat, x = m ∧ m < N ∧ x ∈ gr C job) → ∀ pl tr, GoodP C P L N pl →
    ((plcL V job l pl tr).1 = false → (plcL V job l pl tr).2.1 = pl) ∧ ((plcL V job l pl tr).1 = true → GoodP C P L N (plcL V job l pl tr).2.1 ∧ Moves tr pl (plcL V job l pl tr).2.1 ∧ tr (gi (plcL V job l pl tr).2.1 job) = false)
  | [], _, pl, tr, hg => ⟨fun _ => rfl, fun h => by cases h⟩
  | x :: r, hl, pl, tr, hg => by
    obtain ⟨n, rfl, hn, hc⟩ := hl x (by simp)
    have hr : ∀ y : Int, y ∈ r → ∃ m : Nat, y = m ∧ m < N ∧ y ∈ gr C job := fun y hy => hl y (List.mem_cons_of_mem _ hy)
    unfold plcL
    by_cases e : tr n = true
    · rw [if_pos e]; exact plcL_sound hV hK job hj r hr pl tr hg
    · rw [if_neg e]
      have hs : setAt tr (n : Int) true n = true := by unfold setAt; rw [if_pos rfl]
      have h1 := hV n pl (setAt tr n true) hn hs hg
      have h0 := setAt_mono tr n
      by_cases e2 : (V n pl (setAt tr n true)).1 = true
      · rw [if_pos e2]
        obtain ⟨g1, g2, g3⟩ := h1.2 e2
        have hjl : job < (V n pl (setAt tr n true)).2.1.length := by rw [g1.len]; exact hj
        refine ⟨fun h => (by cases h), fun _ => ⟨good_set g1 hj hn hc g3, fun i => ?_, ?_⟩⟩
        · show gi ((V n pl (setAt tr n true)).2.1.set job n) i = gi pl i ∨ tr (gi ((V n pl (setAt tr n true)).2.1.set job n) i) = false
          rw [gi_set _ job n i hjl]
          by_cases e3 : i = job
          · rw [if_pos e3]; exact .inr (by simpa using e)
          · rw [if_neg e3]; exact (g2.less h0) i
        · show tr (gi ((V n pl (setAt tr n true)).2.1.set job n) job) = false
          rw [gi_set _ job n job hjl, if_pos rfl]; simpa using e
      · rw [if_neg e2]
        have e3 := h1.1 (by simpa using e2)
        rw [e3]
        have hkp := (hK n pl (setAt tr n true)).2
        have h4 := plcL_sound hV hK job hj r hr pl (V n pl (setAt tr n true)).2.2 hg
        have hm : ∀ y, tr y = true → (V n pl (setAt tr n true)).2.2 y = true := fun y hy => hkp y (h0 y hy)
        refine ⟨h4.1, fun h => ⟨(h4.2 h).1, (h4.2 h).2.1.less hm, ?_⟩⟩
        have h5 := (h4.2 h).2.2
        cases e5 : tr (gi (plcL V job r pl (V n pl (setAt tr n true)).2.2).2.1 job) with
        | false => rfl
        | true => rw [hm _ e5] at h5; cases h5
end
theorem mem_gi {l : List Int} {x : Int} (h : x ∈ l) : ∃ j, j < l.length ∧ gi l j = x := by
  obtain ⟨k, hk, e⟩ := List.getElem_of_mem h
  exact ⟨k, hk, by unfold gi; simp [hk, e]⟩
theorem plF_sound {C : List (List Int)} {P : List Int} {L N : Nat} (hE : ∀ i, i < L → ∀ j, j < (gr C i).length → ∃ m : Nat, gi (gr C i) j = m ∧ m < N) (fr : Nat) (hfr : fr ≤ L) : ∀ d, SoundF C P L N (plF C P fr d)
  | 0 => fun k pl tr hk hg => ⟨fun _ => rfl, fun h => by cases h⟩
  | d + 1 => fun k pl tr hk hg => plcL_sound (vacF_sound (plF_sound hE fr hfr d) (fun k => plF_keeps C P fr d k) fr hfr) (fun n => vacF_keeps (fun k => plF_keeps C P fr d k) P fr n) k hk (gr C k) (fun x hx => by
      obtain ⟨j, hj, e⟩ := mem_gi hx
      obtain ⟨m, h1, h2⟩ := hE k hk j hj
      exact ⟨m, by rw [← e]; exact h1, h2, hx⟩) pl tr hg
theorem grtK_good {C : List (List Int)} {P : List Int} {L N : Nat} (hE : ∀ i, i < L → ∀ j, j < (gr C i).length → ∃ m : Nat, gi (gr C i) j = m ∧ m < N) (D : Nat) {p : List Int} (hp : GoodP C P L N p) : ∀ k, k ≤ L → GoodP C P L N (grtK C P D k p)
  | 0, _ => hp
  | k + 1, hk => by
    have h := plF_sound hE 0 (Nat.zero_le _) D k (grtK C P D k p) noT (by omega) (grtK_good hE D hp k (by omega))
    unfold grtK
    cases e : (plF C P 0 D k (grtK C P D k p) noT).1 with
    | false => rw [h.1 e]; exact grtK_good hE D hp k (by omega)
    | true => exact (h.2 e).1
theorem cK_zero {f : Nat → Bool} : ∀ n, (∀ i, i < n → f i = false) → cK f n = 0
  | 0, _ => rfl
  | k + 1, h => by unfold cK; rw [cK_zero k (fun i hi => h i (by omega)), h k (by omega)]; rfl
theorem good_none {C : List (List Int)} {P : List Int} {L N : Nat} (hP : ∀ m, m < N → 0 ≤ gi P m) : GoodP C P L N (List.replicate L (-1)) := by
  have hgi : ∀ i, i < L → gi (List.replicate L (-1 : Int)) i = -1 := fun i hi => by unfold gi; simp [hi]
  refine ⟨by simp, fun i hi => .inl (hgi i hi), fun m hm => ?_⟩
  rw [cntN_cK, List.length_replicate, cK_zero _ (fun i hi => by rw [hgi i hi]; exact beq_false_of_ne (by omega))]
  exact hP m hm
end Go.Proofs.Ytghlhjiomebmhaa

namespace Go.Proofs.Ytghlhjiomebmhaa
set_option linter.unusedVariables false
set_option linter.unusedSimpArgs false
open Go.RowKit

theorem cK_congr {f g : Nat → Bool} : ∀ n, (∀ i, i < n → f i = g i) → cK f n = cK g n
  | 0, _ => rfl
  | k + 1, h => by unfold cK; rw [cK_congr k (fun i hi => h i (by omega)), h k (by omega)]
theorem cK_or (f g : Nat → Bool) : ∀ n, cK (fun i => f i || g i) n ≤ cK f n + cK g n
  | 0 => by simp [cK]
  | k + 1 => by
    have := cK_or f g k
    unfold cK
    cases e : f k <;> cases e2 : g k <;> simp <;> omega
theorem cK_not (f : Nat → Bool) : ∀ n, cK f n + cK (fun i => !(f i)) n = n
  | 0 => by simp [cK]
  | k + 1 => by
    have := cK_not f k
    unfold cK
    cases e : f k <;> simp <;> omega
/-- The numbers of the nights that are such, summed up. -/
def sumW (one : Nat → Bool) (v : Nat → Nat) : Nat → Nat
  | 0 => 0
  | k + 1 => sumW one v k + (if one k = true then v k else 0)
theorem sumW_le {one : Nat → Bool} {v u : Nat → Nat} : ∀ n, (∀ k, k < n → v k ≤ u k) → sumW one v n ≤ sumW one u n
  | 0, _ => Nat.le_refl _
  | k + 1, h => by
    have h1 := sumW_le (one := one) k (fun i hi => h i (by omega))
    have h2 := h k (by omega)
    unfold sumW; split <;> omega
theorem sumW_add {one : Nat → Bool} {v u : Nat → Nat} {m : Nat} (hm : one m = true) : ∀ n, m < n → (∀ k, k < n → v k ≤ u k) → v m + 1 ≤ u m → sumW one v n + 1 ≤ sumW one u n
  | 0, h, _, _ => by omega
  | k + 1, h, hv, hu => by
    unfold sumW
    by_cases e : m = k
    · subst e
      have h1 := sumW_le (one := one) m (fun i hi => hv i (by omega))
      rw [if_pos hm, if_pos hm]; omega
    · have h1 := sumW_add hm k (by omega) (fun i hi => hv i (by omega)) hu
      have h2 := hv k (by omega)
      split <;> omega
theorem cK_sum {g : Nat → Bool} {p : Nat → Int} {one : Nat → Bool} {N : Nat} : ∀ L, (∀ i, i < L → g i = true → ∃ m : Nat, p i = m ∧ m < N ∧ one m = true) → cK g L ≤ sumW one (fun m => cK (fun i => p i == (m : Int)) L) N
  | 0, _ => Nat.zero_le _
  | L + 1, h => by
    have ih := cK_sum L (fun i hi => h i (by omega))
    have hle : ∀ k, k < N → cK (fun i => p i == (k : Int)) L ≤ cK (fun i => p i == (k : Int)) (L + 1) := fun k _ => by
      show _ ≤ _ + _
      omega
    show cK g L + (if g L = true then 1 else 0) ≤ _
    by_cases e : g L = true
    · rw [if_pos e]
      obtain ⟨m, h1, h2, h3⟩ := h L (by omega) e
      have := sumW_add (v := fun m => cK (fun i => p i == (m : Int)) L) (u := fun m => cK (fun i => p i == (m : Int)) (L + 1)) h3 N h2 hle (by
        show _ + 1 ≤ _ + (if (p L == (m : Int)) = true then 1 else 0)
        rw [h1, if_pos (by simp)]
        exact Nat.le_refl _)
      omega
    · rw [if_neg e]
      have := sumW_le (one := one) N hle
      omega
theorem indB_get {L : Nat} {l : List Int} (h : indB L l = true) {k : Nat} (hk : k < l.length) : prvI l k < gi l k ∧ gi l k < L := by
  unfold indB at h
  rw [Bool.not_eq_true', anyK_iff] at h
  have h1 := h k hk
  unfold badI at h1
  rw [Bool.or_eq_false_iff, decide_eq_false_iff_not, decide_eq_false_iff_not] at h1
  omega
theorem indB_lo {L : Nat} {l : List Int} (h : indB L l = true) : ∀ k, k < l.length → 0 ≤ gi l k
  | 0, hk => by
    have := (indB_get h hk).1
    simp [prvI] at this
    omega
  | k + 1, hk => by
    have h1 := indB_lo h k (by omega)
    have h2 := (indB_get h hk).1
    simp only [prvI] at h2
    omega
theorem indB_nat {L : Nat} {l : List Int} (h : indB L l = true) {k : Nat} (hk : k < l.length) : ∃ m : Nat, gi l k = m ∧ m < L := by
  have h1 := indB_lo h k hk
  have h2 := (indB_get h hk).2
  exact ⟨(gi l k).toNat, by omega, by omega⟩
theorem indB_mono {L : Nat} {l : List Int} (h : indB L l = true) : ∀ k j, j < k → k < l.length → gi l j < gi l k
  | 0, j, hj, _ => by omega
  | k + 1, j, hj, hk => by
    have h1 := (indB_get h hk).1
    simp only [prvI] at h1
    by_cases e : j = k
    · subst e; exact h1
    · have := indB_mono h k j (by omega) (by omega)
      omega
/-- Is a job in the first q of a list? -/
def inL (l : List Int) (q i : Nat) : Bool := anyK (fun j => gi l j == (i : Int)) q
theorem cK_inL {L : Nat} {l : List Int} (h : indB L l = true) : ∀ q, q ≤ l.length → cK (inL l q) L = q
  | 0, _ => cK_zero _ (fun i _ => rfl)
  | q + 1, hq => by
    have ih := cK_inL h q (by omega)
    obtain ⟨m, hm, hmL⟩ := indB_nat h (show q < l.length by omega)
    have hnot : inL l q m = false := anyK_false _ fun j hj => beq_false_of_ne (by have := indB_mono h q j hj (by omega); omega)
    have hf : ∀ i, inL l (q + 1) i = (inL l q i || (m == i)) := fun i => by
      show (anyK _ q || (gi l q == (i : Int))) = _
      rw [hm]
      congr 1
      rw [Bool.eq_iff_iff]; simp only [beq_iff_eq]; omega
    have key : ∀ n, cK (inL l (q + 1)) n = cK (inL l q) n + (if m < n then 1 else 0) := fun n => by
      induction n with
      | zero => simp [cK]
      | succ n ihn =>
        unfold cK
        rw [ihn, hf n]
        by_cases e : m = n
        · subst e
          rw [hnot]; simp
        · have e2 : (m == n) = false := beq_false_of_ne e
          rw [e2, Bool.or_false]
          have e4 : (if m < n + 1 then 1 else 0 : Nat) = if m < n then 1 else 0 := by
            split <;> split <;> omega
          rw [e4]
          omega
    rw [key L, ih, if_pos hmL]
theorem pS_sum {js : List Jo} {ns : List Ni} {l : List Int} (hp : ∀ i, i < ns.length → 0 ≤ (gn ns i).p) : ∀ k, k ≤ ns.length → pS js ns l k = (sumW (fun m => oneB js l (gn ns m) l.length) (fun m => (gn ns m).p.toNat) k : Nat)
  | 0, _ => rfl
  | k + 1, hk => by
    have ih := pS_sum (js := js) (l := l) hp k (by omega)
    have h1 := hp k (by omega)
    unfold pS sumW
    rw [ih]
    split
    · omega
    · omega
/-- A right plan does no more jobs than any list of jobs and the places of their nights let. -/
theorem done_le {js : List Jo} {ns : List Ni} {pl l : List Int} (hg : GoodP (chL js ns) (psL ns) js.length ns.length pl) (hp : ∀ i, i < ns.length → 0 ≤ (gn ns i).p) (hi : indB js.length l = true) :
    dnN pl ≤ js.length - l.length + pS js ns l ns.length := by
  rw [pS_sum hp ns.length (Nat.le_refl _)]
  have h1 : dnN pl = js.length - (cK (fun i => gi pl i == -1) js.length : Nat) := by unfold dnN; rw [cntN_cK, hg.len]
  have h2 := cK_not (fun i => gi pl i == -1) js.length
  have h3 := cK_inL hi l.length (Nat.le_refl _)
  have h4 := cK_not (inL l l.length) js.length
  have h5 : cK (fun i => !(gi pl i == -1)) js.length ≤ cK (fun i => !(inL l l.length i) || (inL l l.length i && !(gi pl i == -1))) js.length := cK_le _ fun i _ h => by
    cases inL l l.length i <;> simp_all
  have h6 := cK_or (fun i => !(inL l l.length i)) (fun i => inL l l.length i && !(gi pl i == -1)) js.length
  have h7 : cK (fun i => inL l l.length i && !(gi pl i == -1)) js.length ≤ sumW (fun m => oneB js l (gn ns m) l.length) (fun m => cK (fun i => gi pl i == (m : Int)) js.length) ns.length := cK_sum (p := fun i => gi pl i) js.length fun i hiL h => by
    rw [Bool.and_eq_true] at h
    rcases hg.ent i hiL with e | ⟨m, e1, e2, e3⟩
    · rw [e] at h; simp at h
    · refine ⟨m, e1, e2, ?_⟩
      rw [gr_chL js ns hiL] at e3
      obtain ⟨m', q1, q2, q3⟩ := selK_mem _ _ _ e3
      obtain rfl : m = m' := by omega
      have hin := h.1
      unfold inL at hin
      cases ho : oneB js l (gn ns m) l.length with
      | true => rfl
      | false =>
        unfold oneB at ho
        rw [anyK_iff] at ho
        have hno : anyK (fun j => gi l j == (i : Int)) l.length = false := anyK_false _ fun j hj => beq_false_of_ne fun e => by
          have := ho j hj
          rw [e, Int.toNat_natCast] at this
          rw [q3] at this; cases this
        rw [hno] at hin; cases hin
  have h8 : sumW (fun m => oneB js l (gn ns m) l.length) (fun m => cK (fun i => gi pl i == (m : Int)) js.length) ns.length ≤ sumW (fun m => oneB js l (gn ns m) l.length) (fun m => (gn ns m).p.toNat) ns.length := sumW_le _ fun m hm => by
    have := hg.cap m hm
    rw [cntN_cK, hg.len, gi_psL ns hm] at this
    omega
  rw [h1]
  omega
/-- What the search finds is right. -/
theorem grtL_good {js : List Jo} {ns : List Ni} (hp : ∀ i, i < ns.length → 0 ≤ (gn ns i).p) : GoodP (chL js ns) (psL ns) js.length ns.length (grtL js ns) := by
  unfold grtL
  exact grtK_good (fun i hi j hj => by
    rw [gr_chL js ns hi] at hj ⊢
    obtain ⟨m, h1, h2, _⟩ := selK_gi _ _ hj
    exact ⟨m, h1, h2⟩) _ (good_none (fun m hm => by rw [gi_psL ns hm]; exact hp m hm)) _ (Nat.le_refl _)
end Go.Proofs.Ytghlhjiomebmhaa

namespace Go.Proofs.Ytghlhjiomebmhaa
set_option linter.unusedVariables false
set_option linter.unusedSimpArgs false
open Go.RowKit

/-- Nights that are full, whose jobs have no other choices. -/
structure Closed (C : List (List Int)) (P : List Int) (L N : Nat) (T : Int → Bool) (pl : List Int) : Prop where
  neg : T (-1) = false
  full : ∀ m : Nat, m < N → T m = true → gi P m ≤ cntN pl m
  clo : ∀ k, k < L → T (gi pl k) = true → ∀ x, x ∈ gr C k → T x = true
/-- Two plans have the same jobs in these nights. -/
def Agree (T : Int → Bool) (pl pl' : List Int) : Prop := ∀ i, (T (gi pl i) = true → gi pl' i = gi pl i) ∧ (T (gi pl' i) = true → gi pl' i = gi pl i)
theorem Agree.refl (T : Int → Bool) (pl : List Int) : Agree T pl pl := fun i => ⟨fun _ => rfl, fun _ => rfl⟩
section
variable {C : List (List Int)} {P : List Int} {L N : Nat} {T : Int → Bool}
theorem Closed.agree {pl pl' : List Int} (h : Closed C P L N T pl) (ha : Agree T pl pl') (hl : pl'.length = pl.length) : Closed C P L N T pl' := by
  refine ⟨h.neg, fun m hm hT => ?_, fun k hk hT => ?_⟩
  · have h1 := h.full m hm hT
    rw [cntN_cK] at h1 ⊢
    rw [hl]
    rw [cK_congr (g := fun k => gi pl k == (m : Int)) pl.length (fun i hi => ?_)]
    · exact h1
    · rw [Bool.eq_iff_iff]
      simp only [beq_iff_eq]
      constructor
      · intro e; rw [← (ha i).2 (by rw [e]; exact hT)]; exact e
      · intro e; rw [(ha i).1 (by rw [e]; exact hT)]; exact e
  · have e := (ha k).2 hT
    rw [e] at hT
    exact h.clo k hk hT
def BlkF (C : List (List Int)) (P : List Int) (L N : Nat) (T : Int → Bool) (F : Nat → List Int → (Int → Bool) → Srch) : Prop := ∀ k pl tr, k < L → GoodP C P L N pl → Closed C P L N T pl →
  ((∀ x, x ∈ gr C k → T x = true) → (F k pl tr).1 = false) ∧ ((F k pl tr).1 = true → Agree T pl (F k pl tr).2.1)
theorem vacL_blk {F : Nat → List Int → (Int → Bool) → Srch} (hB : BlkF C P L N T F) (hF : SoundF C P L N F) (n : Nat) (hn : n < N) : ∀ m k pl tr, m + k ≤ L → GoodP C P L N pl → Closed C P L N T pl →
    (T n = true → (vacL F n m k pl tr).1 = false) ∧ ((vacL F n m k pl tr).1 = true → Agree T pl (vacL F n m k pl tr).2.1)
  | 0, k, pl, tr, _, _, _ => ⟨fun _ => rfl, fun h => by cases h⟩
  | m + 1, k, pl, tr, hmk, hg, hc => by
    unfold vacL
    by_cases e : gi pl k = n
    · rw [if_pos e]
      have h1 := hB k pl tr (by omega) hg hc
      have h2 := hF k pl tr (by omega) hg
      by_cases e2 : (F k pl tr).1 = true
      · rw [if_pos e2]
        refine ⟨fun hT => ?_, fun _ => h1.2 e2⟩
        have := h1.1 (hc.clo k (by omega) (by rw [e]; exact hT))
        rw [this] at e2; cases e2
      · rw [if_neg e2, h2.1 (by simpa using e2)]
        exact vacL_blk hB hF n hn m (k + 1) pl _ (by omega) hg hc
    · rw [if_neg e]
      exact vacL_blk hB hF n hn m (k + 1) pl tr (by omega) hg hc
theorem vacF_blk {F : Nat → List Int → (Int → Bool) → Srch} (hB : BlkF C P L N T F) (hF : SoundF C P L N F) (fr : Nat) (hfr : fr ≤ L) (n : Nat) (hn : n < N) (pl : List Int) (tr : Int → Bool) (hg : GoodP C P L N pl) (hc : Closed C P L N T pl) :
    (T n = true → (vacF F P fr n pl tr).1 = false) ∧ ((vacF F P fr n pl tr).1 = true → Agree T pl (vacF F P fr n pl tr).2.1) := by
  unfold vacF
  rw [Int.toNat_natCast]
  by_cases e : cntN pl n < gi P n
  · rw [if_pos e]
    refine ⟨fun hT => ?_, fun _ => Agree.refl _ _⟩
    have := hc.full n hn hT
    omega
  · rw [if_neg e]
    exact vacL_blk hB hF n hn _ _ pl tr (by rw [hg.len]; omega) hg hc
theorem plcL_blk {V : Int → List Int → (Int → Bool) → Srch} (hV : ∀ (n : Nat) pl tr, n < N → GoodP C P L N pl → Closed C P L N T pl → (T n = true → (V n pl tr).1 = false) ∧ ((V n pl tr).1 = true → Agree T pl (V n pl tr).2.1))
    (hS : SoundV C P L N V) (job : Nat) (hj : job < L) : ∀ l : List Int, (∀ x : Int, x ∈ l → ∃ m : Nat, x = m ∧ m < N ∧ x ∈ gr C job) → ∀ pl tr, GoodP C P L N pl → Closed C P L N T pl →
    ((∀ x, x ∈ gr C job → T x = true) → (plcL V job l pl tr).1 = false) ∧ ((plcL V job l pl tr).1 = true → Agree T pl (plcL V job l pl tr).2.1)
  | [], _, pl, tr, hg, hc => ⟨fun _ => rfl, fun h => by cases h⟩
  | x :: r, hl, pl, tr, hg, hc => by
    obtain ⟨n, rfl, hn, hx⟩ := hl x (by simp)
    have hr : ∀ y : Int, y ∈ r → ∃ m : Nat, y = m ∧ m < N ∧ y ∈ gr C job := fun y hy => hl y (List.mem_cons_of_mem _ hy)
    unfold plcL
    by_cases e : tr n = true
    · rw [if_pos e]; exact plcL_blk hV hS job hj r hr pl tr hg hc
    · rw [if_neg e]
      have hs : setAt tr (n : Int) true n = true := by unfold setAt; rw [if_pos rfl]
      have h1 := hV n pl (setAt tr n true) hn hg hc
      have h2 := hS n pl (setAt tr n true) hn hs hg
      by_cases e2 : (V n pl (setAt tr n true)).1 = true
      · rw [if_pos e2]
        have hTn : T n = false := by
          cases e3 : T n with
          | false => rfl
          | true => rw [h1.1 e3] at e2; cases e2
        obtain ⟨g1, _, _⟩ := h2.2 e2
        have ha := h1.2 e2
        have hjl : job < (V n pl (setAt tr n true)).2.1.length := by rw [g1.len]; exact hj
        refine ⟨fun hT => ?_, fun _ i => ?_⟩
        · rw [hT n hx] at hTn; cases hTn
        · show (T (gi pl i) = true → gi ((V n pl (setAt tr n true)).2.1.set job n) i = gi pl i) ∧ (T (gi ((V n pl (setAt tr n true)).2.1.set job n) i) = true → gi ((V n pl (setAt tr n true)).2.1.set job n) i = gi pl i)
          rw [gi_set _ job n i hjl]
          by_cases e3 : i = job
          · subst e3
            rw [if_pos rfl]
            refine ⟨fun hT => ?_, fun hT => ?_⟩
            · rw [hc.clo i hj hT n hx] at hTn; cases hTn
            · rw [hT] at hTn; cases hTn
          · rw [if_neg e3]; exact ha i
      · rw [if_neg e2, h2.1 (by simpa using e2)]
        exact plcL_blk hV hS job hj r hr pl _ hg hc
theorem plF_blk (hE : ∀ i, i < L → ∀ j, j < (gr C i).length → ∃ m : Nat, gi (gr C i) j = m ∧ m < N) (fr : Nat) (hfr : fr ≤ L) : ∀ d, BlkF C P L N T (plF C P fr d)
  | 0 => fun k pl tr hk hg hc => ⟨fun _ => rfl, fun h => by cases h⟩
  | d + 1 => fun k pl tr hk hg hc => plcL_blk (fun n pl tr hn hg hc => vacF_blk (plF_blk hE fr hfr d) (plF_sound hE fr hfr d) fr hfr n hn pl tr hg hc)
      (vacF_sound (plF_sound hE fr hfr d) (fun k => plF_keeps C P fr d k) fr hfr) k hk (gr C k) (fun x hx => by
      obtain ⟨j, hj, e⟩ := mem_gi hx
      obtain ⟨m, h1, h2⟩ := hE k hk j hj
      exact ⟨m, by rw [← e]; exact h1, h2, hx⟩) pl tr hg hc
/-- What a search that fails has found out. -/
def Found (C : List (List Int)) (P : List Int) (L N fr : Nat) (pl : List Int) (tr tr' : Int → Bool) : Prop :=
  ∀ x, tr' x = true → tr x = true ∨ ∃ m : Nat, x = m ∧ m < N ∧ gi P m ≤ cntN pl m ∧ ∀ k, fr ≤ k → k < L → gi pl k = m → ∀ y, y ∈ gr C k → tr' y = true
theorem Found.refl (fr : Nat) (pl : List Int) (tr : Int → Bool) : Found C P L N fr pl tr tr := fun x h => .inl h
theorem Found.trans {fr : Nat} {pl : List Int} {a b c : Int → Bool} (h1 : Found C P L N fr pl a b) (h2 : Found C P L N fr pl b c) (hm : ∀ x, b x = true → c x = true) : Found C P L N fr pl a c := fun x hx => by
  rcases h2 x hx with h | h
  · rcases h1 x h with h | ⟨m, e, q1, q2, q3⟩
    · exact .inl h
    · exact .inr ⟨m, e, q1, q2, fun k h1 h2 h3 y hy => hm y (q3 k h1 h2 h3 y hy)⟩
  · exact .inr h
def CompF (C : List (List Int)) (P : List Int) (L N fr d : Nat) (F : Nat → List Int → (Int → Bool) → Srch) : Prop := ∀ k pl tr, k < L → GoodP C P L N pl → untr tr N < d → (F k pl tr).1 = false →
  (∀ x, x ∈ gr C k → (F k pl tr).2.2 x = true) ∧ Found C P L N fr pl tr (F k pl tr).2.2
theorem vacL_comp {F : Nat → List Int → (Int → Bool) → Srch} {fr d : Nat} (hC : CompF C P L N fr d F) (hF : SoundF C P L N F) (hK : ∀ k, Keeps (F k)) (n : Nat) : ∀ m k pl tr, m + k ≤ L → GoodP C P L N pl → untr tr N < d → (vacL F n m k pl tr).1 = false →
    (∀ j, k ≤ j → j < k + m → gi pl j = n → ∀ x, x ∈ gr C j → (vacL F n m k pl tr).2.2 x = true) ∧ Found C P L N fr pl tr (vacL F n m k pl tr).2.2
  | 0, k, pl, tr, _, _, _, _ => ⟨fun j h1 h2 => by omega, Found.refl _ _ _⟩
  | m + 1, k, pl, tr, hmk, hg, hu, hf => by
    unfold vacL at hf ⊢
    by_cases e : gi pl k = n
    · rw [if_pos e] at hf ⊢
      by_cases e2 : (F k pl tr).1 = true
      · rw [if_pos e2] at hf; cases hf
      · have e3 : (F k pl tr).1 = false := by simpa using e2
        have h1 := hC k pl tr (by omega) hg hu e3
        have hs := (hF k pl tr (by omega) hg).1 e3
        have hk := (hK k pl tr).2
        rw [if_neg e2, hs] at hf ⊢
        have hu2 : untr (F k pl tr).2.2 N < d := Nat.lt_of_le_of_lt (untr_mono hk N) hu
        have h2 := vacL_comp hC hF hK n m (k + 1) pl (F k pl tr).2.2 (by omega) hg hu2 hf
        have hk2 := (vacL_keeps hK n m (k + 1) pl (F k pl tr).2.2).2
        refine ⟨fun j q1 q2 q3 x hx => ?_, h1.2.trans h2.2 hk2⟩
        by_cases ej : j = k
        · subst ej; exact hk2 x (h1.1 x hx)
        · exact h2.1 j (by omega) (by omega) q3 x hx
    · rw [if_neg e] at hf ⊢
      have h2 := vacL_comp hC hF hK n m (k + 1) pl tr (by omega) hg hu hf
      refine ⟨fun j q1 q2 q3 x hx => ?_, h2.2⟩
      by_cases ej : j = k
      · subst ej; exact absurd q3 e
      · exact h2.1 j (by omega) (by omega) q3 x hx
theorem plcL_comp {F : Nat → List Int → (Int → Bool) → Srch} {fr d : Nat} (hC : CompF C P L N fr d F) (hF : SoundF C P L N F) (hK : ∀ k, Keeps (F k)) (hfr : fr ≤ L) (job : Nat) (hj : job < L) : ∀ l : List Int, (∀ x : Int, x ∈ l → ∃ m : Nat, x = m ∧ m < N ∧ x ∈ gr C job) → ∀ pl tr, GoodP C P L N pl → untr tr N < d + 1 →
    (plcL (vacF F P fr) job l pl tr).1 = false → (∀ x, x ∈ l → (plcL (vacF F P fr) job l pl tr).2.2 x = true) ∧ Found C P L N fr pl tr (plcL (vacF F P fr) job l pl tr).2.2
  | [], _, pl, tr, _, _, _ => ⟨fun x h => by simp at h, Found.refl _ _ _⟩
  | x :: r, hl, pl, tr, hg, hu, hf => by
    obtain ⟨n, rfl, hn, hx⟩ := hl x (by simp)
    have hr : ∀ y : Int, y ∈ r → ∃ m : Nat, y = m ∧ m < N ∧ y ∈ gr C job := fun y hy => hl y (List.mem_cons_of_mem _ hy)
    have hKV : ∀ n, Keeps (vacF F P fr n) := fun n => vacF_keeps hK P fr n
    unfold plcL at hf ⊢
    by_cases e : tr n = true
    · rw [if_pos e] at hf ⊢
      have h1 := plcL_comp hC hF hK hfr job hj r hr pl tr hg hu hf
      refine ⟨fun y hy => ?_, h1.2⟩
      rcases List.mem_cons.1 hy with rfl | hy
      · exact (plcL_keeps hKV job r pl tr).2 _ e
      · exact h1.1 y hy
    · rw [if_neg e] at hf ⊢
      have e0 : tr n = false := by simpa using e
      have hs : setAt tr (n : Int) true n = true := by unfold setAt; rw [if_pos rfl]
      by_cases e2 : (vacF F P fr n pl (setAt tr n true)).1 = true
      · rw [if_pos e2] at hf; cases hf
      · have e3 : (vacF F P fr n pl (setAt tr n true)).1 = false := by simpa using e2
        have hpl := (vacF_sound hF hK fr hfr n pl (setAt tr n true) hn hs hg).1 e3
        have hk := (hKV n pl (setAt tr n true)).2
        have hu1 : untr (setAt tr n true) N < d := by have := untr_set e0 N hn; omega
        have hu2 : untr (vacF F P fr n pl (setAt tr n true)).2.2 N < d + 1 := by
          have := untr_mono hk N
          omega
        -- what the failure for this night says
        have key : (gi P n ≤ cntN pl n ∧ ∀ k, fr ≤ k → k < L → gi pl k = n → ∀ y, y ∈ gr C k → (vacF F P fr n pl (setAt tr n true)).2.2 y = true) ∧ Found C P L N fr pl (setAt tr n true) (vacF F P fr n pl (setAt tr n true)).2.2 := by
          unfold vacF at e3 ⊢
          rw [Int.toNat_natCast] at e3 ⊢
          by_cases e4 : cntN pl n < gi P n
          · rw [if_pos e4] at e3; cases e3
          · rw [if_neg e4] at e3 ⊢
            have h5 := vacL_comp hC hF hK n (pl.length - fr) fr pl (setAt tr n true) (by rw [hg.len]; omega) hg hu1 e3
            exact ⟨⟨by omega, fun k q1 q2 q3 y hy => h5.1 k q1 (by rw [hg.len]; omega) q3 y hy⟩, h5.2⟩
        rw [if_neg e2, hpl] at hf ⊢
        have h1 := plcL_comp hC hF hK hfr job hj r hr pl _ hg hu2 hf
        have hk2 := (plcL_keeps hKV job r pl (vacF F P fr n pl (setAt tr n true)).2.2).2
        have hA : Found C P L N fr pl tr (vacF F P fr n pl (setAt tr n true)).2.2 := fun y hy => by
          rcases key.2 y hy with h | h
          · unfold setAt at h
            by_cases ey : y = n
            · subst ey; exact .inr ⟨n, rfl, hn, key.1.1, key.1.2⟩
            · rw [if_neg ey] at h; exact .inl h
          · exact .inr h
        refine ⟨fun y hy => ?_, hA.trans h1.2 hk2⟩
        rcases List.mem_cons.1 hy with rfl | hy
        · exact hk2 _ (hk _ hs)
        · exact h1.1 y hy
theorem plF_comp (hE : ∀ i, i < L → ∀ j, j < (gr C i).length → ∃ m : Nat, gi (gr C i) j = m ∧ m < N) (fr : Nat) (hfr : fr ≤ L) : ∀ d, CompF C P L N fr d (plF C P fr d)
  | 0 => fun k pl tr hk hg hu hf => absurd hu (Nat.not_lt_zero _)
  | d + 1 => fun k pl tr hk hg hu hf => plcL_comp (plF_comp hE fr hfr d) (plF_sound hE fr hfr d) (fun k => plF_keeps C P fr d k) hfr k hk (gr C k) (fun x hx => by
      obtain ⟨j, hj, e⟩ := mem_gi hx
      obtain ⟨m, h1, h2⟩ := hE k hk j hj
      exact ⟨m, by rw [← e]; exact h1, h2, hx⟩) pl tr hg hu hf
/-- A search that fails from nothing leaves nights that are full and closed. -/
theorem closed_of (hE : ∀ i, i < L → ∀ j, j < (gr C i).length → ∃ m : Nat, gi (gr C i) j = m ∧ m < N) {k : Nat} {pl : List Int} (hk : k < L) (hg : GoodP C P L N pl) (hf : (plF C P 0 (N + 1) k pl noT).1 = false) :
    Closed C P L N (plF C P 0 (N + 1) k pl noT).2.2 pl ∧ ∀ x, x ∈ gr C k → (plF C P 0 (N + 1) k pl noT).2.2 x = true := by
  have h := plF_comp hE 0 (Nat.zero_le _) (N + 1) k pl noT hk hg (by rw [untr_noT]; omega) hf
  have hm : ∀ x, (plF C P 0 (N + 1) k pl noT).2.2 x = true → ∃ m : Nat, x = m ∧ m < N ∧ gi P m ≤ cntN pl m ∧ ∀ k', 0 ≤ k' → k' < L → gi pl k' = m → ∀ y, y ∈ gr C k' → (plF C P 0 (N + 1) k pl noT).2.2 y = true := fun x hx => by
    rcases h.2 x hx with h | h
    · cases h
    · exact h
  refine ⟨⟨?_, fun m hmN hT => ?_, fun j hj hT x hx => ?_⟩, h.1⟩
  · cases e : (plF C P 0 (N + 1) k pl noT).2.2 (-1) with
    | false => rfl
    | true => obtain ⟨m, e2, _⟩ := hm _ e; omega
  · obtain ⟨m', e, _, q, _⟩ := hm _ hT
    obtain rfl : m = m' := by omega
    exact q
  · obtain ⟨m', e, _, _, q⟩ := hm _ hT
    exact q j (Nat.zero_le _) hj e x hx
end
end Go.Proofs.Ytghlhjiomebmhaa

namespace Go.Proofs.Ytghlhjiomebmhaa
set_option linter.unusedVariables false
set_option linter.unusedSimpArgs false
open Go.RowKit

section
variable {C : List (List Int)} {P : List Int} {L N : Nat}
def NatF (C : List (List Int)) (P : List Int) (L N : Nat) (F : Nat → List Int → (Int → Bool) → Srch) : Prop := ∀ k pl tr, k < L → GoodP C P L N pl → (F k pl tr).1 = true → 0 ≤ gi (F k pl tr).2.1 k ∧ ∀ i, gi (F k pl tr).2.1 i = gi pl i ∨ 0 ≤ gi (F k pl tr).2.1 i
theorem vacL_nat {F : Nat → List Int → (Int → Bool) → Srch} (hA : NatF C P L N F) (hF : SoundF C P L N F) (n : Nat) : ∀ m k pl tr, m + k ≤ L → GoodP C P L N pl → (vacL F n m k pl tr).1 = true → ∀ i, gi (vacL F n m k pl tr).2.1 i = gi pl i ∨ 0 ≤ gi (vacL F n m k pl tr).2.1 i
  | 0, k, pl, tr, _, _, h => by cases h
  | m + 1, k, pl, tr, hmk, hg, h => by
    unfold vacL at h ⊢
    by_cases e : gi pl k = n
    · rw [if_pos e] at h ⊢
      by_cases e2 : (F k pl tr).1 = true
      · rw [if_pos e2]; exact (hA k pl tr (by omega) hg e2).2
      · rw [if_neg e2, (hF k pl tr (by omega) hg).1 (by simpa using e2)] at h ⊢
        exact vacL_nat hA hF n m (k + 1) pl _ (by omega) hg h
    · rw [if_neg e] at h ⊢
      exact vacL_nat hA hF n m (k + 1) pl tr (by omega) hg h
theorem plcL_nat {F : Nat → List Int → (Int → Bool) → Srch} {fr : Nat} (hA : NatF C P L N F) (hF : SoundF C P L N F) (hK : ∀ k, Keeps (F k)) (hfr : fr ≤ L) (job : Nat) (hj : job < L) : ∀ l : List Int, (∀ x : Int, x ∈ l → ∃ m : Nat, x = m ∧ m < N) → ∀ pl tr, GoodP C P L N pl →
    (plcL (vacF F P fr) job l pl tr).1 = true → 0 ≤ gi (plcL (vacF F P fr) job l pl tr).2.1 job ∧ ∀ i, gi (plcL (vacF F P fr) job l pl tr).2.1 i = gi pl i ∨ 0 ≤ gi (plcL (vacF F P fr) job l pl tr).2.1 i
  | [], _, pl, tr, _, h => by cases h
  | x :: r, hl, pl, tr, hg, h => by
    obtain ⟨n, rfl, hn⟩ := hl x (by simp)
    have hr : ∀ y : Int, y ∈ r → ∃ m : Nat, y = m ∧ m < N := fun y hy => hl y (List.mem_cons_of_mem _ hy)
    unfold plcL at h ⊢
    by_cases e : tr n = true
    · rw [if_pos e] at h ⊢; exact plcL_nat hA hF hK hfr job hj r hr pl tr hg h
    · rw [if_neg e] at h ⊢
      have hs : setAt tr (n : Int) true n = true := by unfold setAt; rw [if_pos rfl]
      have hS := vacF_sound hF hK fr hfr n pl (setAt tr n true) hn hs hg
      by_cases e2 : (vacF F P fr n pl (setAt tr n true)).1 = true
      · rw [if_pos e2]
        obtain ⟨g1, _, _⟩ := hS.2 e2
        have hjl : job < (vacF F P fr n pl (setAt tr n true)).2.1.length := by rw [g1.len]; exact hj
        have hv : ∀ i, gi (vacF F P fr n pl (setAt tr n true)).2.1 i = gi pl i ∨ 0 ≤ gi (vacF F P fr n pl (setAt tr n true)).2.1 i := by
          unfold vacF at e2 ⊢
          split at e2
          · next e3 => rw [if_pos e3]; exact fun i => .inl rfl
          · next e3 => rw [if_neg e3]; exact vacL_nat hA hF n _ _ pl _ (by rw [hg.len]; omega) hg e2
        refine ⟨?_, fun i => ?_⟩
        · show 0 ≤ gi ((vacF F P fr n pl (setAt tr n true)).2.1.set job n) job
          rw [gi_set _ job n job hjl, if_pos rfl]; omega
        · show gi ((vacF F P fr n pl (setAt tr n true)).2.1.set job n) i = gi pl i ∨ 0 ≤ gi ((vacF F P fr n pl (setAt tr n true)).2.1.set job n) i
          rw [gi_set _ job n i hjl]
          by_cases e3 : i = job
          · rw [if_pos e3]; exact .inr (by omega)
          · rw [if_neg e3]; exact hv i
      · rw [if_neg e2, hS.1 (by simpa using e2)] at h ⊢
        exact plcL_nat hA hF hK hfr job hj r hr pl _ hg h
theorem plF_nat (hE : ∀ i, i < L → ∀ j, j < (gr C i).length → ∃ m : Nat, gi (gr C i) j = m ∧ m < N) (fr : Nat) (hfr : fr ≤ L) : ∀ d, NatF C P L N (plF C P fr d)
  | 0 => fun k pl tr hk hg h => by cases h
  | d + 1 => fun k pl tr hk hg h => plcL_nat (plF_nat hE fr hfr d) (plF_sound hE fr hfr d) (fun k => plF_keeps C P fr d k) hfr k hk (gr C k) (fun x hx => by
      obtain ⟨j, hj, e⟩ := mem_gi hx
      obtain ⟨m, h1, h2⟩ := hE k hk j hj
      exact ⟨m, by rw [← e]; exact h1, h2⟩) pl tr hg h
/-- A job that has no night in the end finds none in the end. -/
theorem grt_final (hE : ∀ i, i < L → ∀ j, j < (gr C i).length → ∃ m : Nat, gi (gr C i) j = m ∧ m < N) {p : List Int} (hp : GoodP C P L N p) {u : Nat} (hu : u < L) (hn : gi (grtK C P (N + 1) L p) u = -1) :
    (plF C P 0 (N + 1) u (grtK C P (N + 1) L p) noT).1 = false := by
  have hG := grtK_good hE (N + 1) hp
  have stepN : ∀ k, k < L → ∀ i, 0 ≤ gi (grtK C P (N + 1) k p) i → 0 ≤ gi (grtK C P (N + 1) (k + 1) p) i := fun k hk i h0 => by
    show 0 ≤ gi (plF C P 0 (N + 1) k (grtK C P (N + 1) k p) noT).2.1 i
    cases e : (plF C P 0 (N + 1) k (grtK C P (N + 1) k p) noT).1 with
    | false => rw [(plF_sound hE 0 (Nat.zero_le _) (N + 1) k _ noT hk (hG k (by omega))).1 e]; exact h0
    | true =>
      rcases (plF_nat hE 0 (Nat.zero_le _) (N + 1) k _ noT hk (hG k (by omega)) e).2 i with h | h
      · rw [h]; exact h0
      · exact h
  cases e : (plF C P 0 (N + 1) u (grtK C P (N + 1) u p) noT).1 with
  | true =>
    have h1 := (plF_nat hE 0 (Nat.zero_le _) (N + 1) u _ noT hu (hG u (by omega)) e).1
    have h2 : ∀ j, u + 1 + j ≤ L → 0 ≤ gi (grtK C P (N + 1) (u + 1 + j) p) u := fun j => by
      induction j with
      | zero => intro _; exact h1
      | succ j ih => intro hj; exact stepN (u + 1 + j) (by omega) u (ih (by omega))
    have h3 := h2 (L - (u + 1)) (by omega)
    rw [show u + 1 + (L - (u + 1)) = L by omega, hn] at h3
    omega
  | false =>
    obtain ⟨hc, hx⟩ := closed_of hE hu (hG u (by omega)) e
    generalize (plF C P 0 (N + 1) u (grtK C P (N + 1) u p) noT).2.2 = T at *
    have h2 : ∀ j, u + j ≤ L → Closed C P L N T (grtK C P (N + 1) (u + j) p) := fun j => by
      induction j with
      | zero => intro _; exact hc
      | succ j ih =>
        intro hj
        have hcj := ih (by omega)
        have hgj := hG (u + j) (by omega)
        show Closed C P L N T (plF C P 0 (N + 1) (u + j) (grtK C P (N + 1) (u + j) p) noT).2.1
        cases e2 : (plF C P 0 (N + 1) (u + j) (grtK C P (N + 1) (u + j) p) noT).1 with
        | false => rw [(plF_sound hE 0 (Nat.zero_le _) (N + 1) (u + j) _ noT (by omega) hgj).1 e2]; exact hcj
        | true => exact hcj.agree ((plF_blk hE 0 (Nat.zero_le _) (N + 1) (u + j) _ noT (by omega) hgj hcj).2 e2) (plF_keeps C P 0 (N + 1) (u + j) _ noT).1
    have h3 := h2 (L - u) (by omega)
    rw [show u + (L - u) = L by omega] at h3
    exact (plF_blk hE 0 (Nat.zero_le _) (N + 1) u _ noT hu (hG L (Nat.le_refl _)) h3).1 hx
end
theorem selK_pair (p : Nat → Bool) : ∀ n, (selK p n).Pairwise (· < ·)
  | 0 => List.Pairwise.nil
  | k + 1 => by
    unfold selK
    split
    · rw [List.pairwise_append]
      refine ⟨selK_pair p k, by simp, fun a ha b hb => ?_⟩
      obtain ⟨m, rfl, hm, _⟩ := selK_mem p k a ha
      simp at hb
      omega
    · exact selK_pair p k
theorem indB_selK (p : Nat → Bool) (L : Nat) : indB L (selK p L) = true := by
  unfold indB
  rw [Bool.not_eq_true', anyK_iff]
  intro k hk
  unfold badI
  rw [Bool.or_eq_false_iff, decide_eq_false_iff_not, decide_eq_false_iff_not]
  obtain ⟨m, h1, h2, _⟩ := selK_gi p L hk
  refine ⟨?_, by omega⟩
  cases k with
  | zero => simp only [prvI]; omega
  | succ k =>
    have := List.pairwise_iff_getElem.1 (selK_pair p L) k (k + 1) (by omega) hk (by omega)
    simp only [prvI]
    unfold gi
    simp only [List.getD_eq_getElem?_getD, List.getElem?_eq_getElem hk, List.getElem?_eq_getElem (show k < (selK p L).length by omega), Option.getD_some]
    omega
theorem mem_selK {p : Nat → Bool} : ∀ n m, m < n → p m = true → (m : Int) ∈ selK p n
  | 0, m, h, _ => by omega
  | k + 1, m, h, hp => by
    unfold selK
    by_cases e : m = k
    · subst e; rw [if_pos hp]; simp
    · have := mem_selK (p := p) k m (by omega) hp
      split
      · exact List.mem_append_left _ this
      · exact this
theorem sumW_imp {one two : Nat → Bool} {v u : Nat → Nat} : ∀ n, (∀ k, k < n → one k = true → two k = true ∧ v k ≤ u k) → sumW one v n ≤ sumW two u n
  | 0, _ => Nat.le_refl _
  | k + 1, h => by
    have h1 := sumW_imp (one := one) (two := two) (v := v) (u := u) k (fun i hi => h i (by omega))
    unfold sumW
    by_cases e : one k = true
    · obtain ⟨e1, e2⟩ := h k (by omega) e
      rw [if_pos e, if_pos e1]; omega
    · rw [if_neg e]; omega
theorem sumW_hit (T : Int → Bool) (v : Nat → Nat) (a : Int) : ∀ N, sumW (fun m => T m) (fun m => v m + (if (a == (m : Int)) = true then 1 else 0)) N = sumW (fun m => T m) v N + (if 0 ≤ a ∧ a < N ∧ T a = true then 1 else 0)
  | 0 => by
    rw [if_neg (by omega)]; rfl
  | k + 1 => by
    have ih := sumW_hit T v a k
    unfold sumW
    rw [ih]
    by_cases e : a = k
    · subst e
      cases hT : T k with
      | true =>
        have a1 : ¬ (0 ≤ (k : Int) ∧ (k : Int) < (k : Int) ∧ true = true) := fun h => by omega
        have a2 : (0 ≤ (k : Int) ∧ (k : Int) < ((k + 1 : Nat) : Int) ∧ true = true) := ⟨by omega, by omega, rfl⟩
        rw [if_neg a1, if_pos a2]
        simp only [if_true, beq_self_eq_true]
        omega
      | false => simp [hT]
    · have e2 : (a == (k : Int)) = false := beq_false_of_ne e
      rw [e2]
      have e3 : (0 ≤ a ∧ a < ((k + 1 : Nat) : Int) ∧ T a = true) ↔ (0 ≤ a ∧ a < (k : Int) ∧ T a = true) := by
        constructor
        · intro ⟨q1, q2, q3⟩; exact ⟨q1, by omega, q3⟩
        · intro ⟨q1, q2, q3⟩; exact ⟨q1, by omega, q3⟩
      simp only [e3]
      split <;> split <;> simp <;> omega
theorem sumW_cK (T : Int → Bool) (p : Nat → Int) (N : Nat) : ∀ L, sumW (fun m => T m) (fun m => cK (fun i => p i == (m : Int)) L) N ≤ cK (fun i => T (p i)) L
  | 0 => by
    have : ∀ n, sumW (fun m => T m) (fun m => cK (fun i => p i == (m : Int)) 0) n = 0 := fun n => by
      induction n with
      | zero => rfl
      | succ n ih => unfold sumW; rw [ih]; simp [cK]
    rw [this]; exact Nat.zero_le _
  | L + 1 => by
    have ih := sumW_cK T p N L
    have h1 := sumW_hit T (fun m => cK (fun i => p i == (m : Int)) L) (p L) N
    show sumW (fun m => T m) (fun m => cK (fun i => p i == (m : Int)) L + (if (p L == (m : Int)) = true then 1 else 0)) N ≤ cK (fun i => T (p i)) L + (if T (p L) = true then 1 else 0)
    rw [h1]
    by_cases e : T (p L) = true
    · rw [if_pos e]; split <;> omega
    · rw [if_neg e, if_neg (fun h => e h.2.2)]; omega
/-- The jobs that Shortage names. -/
def shrL (pl : List Int) (u : Nat) (T : Int → Bool) : List Int := selK (fun k => (k == u) || T (gi pl k)) pl.length
/-- They are a shortage. -/
theorem shr_ok {js : List Jo} {ns : List Ni} {pl : List Int} {T : Int → Bool} {u : Nat} (hg : GoodP (chL js ns) (psL ns) js.length ns.length pl) (hp : ∀ i, i < ns.length → 0 ≤ (gn ns i).p) (hu : u < js.length) (hn : gi pl u = -1)
    (hc : Closed (chL js ns) (psL ns) js.length ns.length T pl) (hx : ∀ x, x ∈ gr (chL js ns) u → T x = true) :
    indB js.length (shrL pl u T) = true ∧ pS js ns (shrL pl u T) ns.length < (shrL pl u T).length := by
  have hlen : pl.length = js.length := hg.len
  unfold shrL
  rw [hlen]
  refine ⟨indB_selK _ _, ?_⟩
  rw [pS_sum hp ns.length (Nat.le_refl _)]
  have h1 : sumW (fun m => oneB js (selK (fun k => (k == u) || T (gi pl k)) js.length) (gn ns m) (selK (fun k => (k == u) || T (gi pl k)) js.length).length) (fun m => (gn ns m).p.toNat) ns.length ≤ sumW (fun m => T (m : Int)) (fun m => cK (fun i => gi pl i == (m : Int)) js.length) ns.length := sumW_imp _ fun m hm h => by
    have hex : ∃ i, i < (selK (fun k => (k == u) || T (gi pl k)) js.length).length ∧ fitB (gj js (gi (selK (fun k => (k == u) || T (gi pl k)) js.length) i).toNat) (gn ns m) = true := by
      unfold oneB at h
      apply Classical.byContradiction
      intro hno
      rw [anyK_false _ (fun j hj => by
        cases e : fitB (gj js (gi (selK (fun k => (k == u) || T (gi pl k)) js.length) j).toNat) (gn ns m) with
        | false => rfl
        | true => exact absurd ⟨j, hj, e⟩ hno)] at h
      cases h
    obtain ⟨i, hi, hf⟩ := hex
    obtain ⟨k, e1, e2, e3⟩ := selK_gi _ _ hi
    rw [e1, Int.toNat_natCast] at hf
    have hmem : (m : Int) ∈ gr (chL js ns) k := by
      rw [gr_chL js ns e2]
      exact mem_selK _ m hm hf
    have hT : T (m : Int) = true := by
      rw [Bool.or_eq_true] at e3
      rcases e3 with e3 | e3
      · obtain rfl : k = u := by simpa using e3
        exact hx _ hmem
      · exact hc.clo k e2 e3 _ hmem
    refine ⟨hT, ?_⟩
    have := hc.full m hm hT
    rw [gi_psL ns hm, cntN_cK, hlen] at this
    omega
  have h2 := sumW_cK T (fun i => gi pl i) ns.length js.length
  have h3 : cK (fun i => T (gi pl i)) js.length < cK (fun k => (k == u) || T (gi pl k)) js.length := cK_lt (j := u) (by rw [hn]; exact hc.neg) (by simp) _ hu (fun i _ h => by rw [h]; simp)
  have e := selK_cK (fun k => (k == u) || T (gi pl k)) js.length
  omega
end Go.Proofs.Ytghlhjiomebmhaa
