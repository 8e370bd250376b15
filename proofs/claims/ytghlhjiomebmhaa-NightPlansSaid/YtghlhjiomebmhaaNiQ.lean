/-
  The search of package night keeps plans right: plain mathematics. By an AI agent.
-/
import Derived.Test.YtghlhjiomebmhaaNiX
namespace Go.Proofs.Ytghlhjiomebmhaa
set_option linter.unusedVariables false
set_option linter.unusedSimpArgs false
open Go.RowKit

/-- How many of the numbers below n are such. -/
def cK (f : Nat → Bool) : Nat → Nat
  | 0 => 0
  | k + 1 => cK f k + (if f k = true then 1 else 0)
theorem selK_cK (p : Nat → Bool) : ∀ n, (selK p n).length = cK p n
  | 0 => rfl
  | k + 1 => by
    have := selK_cK p k
    unfold selK cK
    split
    · rw [List.length_append, this]; rfl
    · rw [this]; rfl
theorem cntN_cK (l : List Int) (x : Int) : cntN l x = (cK (fun k => gi l k == x) l.length : Nat) := by unfold cntN; rw [selK_cK]
theorem cK_le {f g : Nat → Bool} : ∀ n, (∀ i, i < n → f i = true → g i = true) → cK f n ≤ cK g n
  | 0, _ => Nat.le_refl _
  | k + 1, h => by
    have := cK_le (f := f) (g := g) k (fun i hi => h i (by omega))
    unfold cK
    by_cases e : f k = true
    · rw [if_pos e, if_pos (h k (by omega) e)]; omega
    · rw [if_neg e]; omega
theorem cK_lt {f g : Nat → Bool} {j : Nat} (hf : f j = false) (hg : g j = true) : ∀ n, j < n → (∀ i, i < n → f i = true → g i = true) → cK f n < cK g n
  | 0, hj, _ => by omega
  | k + 1, hj, h => by
    unfold cK
    by_cases e : j = k
    · subst e
      have := cK_le (f := f) (g := g) j (fun i hi => h i (by omega))
      rw [if_pos hg, if_neg (by rw [hf]; decide)]; omega
    · have := cK_lt hf hg k (by omega) (fun i hi => h i (by omega))
      by_cases e2 : f k = true
      · rw [if_pos e2, if_pos (h k (by omega) e2)]; omega
      · rw [if_neg e2]; omega
theorem cK_one {f g : Nat → Bool} {j : Nat} : ∀ n, (∀ i, i < n → i ≠ j → f i = true → g i = true) → cK f n ≤ cK g n + 1
  | 0, _ => by simp [cK]
  | k + 1, h => by
    unfold cK
    by_cases e : k = j
    · subst e
      have := cK_le (f := f) (g := g) k (fun i hi => h i (by omega) (by omega))
      split <;> omega
    · have := cK_one (f := f) (g := g) (j := j) k (fun i hi => h i (by omega))
      by_cases e2 : f k = true
      · rw [if_pos e2, if_pos (h k (by omega) e e2)]; omega
      · rw [if_neg e2]; omega
/-- A plan that is right for lists of nights and places. -/
structure GoodP (C : List (List Int)) (P : List Int) (L N : Nat) (pl : List Int) : Prop where
  len : pl.length = L
  ent : ∀ i, i < L → gi pl i = -1 ∨ ∃ m : Nat, gi pl i = m ∧ m < N ∧ (m : Int) ∈ gr C i
  cap : ∀ m : Nat, m < N → cntN pl m ≤ gi P m
/-- What changes goes to nights that were not tried. -/
def Moves (tr : Int → Bool) (pl pl' : List Int) : Prop := ∀ i, gi pl' i = gi pl i ∨ tr (gi pl' i) = false
theorem Moves.refl (tr : Int → Bool) (pl : List Int) : Moves tr pl pl := fun i => .inl rfl
theorem Moves.less {tr tr' : Int → Bool} {pl pl' : List Int} (h : Moves tr' pl pl') (ht : ∀ x, tr x = true → tr' x = true) : Moves tr pl pl' := fun i => by
  rcases h i with h | h
  · exact .inl h
  · exact .inr (by
      cases e : tr (gi pl' i) with
      | false => rfl
      | true => rw [ht _ e] at h; cases h)
section
variable (C : List (List Int)) (P : List Int) (L N : Nat)
def SoundF (F : Nat → List Int → (Int → Bool) → Srch) : Prop := ∀ k pl tr, k < L → GoodP C P L N pl →
  ((F k pl tr).1 = false → (F k pl tr).2.1 = pl) ∧ ((F k pl tr).1 = true → GoodP C P L N (F k pl tr).2.1 ∧ Moves tr pl (F k pl tr).2.1 ∧ tr (gi (F k pl tr).2.1 k) = false)
def SoundV (V : Int → List Int → (Int → Bool) → Srch) : Prop := ∀ (n : Nat) pl tr, n < N → tr n = true → GoodP C P L N pl →
  ((V n pl tr).1 = false → (V n pl tr).2.1 = pl) ∧ ((V n pl tr).1 = true → GoodP C P L N (V n pl tr).2.1 ∧ Moves tr pl (V n pl tr).2.1 ∧ cntN (V n pl tr).2.1 n < gi P n)
variable {C P L N}
theorem cnt_less {pl pl' : List Int} {tr : Int → Bool} {n k : Nat} (hl : pl'.length = pl.length) (hk : k < pl.length) (hm : Moves tr pl pl') (ht : tr n = true) (hn : gi pl k = n) (hu : tr (gi pl' k) = false) : cntN pl' n < cntN pl n := by
  rw [cntN_cK, cntN_cK, hl]
  have : cK (fun i => gi pl' i == (n : Int)) pl.length < cK (fun i => gi pl i == (n : Int)) pl.length := by
    refine cK_lt (j := k) ?_ ?_ _ hk fun i hi h => ?_
    · refine beq_false_of_ne fun e => ?_
      rw [e, ht] at hu; cases hu
    · rw [hn]; simp
    · have e : gi pl' i = n := by simpa using h
      rcases hm i with h1 | h1
      · rw [h1] at e; rw [e]; simp
      · rw [e, ht] at h1; cases h1
  omega
theorem vacL_sound {F : Nat → List Int → (Int → Bool) → Srch} (hF : SoundF C P L N F) (hK : ∀ k, Keeps (F k)) (n : Nat) (hn : n < N) : ∀ m k pl tr, m + k ≤ L → tr n = true → GoodP C P L N pl →
    ((vacL F n m k pl tr).1 = false → (vacL F n m k pl tr).2.1 = pl) ∧ ((vacL F n m k pl tr).1 = true → GoodP C P L N (vacL F n m k pl tr).2.1 ∧ Moves tr pl (vacL F n m k pl tr).2.1 ∧ cntN (vacL F n m k pl tr).2.1 n < gi P n)
  | 0, k, pl, tr, _, _, _ => ⟨fun _ => rfl, fun h => by cases h⟩
  | m + 1, k, pl, tr, hmk, ht, hg => by
    unfold vacL
    by_cases e : gi pl k = n
    · rw [if_pos e]
      have h1 := hF k pl tr (by omega) hg
      by_cases e2 : (F k pl tr).1 = true
      · rw [if_pos e2]
        obtain ⟨g1, g2, g3⟩ := h1.2 e2
        refine ⟨fun h => (by cases h), fun _ => ⟨g1, g2, ?_⟩⟩
        have h2 := cnt_less (g1.len.trans hg.len.symm) (by rw [hg.len]; omega) g2 ht e g3
        have h3 := hg.cap n hn
        show cntN (F k pl tr).2.1 n < gi P n
        omega
      · rw [if_neg e2]
        have e3 := h1.1 (by simpa using e2)
        rw [e3]
        have hkp := (hK k pl tr).2
        have h4 := vacL_sound hF hK n hn m (k + 1) pl (F k pl tr).2.2 (by omega) (hkp _ ht) hg
        exact ⟨h4.1, fun h => ⟨(h4.2 h).1, (h4.2 h).2.1.less hkp, (h4.2 h).2.2⟩⟩
    · rw [if_neg e]
      exact vacL_sound hF hK n hn m (k + 1) pl tr (by omega) ht hg
theorem vacF_sound {F : Nat → List Int → (Int → Bool) → Srch} (hF : SoundF C P L N F) (hK : ∀ k, Keeps (F k)) (fr : Nat) (hfr : fr ≤ L) : SoundV C P L N (vacF F P fr) := by
  intro n pl tr hn ht hg
  unfold vacF
  rw [Int.toNat_natCast]
  by_cases e : cntN pl n < gi P n
  · rw [if_pos e]; exact ⟨fun h => (by cases h), fun _ => ⟨hg, Moves.refl _ _, e⟩⟩
  · rw [if_neg e]; exact vacL_sound hF hK n hn _ _ pl tr (by rw [hg.len]; omega) ht hg
theorem good_set {pl : List Int} {n job : Nat} (hg : GoodP C P L N pl) (hj : job < L) (hn : n < N) (hc : (n : Int) ∈ gr C job) (hlt : cntN pl n < gi P n) : GoodP C P L N (pl.set job n) := by
  have hjl : job < pl.length := by rw [hg.len]; exact hj
  refine ⟨by rw [List.length_set]; exact hg.len, fun i hi => ?_, fun m hm => ?_⟩
  · rw [gi_set pl job n i hjl]
    by_cases e : i = job
    · subst e; rw [if_pos rfl]; exact .inr ⟨n, rfl, hn, hc⟩
    · rw [if_neg e]; exact hg.ent i hi
  · have hcap := hg.cap m hm
    rw [cntN_cK] at hcap hlt ⊢
    rw [List.length_set]
    by_cases e : m = n
    · subst e
      have := cK_one (f := fun i => gi (pl.set job (m : Int)) i == (m : Int)) (g := fun i => gi pl i == (m : Int)) (j := job) pl.length fun i hi hne h => by
        simp only [gi_set pl job m i hjl, if_neg hne] at h; exact h
      omega
    · have := cK_le (f := fun i => gi (pl.set job (n : Int)) i == (m : Int)) (g := fun i => gi pl i == (m : Int)) pl.length fun i hi h => by
        simp only [gi_set pl job n i hjl] at h
        by_cases e2 : i = job
        · rw [if_pos e2] at h; have : (n : Int) = m := by simpa using h
          omega
        · rw [if_neg e2] at h; exact h
      omega
theorem plcL_sound {V : Int → List Int → (Int → Bool) → Srch} (hV : SoundV C P L N V) (hK : ∀ n, Keeps (V n)) (job : Nat) (hj : job < L) : ∀ l : List Int, (∀ x : Int, x ∈ l → ∃ m : Nat, x = m ∧ m < N ∧ x ∈ gr C job) → ∀ pl tr, GoodP C P L N pl →
    ((plcL V job l pl tr).1 = false → (plcL V job l pl tr).2.1 = pl) ∧ ((plcL V job l pl tr).1 = true → GoodP C P L N (plcL V job l pl tr).2.1 ∧ Moves tr pl (plcL V job l pl tr).2.1 ∧ tr (gi (plcL V job l pl tr).2.1 job) = false)
  | [], _, pl, tr, hg => ⟨fun _ => rfl, fun h => by cases h⟩
  | x :: r, hl, pl, tr, hg => by
    obtain ⟨n, rfl, hn, hc⟩ := hl x (by simp)
    have hr : ∀ y : Int, y ∈ r → ∃ m : Nat, y = m ∧ m < N ∧ y ∈ gr C job := fun y hy => hl y (List.mem_cons_of_mem _ hy)
    unfold plcL
    by_cases e : tr n = true
    · rw [if_pos e]; exact plcL_sound hV hK job hj r hr pl tr hg
    · rw [if_neg e]
      have hs : setAt tr (n : Int) true n = true := by unfold setAt; rw [if_pos rfl]
      have h1 := hV n pl (setAt tr n true) hn hs hg
      have h0 := setAt_mono tr n
      by_cases e2 : (V n pl (setAt tr n true)).1 = true
      · rw [if_pos e2]
        obtain ⟨g1, g2, g3⟩ := h1.2 e2
        have hjl : job < (V n pl (setAt tr n true)).2.1.length := by rw [g1.len]; exact hj
        refine ⟨fun h => (by cases h), fun _ => ⟨good_set g1 hj hn hc g3, fun i => ?_, ?_⟩⟩
        · show gi ((V n pl (setAt tr n true)).2.1.set job n) i = gi pl i ∨ tr (gi ((V n pl (setAt tr n true)).2.1.set job n) i) = false
          rw [gi_set _ job n i hjl]
          by_cases e3 : i = job
          · rw [if_pos e3]; exact .inr (by simpa using e)
          · rw [if_neg e3]; exact (g2.less h0) i
        · show tr (gi ((V n pl (setAt tr n true)).2.1.set job n) job) = false
          rw [gi_set _ job n job hjl, if_pos rfl]; simpa using e
      · rw [if_neg e2]
        have e3 := h1.1 (by simpa using e2)
        rw [e3]
        have hkp := (hK n pl (setAt tr n true)).2
        have h4 := plcL_sound hV hK job hj r hr pl (V n pl (setAt tr n true)).2.2 hg
        have hm : ∀ y, tr y = true → (V n pl (setAt tr n true)).2.2 y = true := fun y hy => hkp y (h0 y hy)
        refine ⟨h4.1, fun h => ⟨(h4.2 h).1, (h4.2 h).2.1.less hm, ?_⟩⟩
        have h5 := (h4.2 h).2.2
        cases e5 : tr (gi (plcL V job r pl (V n pl (setAt tr n true)).2.2).2.1 job) with
        | false => rfl
        | true => rw [hm _ e5] at h5; cases h5
end
theorem mem_gi {l : List Int} {x : Int} (h : x ∈ l) : ∃ j, j < l.length ∧ gi l j = x := by
  obtain ⟨k, hk, e⟩ := List.getElem_of_mem h
  exact ⟨k, hk, by unfold gi; simp [hk, e]⟩
theorem plF_sound {C : List (List Int)} {P : List Int} {L N : Nat} (hE : ∀ i, i < L → ∀ j, j < (gr C i).length → ∃ m : Nat, gi (gr C i) j = m ∧ m < N) (fr : Nat) (hfr : fr ≤ L) : ∀ d, SoundF C P L N (plF C P fr d)
  | 0 => fun k pl tr hk hg => ⟨fun _ => rfl, fun h => by cases h⟩
  | d + 1 => fun k pl tr hk hg => plcL_sound (vacF_sound (plF_sound hE fr hfr d) (fun k => plF_keeps C P fr d k) fr hfr) (fun n => vacF_keeps (fun k => plF_keeps C P fr d k) P fr n) k hk (gr C k) (fun x hx => by
      obtain ⟨j, hj, e⟩ := mem_gi hx
      obtain ⟨m, h1, h2⟩ := hE k hk j hj
      exact ⟨m, by rw [← e]; exact h1, h2, hx⟩) pl tr hg
theorem grtK_good {C : List (List Int)} {P : List Int} {L N : Nat} (hE : ∀ i, i < L → ∀ j, j < (gr C i).length → ∃ m : Nat, gi (gr C i) j = m ∧ m < N) (D : Nat) {p : List Int} (hp : GoodP C P L N p) : ∀ k, k ≤ L → GoodP C P L N (grtK C P D k p)
  | 0, _ => hp
  | k + 1, hk => by
    have h := plF_sound hE 0 (Nat.zero_le _) D k (grtK C P D k p) noT (by omega) (grtK_good hE D hp k (by omega))
    unfold grtK
    cases e : (plF C P 0 D k (grtK C P D k p) noT).1 with
    | false => rw [h.1 e]; exact grtK_good hE D hp k (by omega)
    | true => exact (h.2 e).1
theorem cK_zero {f : Nat → Bool} : ∀ n, (∀ i, i < n → f i = false) → cK f n = 0
  | 0, _ => rfl
  | k + 1, h => by unfold cK; rw [cK_zero k (fun i hi => h i (by omega)), h k (by omega)]; rfl
theorem good_none {C : List (List Int)} {P : List Int} {L N : Nat} (hP : ∀ m, m < N → 0 ≤ gi P m) : GoodP C P L N (List.replicate L (-1)) := by
  have hgi : ∀ i, i < L → gi (List.replicate L (-1 : Int)) i = -1 := fun i hi => by unfold gi; simp [hi]
  refine ⟨by simp, fun i hi => .inl (hgi i hi), fun m hm => ?_⟩
  rw [cntN_cK, List.length_replicate, cK_zero _ (fun i hi => by rw [hgi i hi]; exact beq_false_of_ne (by omega))]
  exact hP m hm
end Go.Proofs.Ytghlhjiomebmhaa
