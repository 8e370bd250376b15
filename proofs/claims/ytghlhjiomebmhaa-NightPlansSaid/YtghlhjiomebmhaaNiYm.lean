/-
  The least of the complete plans of package night, as the search makes it: plain mathematics. By an AI agent.
-/
import Derived.Test.YtghlhjiomebmhaaNiPl
import Derived.Test.YtghlhjiomebmhaaNiQf
namespace Go.Proofs.Ytghlhjiomebmhaa
set_option linter.unusedVariables false
set_option linter.unusedSimpArgs false
open Go.RowKit

section
variable {C : List (List Int)} {P : List Int} {L N : Nat}
/-- A search changes jobs from fr on alone, and its own. -/
def FixF (fr : Nat) (F : Nat → List Int → (Int → Bool) → Srch) : Prop := ∀ k pl tr i, i < fr → i ≠ k → gi (F k pl tr).2.1 i = gi pl i
theorem vacL_fix {F : Nat → List Int → (Int → Bool) → Srch} {fr : Nat} (hF : FixF fr F) (n : Int) : ∀ m k pl tr, fr ≤ k → ∀ i, i < fr → gi (vacL F n m k pl tr).2.1 i = gi pl i
  | 0, k, pl, tr, _, i, _ => rfl
  | m + 1, k, pl, tr, hk, i, hi => by
    unfold vacL
    split
    · split
      · exact hF k pl tr i hi (by omega)
      · rw [vacL_fix hF n m (k + 1) _ _ (by omega) i hi]; exact hF k pl tr i hi (by omega)
    · exact vacL_fix hF n m (k + 1) pl tr (by omega) i hi
theorem vacF_fix {F : Nat → List Int → (Int → Bool) → Srch} {fr : Nat} (hF : FixF fr F) (P : List Int) (n : Int) (pl : List Int) (tr : Int → Bool) : ∀ i, i < fr → gi (vacF F P fr n pl tr).2.1 i = gi pl i := fun i hi => by
  unfold vacF
  split
  · rfl
  · exact vacL_fix hF n _ _ pl tr (Nat.le_refl _) i hi
theorem gi_set_ne (l : List Int) (j : Nat) (v : Int) (i : Nat) (h : i ≠ j) : gi (l.set j v) i = gi l i := by
  unfold gi
  simp only [List.getD_eq_getElem?_getD, List.getElem?_set]
  rw [if_neg (by omega)]
theorem plcL_fix {V : Int → List Int → (Int → Bool) → Srch} {fr : Nat} (hV : ∀ n pl tr i, i < fr → gi (V n pl tr).2.1 i = gi pl i) (job : Nat) : ∀ l pl tr i, i < fr → i ≠ job → gi (plcL V job l pl tr).2.1 i = gi pl i
  | [], pl, tr, i, _, _ => rfl
  | n :: r, pl, tr, i, hi, hj => by
    unfold plcL
    split
    · exact plcL_fix hV job r pl tr i hi hj
    · split
      · rw [gi_set_ne _ _ _ _ hj]; exact hV n pl _ i hi
      · rw [plcL_fix hV job r _ _ i hi hj]; exact hV n pl _ i hi
theorem plF_fix (C : List (List Int)) (P : List Int) (fr : Nat) : ∀ d, FixF fr (plF C P fr d)
  | 0 => fun k pl tr i hi hk => rfl
  | d + 1 => fun k pl tr i hi hk => plcL_fix (fun n pl tr i hi => vacF_fix (plF_fix C P fr d) P n pl tr i hi) k _ pl tr i hi hk
/-- Where a search has found a night: those ahead of it were tried. -/
theorem plcL_hit {F : Nat → List Int → (Int → Bool) → Srch} {fr d : Nat} (hC : CompF C P L N fr d F) (hF : SoundF C P L N F) (hK : ∀ k, Keeps (F k)) (hfr : fr ≤ L) (job : Nat) (hj : job < L) : ∀ l : List Int, (∀ x : Int, x ∈ l → ∃ m : Nat, x = m ∧ m < N ∧ x ∈ gr C job) → ∀ pl tr, GoodP C P L N pl → untr tr N < d + 1 →
    (plcL (vacF F P fr) job l pl tr).1 = true → ∃ (pre post : List Int) (n : Int) (tr' : Int → Bool), l = pre ++ n :: post ∧ gi (plcL (vacF F P fr) job l pl tr).2.1 job = n ∧ (∀ x, x ∈ pre → tr' x = true) ∧ Found C P L N fr pl tr tr' ∧ (∀ x, tr x = true → tr' x = true)
  | [], _, pl, tr, _, _, h => by cases h
  | x :: r, hl, pl, tr, hg, hu, hf => by
    obtain ⟨n, rfl, hn, hx⟩ := hl x (by simp)
    have hr : ∀ y : Int, y ∈ r → ∃ m : Nat, y = m ∧ m < N ∧ y ∈ gr C job := fun y hy => hl y (List.mem_cons_of_mem _ hy)
    have hKV : ∀ n, Keeps (vacF F P fr n) := fun n => vacF_keeps hK P fr n
    unfold plcL at hf ⊢
    by_cases e : tr n = true
    · rw [if_pos e] at hf ⊢
      obtain ⟨pre, post, y, tr', h1, h2, h3, h4, h5⟩ := plcL_hit hC hF hK hfr job hj r hr pl tr hg hu hf
      refine ⟨(n : Int) :: pre, post, y, tr', by rw [h1]; rfl, h2, fun z hz => ?_, h4, h5⟩
      rcases List.mem_cons.1 hz with rfl | hz
      · exact h5 _ e
      · exact h3 z hz
    · rw [if_neg e] at hf ⊢
      have e0 : tr n = false := by simpa using e
      have hs : setAt tr (n : Int) true n = true := by unfold setAt; rw [if_pos rfl]
      by_cases e2 : (vacF F P fr n pl (setAt tr n true)).1 = true
      · rw [if_pos e2] at hf ⊢
        refine ⟨[], r, n, tr, rfl, ?_, fun z hz => by simp at hz, Found.refl _ _ _, fun z h => h⟩
        have hl2 := (hKV n pl (setAt tr n true)).1
        show gi ((vacF F P fr n pl (setAt tr n true)).2.1.set job n) job = n
        rw [gi_set _ job n job (by rw [hl2, hg.len]; exact hj), if_pos rfl]
      · have e3 : (vacF F P fr n pl (setAt tr n true)).1 = false := by simpa using e2
        have hpl := (vacF_sound hF hK fr hfr n pl (setAt tr n true) hn hs hg).1 e3
        have hk := (hKV n pl (setAt tr n true)).2
        have hu1 : untr (setAt tr n true) N < d := by have := untr_set e0 N hn; omega
        have hu2 : untr (vacF F P fr n pl (setAt tr n true)).2.2 N < d + 1 := by
          have := untr_mono hk N
          omega
        have key : (gi P n ≤ cntN pl n ∧ ∀ k, fr ≤ k → k < L → gi pl k = n → ∀ y, y ∈ gr C k → (vacF F P fr n pl (setAt tr n true)).2.2 y = true) ∧ Found C P L N fr pl (setAt tr n true) (vacF F P fr n pl (setAt tr n true)).2.2 := by
          unfold vacF at e3 ⊢
          rw [Int.toNat_natCast] at e3 ⊢
          by_cases e4 : cntN pl n < gi P n
          · rw [if_pos e4] at e3; cases e3
          · rw [if_neg e4] at e3 ⊢
            have h5 := vacL_comp hC hF hK n (pl.length - fr) fr pl (setAt tr n true) (by rw [hg.len]; omega) hg hu1 e3
            exact ⟨⟨by omega, fun k q1 q2 q3 y hy => h5.1 k q1 (by rw [hg.len]; omega) q3 y hy⟩, h5.2⟩
        rw [if_neg e2, hpl] at hf ⊢
        obtain ⟨pre, post, y, tr', h1, h2, h3, h4, h5⟩ := plcL_hit hC hF hK hfr job hj r hr pl _ hg hu2 hf
        have hA : Found C P L N fr pl tr (vacF F P fr n pl (setAt tr n true)).2.2 := fun y hy => by
          rcases key.2 y hy with h | h
          · unfold setAt at h
            by_cases ey : y = n
            · subst ey; exact .inr ⟨n, rfl, hn, key.1.1, key.1.2⟩
            · rw [if_neg ey] at h; exact .inl h
          · exact .inr h
        refine ⟨(n : Int) :: pre, post, y, tr', by rw [h1]; rfl, h2, fun z hz => ?_, hA.trans h4 h5, fun z hz => h5 _ (hk _ (setAt_mono _ _ _ hz))⟩
        rcases List.mem_cons.1 hz with rfl | hz
        · exact h5 _ (hk _ hs)
        · exact h3 z hz
/-- A night that was tried without success can have no job more. -/
theorem no_more {p q : List Int} {fr job : Nat} {T : Int → Bool} (hp : GoodP C P L N p) (hq : GoodP C P L N q) (hqc : ∀ i, i < L → 0 ≤ gi q i) (hj : job < fr) (hfr : fr ≤ L) (hpj : gi p job = -1)
    (hag : ∀ i, i < fr → i ≠ job → gi q i = gi p i) (hF : Found C P L N fr p noT T) : T (gi q job) = false := by
  cases eT : T (gi q job) with
  | false => rfl
  | true =>
    exfalso
    have hex : ∀ x, T x = true → ∃ m : Nat, x = m ∧ m < N ∧ gi P m ≤ cntN p m ∧ ∀ k, fr ≤ k → k < L → gi p k = m → ∀ y, y ∈ gr C k → T y = true := fun x h => by
      rcases hF x h with h | h
      · cases h
      · exact h
    have hTn : T (-1) = false := by
      cases e : T (-1) with
      | false => rfl
      | true => obtain ⟨m, e2, _⟩ := hex _ e; omega
    have h1 : cK (fun i => T (gi p i)) L < cK (fun i => T (gi q i)) L := cK_lt (j := job) (by rw [hpj]; exact hTn) eT _ (by omega) fun i hi h => by
      by_cases e : i = job
      · subst e; exact eT
      · by_cases e2 : i < fr
        · rw [hag i e2 e]; exact h
        · obtain ⟨m, h3, h4, h5, h6⟩ := hex _ h
          rcases hq.ent i hi with h7 | ⟨m2, h7, h8, h9⟩
          · have := hqc i hi; omega
          · rw [h7]; exact h6 i (by omega) hi h3 _ h9
    have h2 : cK (fun i => T (gi q i)) L ≤ sumW (fun m => T (m : Int)) (fun m => cK (fun i => gi q i == (m : Int)) L) N := cK_sum (p := fun i => gi q i) L fun i hi h => by
      rcases hq.ent i hi with e | ⟨m, e, hm, hmC⟩
      · rw [e, hTn] at h; cases h
      · exact ⟨m, e, hm, by rw [e] at h; exact h⟩
    have h3 : sumW (fun m => T (m : Int)) (fun m => cK (fun i => gi q i == (m : Int)) L) N ≤ sumW (fun m => T (m : Int)) (fun m => cK (fun i => gi p i == (m : Int)) L) N := sumW_imp _ fun m hm hT => ⟨hT, by
      have c1 := hq.cap m hm
      obtain ⟨m', e, _, c2, _⟩ := hex _ hT
      obtain rfl : m = m' := by omega
      rw [cntN_cK, hq.len] at c1
      rw [cntN_cK, hp.len] at c2
      omega⟩
    have h4 := sumW_cK T (fun i => gi p i) N L
    omega
/-- The jobs ahead of k stay where they are. -/
theorem lstK_fix (C : List (List Int)) (P : List Int) (D : Nat) (p : List Int) (i : Nat) : ∀ k, i < k → gi (lstK C P D k p) i = gi (lstK C P D (i + 1) p) i
  | 0, h => by omega
  | k + 1, h => by
    by_cases e : i = k
    · rw [e]
    · rw [← lstK_fix C P D p i k (by omega)]
      show gi (plF C P (k + 1) D k ((lstK C P D k p).set k (-1)) noT).2.1 i = _
      rw [plF_fix C P (k + 1) D k _ _ i (by omega) (by omega), gi_set_ne _ _ _ _ e]
/-- A job that is taken out, in a plan without gaps, keeps the plan right. -/
theorem good_out {p : List Int} (hg : GoodP C P L N p) {k : Nat} (hk : k < L) : GoodP C P L N (p.set k (-1)) := by
  have hkl : k < p.length := by rw [hg.len]; exact hk
  refine ⟨by rw [List.length_set]; exact hg.len, fun i hi => ?_, fun m hm => ?_⟩
  · rw [gi_set _ k (-1) i hkl]
    by_cases e : i = k
    · rw [if_pos e]; exact .inl rfl
    · rw [if_neg e]; exact hg.ent i hi
  · have h1 := hg.cap m hm
    rw [cntN_cK] at h1 ⊢
    rw [List.length_set]
    have := cK_le (f := fun i => gi (p.set k (-1)) i == (m : Int)) (g := fun i => gi p i == (m : Int)) p.length fun i hi h => by
      simp only [gi_set _ k (-1) i hkl] at h
      by_cases e : i = k
      · rw [if_pos e] at h; simp at h
      · rw [if_neg e] at h; exact h
    omega
/-- No complete plan is less. -/
theorem lst_least (hE : ∀ i, i < L → ∀ j, j < (gr C i).length → ∃ m : Nat, gi (gr C i) j = m ∧ m < N) (hA : ∀ i, i < L → (gr C i).Pairwise (· < ·)) {p q : List Int} (hp : GoodP C P L N p) (hpc : ∀ i, i < L → 0 ≤ gi p i) (hq : GoodP C P L N q) (hqc : ∀ i, i < L → 0 ≤ gi q i) {k : Nat} (hk : k < L)
    (hag : ∀ i, i < k → gi q i = gi (lstK C P (N + 1) L p) i) : gi (lstK C P (N + 1) L p) k ≤ gi q k := by
  rw [lstK_fix C P (N + 1) p k L hk]
  obtain ⟨hg, hn⟩ := lstK_good hE hp hpc k (by omega)
  have hkl : k < (lstK C P (N + 1) k p).length := by rw [hg.len]; omega
  have hg2 := good_out hg hk
  have hpk : gi ((lstK C P (N + 1) k p).set k (-1)) k = -1 := by rw [gi_set _ k (-1) k hkl, if_pos rfl]
  have hl : ∀ x : Int, x ∈ gr C k → ∃ m : Nat, x = m ∧ m < N ∧ x ∈ gr C k := fun x hx => by
    obtain ⟨j, hj, e⟩ := mem_gi hx
    obtain ⟨m, h1, h2⟩ := hE k hk j hj
    exact ⟨m, by rw [← e]; exact h1, h2, hx⟩
  have hq3 : ∀ i, i < k + 1 → i ≠ k → gi q i = gi ((lstK C P (N + 1) k p).set k (-1)) i := fun i hi e => by
    rw [gi_set_ne _ _ _ _ e, hag i (by omega), lstK_fix C P (N + 1) p i L (by omega), ← lstK_fix C P (N + 1) p i k (by omega)]
  show gi (plF C P (k + 1) (N + 1) k ((lstK C P (N + 1) k p).set k (-1)) noT).2.1 k ≤ gi q k
  cases e : (plF C P (k + 1) (N + 1) k ((lstK C P (N + 1) k p).set k (-1)) noT).1 with
  | false =>
    have hcm := plF_comp hE (k + 1) hk (N + 1) k _ noT (by omega) hg2 (by rw [untr_noT]; omega) e
    have h1 := no_more hg2 hq hqc (Nat.lt_succ_self k) hk hpk hq3 hcm.2
    rcases hq.ent k hk with h | ⟨m, h, hm, hmC⟩
    · have := hqc k hk; omega
    · rw [h, hcm.1 _ hmC] at h1; cases h1
  | true =>
    obtain ⟨pre, post, n, tr', h1, h2, h3, h4, h5⟩ := plcL_hit (plF_comp hE (k + 1) hk N) (plF_sound hE (k + 1) hk N) (fun j => plF_keeps C P (k + 1) N j) hk k hk (gr C k) hl _ noT hg2 (by rw [untr_noT]; omega) e
    have h2' : gi (plF C P (k + 1) (N + 1) k ((lstK C P (N + 1) k p).set k (-1)) noT).2.1 k = n := h2
    rw [h2']
    have h6 := no_more hg2 hq hqc (Nat.lt_succ_self k) hk hpk hq3 h4
    rcases hq.ent k hk with h | ⟨m, h, hm, hmC⟩
    · have := hqc k hk; omega
    · rw [h] at h6 ⊢
      rw [h1] at hmC
      have hA2 := hA k hk
      rw [h1, List.pairwise_append] at hA2
      rcases List.mem_append.1 hmC with hx | hx
      · rw [h3 _ hx] at h6; cases h6
      · rcases List.mem_cons.1 hx with hx | hx
        · omega
        · have := (List.pairwise_cons.1 hA2.2.1).1 _ hx
          omega
end
end Go.Proofs.Ytghlhjiomebmhaa
