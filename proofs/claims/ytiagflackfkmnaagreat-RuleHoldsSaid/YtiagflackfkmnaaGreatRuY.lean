/-
  The reference's ValidSigns and ValidEdicts. By an AI agent.
-/
import Derived.Test.YtiagflackfkmnaaGreatRuK
import Derived.BigQuiet
import Derived.BigRegion
namespace Go.Proofs.YtiagflackfkmnaaGreat
set_option linter.unusedVariables false
set_option linter.unusedSimpArgs false
open Go.RowKit

theorem gi_at (l : List Int) {i : Nat} (h : i < l.length) : gi l i = l[i] := by unfold gi; simp [h]
theorem num_iff (ns : List Int) : numB ns = true ↔ (∀ x, x ∈ ns → 1 ≤ x ∧ x ≤ 1000000000) ∧ ns.Nodup := by
  have hp := srt_perm ns
  have hs : (srt ns).Pairwise (fun a b : Int => a ≤ b) := by
    have h := List.pairwise_mergeSort (le := fun a b : Int => decide (a ≤ b)) (by intro a b c h1 h2; simp at *; omega) (by intro a b; simp; omega) ns
    exact h.imp (fun h => by simpa using h)
  unfold numB
  generalize srt ns = S at *
  have hle : ∀ i j, i < j → j < S.length → gi S i ≤ gi S j := fun i j h1 h2 => by
    rw [gi_at S (by omega), gi_at S h2]
    exact List.pairwise_iff_getElem.1 hs i j (by omega) h2 h1
  constructor
  · intro h
    unfold ascB at h
    simp only [Bool.not_eq_true'] at h
    have hk : ∀ k, k < S.length → prvR S k < gi S k ∧ gi S k ≤ 1000000000 := fun k hk => by
      have h2 := (anyK_iff _).1 h k hk
      simp only [Bool.not_eq_false', nOk, Bool.and_eq_true, decide_eq_true_eq] at h2
      exact h2
    have hlt : ∀ j i, i < j → j < S.length → gi S i < gi S j := by
      intro j
      induction j with
      | zero => intro i h1; omega
      | succ j ih =>
        intro i h1 h2
        have h3 := (hk (j + 1) h2).1
        have h3 : gi S j < gi S (j + 1) := h3
        by_cases e : i = j
        · rw [e]; exact h3
        · have := ih i (by omega) (by omega); omega
    have h0 : ∀ k, k < S.length → 0 < gi S k := fun k hkl => by
      have h1 : 0 < gi S 0 := (hk 0 (by omega)).1
      by_cases e : k = 0
      · rw [e]; exact h1
      · have := hlt k 0 (by omega) hkl; omega
    refine ⟨fun x hx => ?_, ?_⟩
    · obtain ⟨k, hkl, e⟩ := List.getElem_of_mem (hp.mem_iff.2 hx)
      have h1 := h0 k hkl
      have h2 := (hk k hkl).2
      rw [gi_at S hkl, e] at h1 h2
      omega
    · refine hp.nodup_iff.1 (List.pairwise_iff_getElem.2 fun i j hi hj hij => ?_)
      have := hlt j i hij hj
      rw [gi_at S hi, gi_at S hj] at this
      omega
  · rintro ⟨h1, h2⟩
    have h2 := hp.nodup_iff.2 h2
    have hm : ∀ k, k < S.length → 1 ≤ gi S k ∧ gi S k ≤ 1000000000 := fun k hk => by
      rw [gi_at S hk]
      exact h1 _ (hp.mem_iff.1 (List.getElem_mem hk))
    refine asc_end fun k hk => ?_
    simp only [nOk, Bool.and_eq_true, decide_eq_true_eq]
    refine ⟨?_, (hm k hk).2⟩
    rcases k with _ | k
    · have := hm 0 hk; show (0 : Int) < _; omega
    · show gi S k < gi S (k + 1)
      have h3 := hle k (k + 1) (by omega) hk
      have h4 := List.pairwise_iff_getElem.1 h2 k (k + 1) (by omega) hk (by omega)
      rw [← gi_at S (by omega), ← gi_at S hk] at h4
      omega
/-- Is number k right, and is it none of those ahead of it? -/
def rNum (ns : List Int) (k : Nat) : Bool := btw (gi ns k) 1 1000000000 && !(anyK (fun j => gi ns j == gi ns k) k)
theorem num_end {ns : List Int} (h : ∀ k, k < ns.length → rNum ns k = true) : numB ns = true := by
  have h3 : ∀ k, k < ns.length → (1 ≤ gi ns k ∧ gi ns k ≤ 1000000000) ∧ ∀ j, j < k → gi ns j ≠ gi ns k := fun k hk => by
    have h2 := h k hk
    simp only [rNum, Bool.and_eq_true, Bool.not_eq_true'] at h2
    exact ⟨(btw_iff _ _ _).1 h2.1, fun j hj e => by have := (anyK_iff _).1 h2.2 j hj; simp [e] at this⟩
  refine (num_iff ns).2 ⟨fun x hx => ?_, List.pairwise_iff_getElem.2 fun i j hi hj hij => ?_⟩
  · obtain ⟨k, hk, e⟩ := List.getElem_of_mem hx
    have := (h3 k hk).1
    rw [gi_at ns hk, e] at this
    exact this
  · have := (h3 j hj).2 i hij
    rw [gi_at ns hi, gi_at ns hj] at this
    exact this
theorem num_bad1 {ns : List Int} {k : Nat} (hk : k < ns.length) (h : btw (gi ns k) 1 1000000000 = false) : numB ns = false := by
  cases e : numB ns with
  | false => rfl
  | true =>
    have := ((num_iff ns).1 e).1 _ (List.getElem_mem hk)
    rw [← gi_at ns hk, ← btw_iff, h] at this
    cases this
theorem num_bad2 {ns : List Int} {j k : Nat} (hk : k < ns.length) (hj : j < k) (h : gi ns j = gi ns k) : numB ns = false := by
  cases e : numB ns with
  | false => rfl
  | true =>
    have := List.pairwise_iff_getElem.1 ((num_iff ns).1 e).2 j k (by omega) hk hj
    rw [← gi_at ns (by omega), ← gi_at ns hk] at this
    exact absurd h this
theorem s_num (l : List Sgn) {k : Nat} (h : k < l.length) : gi (nosK l l.length) k = (gs l k).n := by
  unfold nosK gi gs; simp [h]
theorem s_bad0 {Ln : Int} {js : List Int} {l : List Sgn} (h : lineB Ln js = false) : sgnsB Ln js l = false := by unfold sgnsB; rw [h]; rfl
theorem s_bad9 {Ln : Int} {js : List Int} {l : List Sgn} (h : 100 < l.length) : sgnsB Ln js l = false := by unfold sgnsB; rw [decide_eq_false (by omega), Bool.and_false]; rfl
theorem s_bad1 {Ln : Int} {js : List Int} {l : List Sgn} {k : Nat} (hk : k < l.length) (h : btw (gs l k).n 1 1000000000 = false) : sgnsB Ln js l = false := by
  unfold sgnsB; rw [num_bad1 (k := k) (by rw [nosK_len l (Nat.le_refl _)]; exact hk) (by rw [s_num l hk]; exact h), Bool.and_false]
theorem s_bad2 {Ln : Int} {js : List Int} {l : List Sgn} {k : Nat} (hk : k < l.length) (h : sgnB Ln (gs l k) = false) : sgnsB Ln js l = false := by
  unfold sgnsB allB; rw [anyK_true (j := k) (by simp [h]) _ hk]; simp
theorem s_bad3 {Ln : Int} {js : List Int} {l : List Sgn} {j k : Nat} (hk : k < l.length) (hj : j < k) (h : (gs l j).n = (gs l k).n) : sgnsB Ln js l = false := by
  unfold sgnsB; rw [num_bad2 (k := k) (j := j) (by rw [nosK_len l (Nat.le_refl _)]; exact hk) hj (by rw [s_num l hk, s_num l (by omega)]; exact h), Bool.and_false]
/-- One of them is right, and its number is none of those ahead. -/
def sRt (Ln : Int) (l : List Sgn) (k : Nat) : Prop := btw (gs l k).n 1 1000000000 = true ∧ sgnB Ln (gs l k) = true ∧ ∀ j, j < k → (gs l j).n ≠ (gs l k).n
theorem s_end {Ln : Int} {js : List Int} {l : List Sgn} (h0 : lineB Ln js = true) (h9 : l.length ≤ 100) (h : ∀ k, k < l.length → sRt Ln l k) : sgnsB Ln js l = true := by
  have hn : numB (nosK l l.length) = true := num_end fun k hk => by
    rw [nosK_len l (Nat.le_refl _)] at hk
    obtain ⟨a, b, c⟩ := h k hk
    unfold rNum
    rw [s_num l hk, a, Bool.true_and, Bool.not_eq_true', anyK_iff]
    intro j hj
    rw [s_num l (by omega)]
    exact beq_false_of_ne (c j hj)
  have ha : allB Ln l = true := by
    unfold allB
    rw [Bool.not_eq_true', anyK_iff]
    intro j hj
    rw [(h j hj).2.1]; rfl
  unfold sgnsB
  rw [h0, hn, ha, decide_eq_true h9]; rfl
theorem e_num (l : List Edc) {k : Nat} (h : k < l.length) : gi (nosE l l.length) k = (ge l k).n := by
  unfold nosE gi ge; simp [h]
theorem e_bad0 {Ln : Int} {js : List Int} {l : List Edc} (h : lineB Ln js = false) : edcsB Ln js l = false := by unfold edcsB; rw [h]; rfl
theorem e_bad9 {Ln : Int} {js : List Int} {l : List Edc} (h : 50 < l.length) : edcsB Ln js l = false := by unfold edcsB; rw [decide_eq_false (by omega), Bool.and_false]; rfl
theorem e_bad1 {Ln : Int} {js : List Int} {l : List Edc} {k : Nat} (hk : k < l.length) (h : btw (ge l k).n 1 1000000000 = false) : edcsB Ln js l = false := by
  unfold edcsB; rw [num_bad1 (k := k) (by rw [nosE_len l (Nat.le_refl _)]; exact hk) (by rw [e_num l hk]; exact h), Bool.and_false]
theorem e_bad2 {Ln : Int} {js : List Int} {l : List Edc} {k : Nat} (hk : k < l.length) (h : edcB Ln (ge l k) = false) : edcsB Ln js l = false := by
  unfold edcsB allE; rw [anyK_true (j := k) (by simp [h]) _ hk]; simp
theorem e_bad3 {Ln : Int} {js : List Int} {l : List Edc} {j k : Nat} (hk : k < l.length) (hj : j < k) (h : (ge l j).n = (ge l k).n) : edcsB Ln js l = false := by
  unfold edcsB; rw [num_bad2 (k := k) (j := j) (by rw [nosE_len l (Nat.le_refl _)]; exact hk) hj (by rw [e_num l hk, e_num l (by omega)]; exact h), Bool.and_false]
/-- One of them is right, and its number is none of those ahead. -/
def eRt (Ln : Int) (l : List Edc) (k : Nat) : Prop := btw (ge l k).n 1 1000000000 = true ∧ edcB Ln (ge l k) = true ∧ ∀ j, j < k → (ge l j).n ≠ (ge l k).n
theorem e_end {Ln : Int} {js : List Int} {l : List Edc} (h0 : lineB Ln js = true) (h9 : l.length ≤ 50) (h : ∀ k, k < l.length → eRt Ln l k) : edcsB Ln js l = true := by
  have hn : numB (nosE l l.length) = true := num_end fun k hk => by
    rw [nosE_len l (Nat.le_refl _)] at hk
    obtain ⟨a, b, c⟩ := h k hk
    unfold rNum
    rw [e_num l hk, a, Bool.true_and, Bool.not_eq_true', anyK_iff]
    intro j hj
    rw [e_num l (by omega)]
    exact beq_false_of_ne (c j hj)
  have ha : allE Ln l = true := by
    unfold allE
    rw [Bool.not_eq_true', anyK_iff]
    intro j hj
    rw [(h j hj).2.1]; rfl
  unfold edcsB
  rw [h0, hn, ha, decide_eq_true h9]; rfl
end Go.Proofs.YtiagflackfkmnaaGreat
