/-
  What Shortage of package night returns is a shortage: plain mathematics. By an AI agent.
-/
import Derived.Test.YtghlhjiomebmhaaNiQc
namespace Go.Proofs.Ytghlhjiomebmhaa
set_option linter.unusedVariables false
set_option linter.unusedSimpArgs false
open Go.RowKit

section
variable {C : List (List Int)} {P : List Int} {L N : Nat}
def NatF (C : List (List Int)) (P : List Int) (L N : Nat) (F : Nat → List Int → (Int → Bool) → Srch) : Prop := ∀ k pl tr, k < L → GoodP C P L N pl → (F k pl tr).1 = true → 0 ≤ gi (F k pl tr).2.1 k ∧ ∀ i, gi (F k pl tr).2.1 i = gi pl i ∨ 0 ≤ gi (F k pl tr).2.1 i
theorem vacL_nat {F : Nat → List Int → (Int → Bool) → Srch} (hA : NatF C P L N F) (hF : SoundF C P L N F) (n : Nat) : ∀ m k pl tr, m + k ≤ L → GoodP C P L N pl → (vacL F n m k pl tr).1 = true → ∀ i, gi (vacL F n m k pl tr).2.1 i = gi pl i ∨ 0 ≤ gi (vacL F n m k pl tr).2.1 i
  | 0, k, pl, tr, _, _, h => by cases h
  | m + 1, k, pl, tr, hmk, hg, h => by
    unfold vacL at h ⊢
    by_cases e : gi pl k = n
    · rw [if_pos e] at h ⊢
      by_cases e2 : (F k pl tr).1 = true
      · rw [if_pos e2]; exact (hA k pl tr (by omega) hg e2).2
      · rw [if_neg e2, (hF k pl tr (by omega) hg).1 (by simpa using e2)] at h ⊢
        exact vacL_nat hA hF n m (k + 1) pl _ (by omega) hg h
    · rw [if_neg e] at h ⊢
      exact vacL_nat hA hF n m (k + 1) pl tr (by omega) hg h
theorem plcL_nat {F : Nat → List Int → (Int → Bool) → Srch} {fr : Nat} (hA : NatF C P L N F) (hF : SoundF C P L N F) (hK : ∀ k, Keeps (F k)) (hfr : fr ≤ L) (job : Nat) (hj : job < L) : ∀ l : List Int, (∀ x : Int, x ∈ l → ∃ m : Nat, x = m ∧ m < N) → ∀ pl tr, GoodP C P L N pl →
    (plcL (vacF F P fr) job l pl tr).1 = true → 0 ≤ gi (plcL (vacF F P fr) job l pl tr).2.1 job ∧ ∀ i, gi (plcL (vacF F P fr) job l pl tr).2.1 i = gi pl i ∨ 0 ≤ gi (plcL (vacF F P fr) job l pl tr).2.1 i
  | [], _, pl, tr, _, h => by cases h
  | x :: r, hl, pl, tr, hg, h => by
    obtain ⟨n, rfl, hn⟩ := hl x (by simp)
    have hr : ∀ y : Int, y ∈ r → ∃ m : Nat, y = m ∧ m < N := fun y hy => hl y (List.mem_cons_of_mem _ hy)
    unfold plcL at h ⊢
    by_cases e : tr n = true
    · rw [if_pos e] at h ⊢; exact plcL_nat hA hF hK hfr job hj r hr pl tr hg h
    · rw [if_neg e] at h ⊢
      have hs : setAt tr (n : Int) true n = true := by unfold setAt; rw [if_pos rfl]
      have hS := vacF_sound hF hK fr hfr n pl (setAt tr n true) hn hs hg
      by_cases e2 : (vacF F P fr n pl (setAt tr n true)).1 = true
      · rw [if_pos e2]
        obtain ⟨g1, _, _⟩ := hS.2 e2
        have hjl : job < (vacF F P fr n pl (setAt tr n true)).2.1.length := by rw [g1.len]; exact hj
        have hv : ∀ i, gi (vacF F P fr n pl (setAt tr n true)).2.1 i = gi pl i ∨ 0 ≤ gi (vacF F P fr n pl (setAt tr n true)).2.1 i := by
          unfold vacF at e2 ⊢
          split at e2
          · next e3 => rw [if_pos e3]; exact fun i => .inl rfl
          · next e3 => rw [if_neg e3]; exact vacL_nat hA hF n _ _ pl _ (by rw [hg.len]; omega) hg e2
        refine ⟨?_, fun i => ?_⟩
        · show 0 ≤ gi ((vacF F P fr n pl (setAt tr n true)).2.1.set job n) job
          rw [gi_set _ job n job hjl, if_pos rfl]; omega
        · show gi ((vacF F P fr n pl (setAt tr n true)).2.1.set job n) i = gi pl i ∨ 0 ≤ gi ((vacF F P fr n pl (setAt tr n true)).2.1.set job n) i
          rw [gi_set _ job n i hjl]
          by_cases e3 : i = job
          · rw [if_pos e3]; exact .inr (by omega)
          · rw [if_neg e3]; exact hv i
      · rw [if_neg e2, hS.1 (by simpa using e2)] at h ⊢
        exact plcL_nat hA hF hK hfr job hj r hr pl _ hg h
theorem plF_nat (hE : ∀ i, i < L → ∀ j, j < (gr C i).length → ∃ m : Nat, gi (gr C i) j = m ∧ m < N) (fr : Nat) (hfr : fr ≤ L) : ∀ d, NatF C P L N (plF C P fr d)
  | 0 => fun k pl tr hk hg h => by cases h
  | d + 1 => fun k pl tr hk hg h => plcL_nat (plF_nat hE fr hfr d) (plF_sound hE fr hfr d) (fun k => plF_keeps C P fr d k) hfr k hk (gr C k) (fun x hx => by
      obtain ⟨j, hj, e⟩ := mem_gi hx
      obtain ⟨m, h1, h2⟩ := hE k hk j hj
      exact ⟨m, by rw [← e]; exact h1, h2⟩) pl tr hg h
/-- A job that has no night in the end finds none in the end. -/
theorem grt_final (hE : ∀ i, i < L → ∀ j, j < (gr C i).length → ∃ m : Nat, gi (gr C i) j = m ∧ m < N) {p : List Int} (hp : GoodP C P L N p) {u : Nat} (hu : u < L) (hn : gi (grtK C P (N + 1) L p) u = -1) :
    (plF C P 0 (N + 1) u (grtK C P (N + 1) L p) noT).1 = false := by
  have hG := grtK_good hE (N + 1) hp
  have stepN : ∀ k, k < L → ∀ i, 0 ≤ gi (grtK C P (N + 1) k p) i → 0 ≤ gi (grtK C P (N + 1) (k + 1) p) i := fun k hk i h0 => by
    show 0 ≤ gi (plF C P 0 (N + 1) k (grtK C P (N + 1) k p) noT).2.1 i
    cases e : (plF C P 0 (N + 1) k (grtK C P (N + 1) k p) noT).1 with
    | false => rw [(plF_sound hE 0 (Nat.zero_le _) (N + 1) k _ noT hk (hG k (by omega))).1 e]; exact h0
    | true =>
      rcases (plF_nat hE 0 (Nat.zero_le _) (N + 1) k _ noT hk (hG k (by omega)) e).2 i with h | h
      · rw [h]; exact h0
      · exact h
  cases e : (plF C P 0 (N + 1) u (grtK C P (N + 1) u p) noT).1 with
  | true =>
    have h1 := (plF_nat hE 0 (Nat.zero_le _) (N + 1) u _ noT hu (hG u (by omega)) e).1
    have h2 : ∀ j, u + 1 + j ≤ L → 0 ≤ gi (grtK C P (N + 1) (u + 1 + j) p) u := fun j => by
      induction j with
      | zero => intro _; exact h1
      | succ j ih => intro hj; exact stepN (u + 1 + j) (by omega) u (ih (by omega))
    have h3 := h2 (L - (u + 1)) (by omega)
    rw [show u + 1 + (L - (u + 1)) = L by omega, hn] at h3
    omega
  | false =>
    obtain ⟨hc, hx⟩ := closed_of hE hu (hG u (by omega)) e
    generalize (plF C P 0 (N + 1) u (grtK C P (N + 1) u p) noT).2.2 = T at *
    have h2 : ∀ j, u + j ≤ L → Closed C P L N T (grtK C P (N + 1) (u + j) p) := fun j => by
      induction j with
      | zero => intro _; exact hc
      | succ j ih =>
        intro hj
        have hcj := ih (by omega)
        have hgj := hG (u + j) (by omega)
        show Closed C P L N T (plF C P 0 (N + 1) (u + j) (grtK C P (N + 1) (u + j) p) noT).2.1
        cases e2 : (plF C P 0 (N + 1) (u + j) (grtK C P (N + 1) (u + j) p) noT).1 with
        | false => rw [(plF_sound hE 0 (Nat.zero_le _) (N + 1) (u + j) _ noT (by omega) hgj).1 e2]; exact hcj
        | true => exact hcj.agree ((plF_blk hE 0 (Nat.zero_le _) (N + 1) (u + j) _ noT (by omega) hgj hcj).2 e2) (plF_keeps C P 0 (N + 1) (u + j) _ noT).1
    have h3 := h2 (L - u) (by omega)
    rw [show u + (L - u) = L by omega] at h3
    exact (plF_blk hE 0 (Nat.zero_le _) (N + 1) u _ noT hu (hG L (Nat.le_refl _)) h3).1 hx
end
theorem selK_pair (p : Nat → Bool) : ∀ n, (selK p n).Pairwise (· < ·)
  | 0 => List.Pairwise.nil
  | k + 1 => by
    unfold selK
    split
    · rw [List.pairwise_append]
      refine ⟨selK_pair p k, by simp, fun a ha b hb => ?_⟩
      obtain ⟨m, rfl, hm, _⟩ := selK_mem p k a ha
      simp at hb
      omega
    · exact selK_pair p k
theorem indB_selK (p : Nat → Bool) (L : Nat) : indB L (selK p L) = true := by
  unfold indB
  rw [Bool.not_eq_true', anyK_iff]
  intro k hk
  unfold badI
  rw [Bool.or_eq_false_iff, decide_eq_false_iff_not, decide_eq_false_iff_not]
  obtain ⟨m, h1, h2, _⟩ := selK_gi p L hk
  refine ⟨?_, by omega⟩
  cases k with
  | zero => simp only [prvI]; omega
  | succ k =>
    have := List.pairwise_iff_getElem.1 (selK_pair p L) k (k + 1) (by omega) hk (by omega)
    simp only [prvI]
    unfold gi
    simp only [List.getD_eq_getElem?_getD, List.getElem?_eq_getElem hk, List.getElem?_eq_getElem (show k < (selK p L).length by omega), Option.getD_some]
    omega
theorem mem_selK {p : Nat → Bool} : ∀ n m, m < n → p m = true → (m : Int) ∈ selK p n
  | 0, m, h, _ => by omega
  | k + 1, m, h, hp => by
    unfold selK
    by_cases e : m = k
    · subst e; rw [if_pos hp]; simp
    · have := mem_selK (p := p) k m (by omega) hp
      split
      · exact List.mem_append_left _ this
      · exact this
theorem sumW_imp {one two : Nat → Bool} {v u : Nat → Nat} : ∀ n, (∀ k, k < n → one k = true → two k = true ∧ v k ≤ u k) → sumW one v n ≤ sumW two u n
  | 0, _ => Nat.le_refl _
  | k + 1, h => by
    have h1 := sumW_imp (one := one) (two := two) (v := v) (u := u) k (fun i hi => h i (by omega))
    unfold sumW
    by_cases e : one k = true
    · obtain ⟨e1, e2⟩ := h k (by omega) e
      rw [if_pos e, if_pos e1]; omega
    · rw [if_neg e]; omega
theorem sumW_hit (T : Int → Bool) (v : Nat → Nat) (a : Int) : ∀ N, sumW (fun m => T m) (fun m => v m + (if (a == (m : Int)) = true then 1 else 0)) N = sumW (fun m => T m) v N + (if 0 ≤ a ∧ a < N ∧ T a = true then 1 else 0)
  | 0 => by
    rw [if_neg (by omega)]; rfl
  | k + 1 => by
    have ih := sumW_hit T v a k
    unfold sumW
    rw [ih]
    by_cases e : a = k
    · subst e
      cases hT : T k with
      | true =>
        have a1 : ¬ (0 ≤ (k : Int) ∧ (k : Int) < (k : Int) ∧ true = true) := fun h => by omega
        have a2 : (0 ≤ (k : Int) ∧ (k : Int) < ((k + 1 : Nat) : Int) ∧ true = true) := ⟨by omega, by omega, rfl⟩
        rw [if_neg a1, if_pos a2]
        simp only [if_true, beq_self_eq_true]
        omega
      | false => simp [hT]
    · have e2 : (a == (k : Int)) = false := beq_false_of_ne e
      rw [e2]
      have e3 : (0 ≤ a ∧ a < ((k + 1 : Nat) : Int) ∧ T a = true) ↔ (0 ≤ a ∧ a < (k : Int) ∧ T a = true) := by
        constructor
        · intro ⟨q1, q2, q3⟩; exact ⟨q1, by omega, q3⟩
        · intro ⟨q1, q2, q3⟩; exact ⟨q1, by omega, q3⟩
      simp only [e3]
      split <;> split <;> simp <;> omega
theorem sumW_cK (T : Int → Bool) (p : Nat → Int) (N : Nat) : ∀ L, sumW (fun m => T m) (fun m => cK (fun i => p i == (m : Int)) L) N ≤ cK (fun i => T (p i)) L
  | 0 => by
    have : ∀ n, sumW (fun m => T m) (fun m => cK (fun i => p i == (m : Int)) 0) n = 0 := fun n => by
      induction n with
      | zero => rfl
      | succ n ih => unfold sumW; rw [ih]; simp [cK]
    rw [this]; exact Nat.zero_le _
  | L + 1 => by
    have ih := sumW_cK T p N L
    have h1 := sumW_hit T (fun m => cK (fun i => p i == (m : Int)) L) (p L) N
    show sumW (fun m => T m) (fun m => cK (fun i => p i == (m : Int)) L + (if (p L == (m : Int)) = true then 1 else 0)) N ≤ cK (fun i => T (p i)) L + (if T (p L) = true then 1 else 0)
    rw [h1]
    by_cases e : T (p L) = true
    · rw [if_pos e]; split <;> omega
    · rw [if_neg e, if_neg (fun h => e h.2.2)]; omega
/-- The jobs that Shortage names. -/
def shrL (pl : List Int) (u : Nat) (T : Int → Bool) : List Int := selK (fun k => (k == u) || T (gi pl k)) pl.length
/-- They are a shortage. -/
theorem shr_ok {js : List Jo} {ns : List Ni} {pl : List Int} {T : Int → Bool} {u : Nat} (hg : GoodP (chL js ns) (psL ns) js.length ns.length pl) (hp : ∀ i, i < ns.length → 0 ≤ (gn ns i).p) (hu : u < js.length) (hn : gi pl u = -1)
    (hc : Closed (chL js ns) (psL ns) js.length ns.length T pl) (hx : ∀ x, x ∈ gr (chL js ns) u → T x = true) :
    indB js.length (shrL pl u T) = true ∧ pS js ns (shrL pl u T) ns.length < (shrL pl u T).length := by
  have hlen : pl.length = js.length := hg.len
  unfold shrL
  rw [hlen]
  refine ⟨indB_selK _ _, ?_⟩
  rw [pS_sum hp ns.length (Nat.le_refl _)]
  have h1 : sumW (fun m => oneB js (selK (fun k => (k == u) || T (gi pl k)) js.length) (gn ns m) (selK (fun k => (k == u) || T (gi pl k)) js.length).length) (fun m => (gn ns m).p.toNat) ns.length ≤ sumW (fun m => T (m : Int)) (fun m => cK (fun i => gi pl i == (m : Int)) js.length) ns.length := sumW_imp _ fun m hm h => by
    have hex : ∃ i, i < (selK (fun k => (k == u) || T (gi pl k)) js.length).length ∧ fitB (gj js (gi (selK (fun k => (k == u) || T (gi pl k)) js.length) i).toNat) (gn ns m) = true := by
      unfold oneB at h
      apply Classical.byContradiction
      intro hno
      rw [anyK_false _ (fun j hj => by
        cases e : fitB (gj js (gi (selK (fun k => (k == u) || T (gi pl k)) js.length) j).toNat) (gn ns m) with
        | false => rfl
        | true => exact absurd ⟨j, hj, e⟩ hno)] at h
      cases h
    obtain ⟨i, hi, hf⟩ := hex
    obtain ⟨k, e1, e2, e3⟩ := selK_gi _ _ hi
    rw [e1, Int.toNat_natCast] at hf
    have hmem : (m : Int) ∈ gr (chL js ns) k := by
      rw [gr_chL js ns e2]
      exact mem_selK _ m hm hf
    have hT : T (m : Int) = true := by
      rw [Bool.or_eq_true] at e3
      rcases e3 with e3 | e3
      · obtain rfl : k = u := by simpa using e3
        exact hx _ hmem
      · exact hc.clo k e2 e3 _ hmem
    refine ⟨hT, ?_⟩
    have := hc.full m hm hT
    rw [gi_psL ns hm, cntN_cK, hlen] at this
    omega
  have h2 := sumW_cK T (fun i => gi pl i) ns.length js.length
  have h3 : cK (fun i => T (gi pl i)) js.length < cK (fun k => (k == u) || T (gi pl k)) js.length := cK_lt (j := u) (by rw [hn]; exact hc.neg) (by simp) _ hu (fun i _ h => by rw [h]; simp)
  have e := selK_cK (fun k => (k == u) || T (gi pl k)) js.length
  omega
end Go.Proofs.Ytghlhjiomebmhaa
