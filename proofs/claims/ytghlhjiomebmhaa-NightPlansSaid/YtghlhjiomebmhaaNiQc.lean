/-
  A job that finds no night never finds one later, and the nights that were tried for it prove a shortage: plain mathematics. By an AI agent.
-/
import Derived.Test.YtghlhjiomebmhaaNiQb
namespace Go.Proofs.Ytghlhjiomebmhaa
set_option linter.unusedVariables false
set_option linter.unusedSimpArgs false
open Go.RowKit

/-- Nights that are full, whose jobs have no other choices. -/
structure Closed (C : List (List Int)) (P : List Int) (L N : Nat) (T : Int → Bool) (pl : List Int) : Prop where
  neg : T (-1) = false
  full : ∀ m : Nat, m < N → T m = true → gi P m ≤ cntN pl m
  clo : ∀ k, k < L → T (gi pl k) = true → ∀ x, x ∈ gr C k → T x = true
/-- Two plans have the same jobs in these nights. -/
def Agree (T : Int → Bool) (pl pl' : List Int) : Prop := ∀ i, (T (gi pl i) = true → gi pl' i = gi pl i) ∧ (T (gi pl' i) = true → gi pl' i = gi pl i)
theorem Agree.refl (T : Int → Bool) (pl : List Int) : Agree T pl pl := fun i => ⟨fun _ => rfl, fun _ => rfl⟩
section
variable {C : List (List Int)} {P : List Int} {L N : Nat} {T : Int → Bool}
theorem Closed.agree {pl pl' : List Int} (h : Closed C P L N T pl) (ha : Agree T pl pl') (hl : pl'.length = pl.length) : Closed C P L N T pl' := by
  refine ⟨h.neg, fun m hm hT => ?_, fun k hk hT => ?_⟩
  · have h1 := h.full m hm hT
    rw [cntN_cK] at h1 ⊢
    rw [hl]
    rw [cK_congr (g := fun k => gi pl k == (m : Int)) pl.length (fun i hi => ?_)]
    · exact h1
    · rw [Bool.eq_iff_iff]
      simp only [beq_iff_eq]
      constructor
      · intro e; rw [← (ha i).2 (by rw [e]; exact hT)]; exact e
      · intro e; rw [(ha i).1 (by rw [e]; exact hT)]; exact e
  · have e := (ha k).2 hT
    rw [e] at hT
    exact h.clo k hk hT
def BlkF (C : List (List Int)) (P : List Int) (L N : Nat) (T : Int → Bool) (F : Nat → List Int → (Int → Bool) → Srch) : Prop := ∀ k pl tr, k < L → GoodP C P L N pl → Closed C P L N T pl →
  ((∀ x, x ∈ gr C k → T x = true) → (F k pl tr).1 = false) ∧ ((F k pl tr).1 = true → Agree T pl (F k pl tr).2.1)
theorem vacL_blk {F : Nat → List Int → (Int → Bool) → Srch} (hB : BlkF C P L N T F) (hF : SoundF C P L N F) (n : Nat) (hn : n < N) : ∀ m k pl tr, m + k ≤ L → GoodP C P L N pl → Closed C P L N T pl →
    (T n = true → (vacL F n m k pl tr).1 = false) ∧ ((vacL F n m k pl tr).1 = true → Agree T pl (vacL F n m k pl tr).2.1)
  | 0, k, pl, tr, _, _, _ => ⟨fun _ => rfl, fun h => by cases h⟩
  | m + 1, k, pl, tr, hmk, hg, hc => by
    unfold vacL
    by_cases e : gi pl k = n
    · rw [if_pos e]
      have h1 := hB k pl tr (by omega) hg hc
      have h2 := hF k pl tr (by omega) hg
      by_cases e2 : (F k pl tr).1 = true
      · rw [if_pos e2]
        refine ⟨fun hT => ?_, fun _ => h1.2 e2⟩
        have := h1.1 (hc.clo k (by omega) (by rw [e]; exact hT))
        rw [this] at e2; cases e2
      · rw [if_neg e2, h2.1 (by simpa using e2)]
        exact vacL_blk hB hF n hn m (k + 1) pl _ (by omega) hg hc
    · rw [if_neg e]
      exact vacL_blk hB hF n hn m (k + 1) pl tr (by omega) hg hc
theorem vacF_blk {F : Nat → List Int → (Int → Bool) → Srch} (hB : BlkF C P L N T F) (hF : SoundF C P L N F) (fr : Nat) (hfr : fr ≤ L) (n : Nat) (hn : n < N) (pl : List Int) (tr : Int → Bool) (hg : GoodP C P L N pl) (hc : Closed C P L N T pl) :
    (T n = true → (vacF F P fr n pl tr).1 = false) ∧ ((vacF F P fr n pl tr).1 = true → Agree T pl (vacF F P fr n pl tr).2.1) := by
  unfold vacF
  rw [Int.toNat_natCast]
  by_cases e : cntN pl n < gi P n
  · rw [if_pos e]
    refine ⟨fun hT => ?_, fun _ => Agree.refl _ _⟩
    have := hc.full n hn hT
    omega
  · rw [if_neg e]
    exact vacL_blk hB hF n hn _ _ pl tr (by rw [hg.len]; omega) hg hc
theorem plcL_blk {V : Int → List Int → (Int → Bool) → Srch} (hV : ∀ (n : Nat) pl tr, n < N → GoodP C P L N pl → Closed C P L N T pl → (T n = true → (V n pl tr).1 = false) ∧ ((V n pl tr).1 = true → Agree T pl (V n pl tr).2.1))
    (hS : SoundV C P L N V) (job : Nat) (hj : job < L) : ∀ l : List Int, (∀ x : Int, x ∈ l → ∃ m : Nat, x = m ∧ m < N ∧ x ∈ gr C job) → ∀ pl tr, GoodP C P L N pl → Closed C P L N T pl →
    ((∀ x, x ∈ gr C job → T x = true) → (plcL V job l pl tr).1 = false) ∧ ((plcL V job l pl tr).1 = true → Agree T pl (plcL V job l pl tr).2.1)
  | [], _, pl, tr, hg, hc => ⟨fun _ => rfl, fun h => by cases h⟩
  | x :: r, hl, pl, tr, hg, hc => by
    obtain ⟨n, rfl, hn, hx⟩ := hl x (by simp)
    have hr : ∀ y : Int, y ∈ r → ∃ m : Nat, y = m ∧ m < N ∧ y ∈ gr C job := fun y hy => hl y (List.mem_cons_of_mem _ hy)
    unfold plcL
    by_cases e : tr n = true
    · rw [if_pos e]; exact plcL_blk hV hS job hj r hr pl tr hg hc
    · rw [if_neg e]
      have hs : setAt tr (n : Int) true n = true := by unfold setAt; rw [if_pos rfl]
      have h1 := hV n pl (setAt tr n true) hn hg hc
      have h2 := hS n pl (setAt tr n true) hn hs hg
      by_cases e2 : (V n pl (setAt tr n true)).1 = true
      · rw [if_pos e2]
        have hTn : T n = false := by
          cases e3 : T n with
          | false => rfl
          | true => rw [h1.1 e3] at e2; cases e2
        obtain ⟨g1, _, _⟩ := h2.2 e2
        have ha := h1.2 e2
        have hjl : job < (V n pl (setAt tr n true)).2.1.length := by rw [g1.len]; exact hj
        refine ⟨fun hT => ?_, fun _ i => ?_⟩
        · rw [hT n hx] at hTn; cases hTn
        · show (T (gi pl i) = true → gi ((V n pl (setAt tr n true)).2.1.set job n) i = gi pl i) ∧ (T (gi ((V n pl (setAt tr n true)).2.1.set job n) i) = true → gi ((V n pl (setAt tr n true)).2.1.set job n) i = gi pl i)
          rw [gi_set _ job n i hjl]
          by_cases e3 : i = job
          · subst e3
            rw [if_pos rfl]
            refine ⟨fun hT => ?_, fun hT => ?_⟩
            · rw [hc.clo i hj hT n hx] at hTn; cases hTn
            · rw [hT] at hTn; cases hTn
          · rw [if_neg e3]; exact ha i
      · rw [if_neg e2, h2.1 (by simpa using e2)]
        exact plcL_blk hV hS job hj r hr pl _ hg hc
theorem plF_blk (hE : ∀ i, i < L → ∀ j, j < (gr C i).length → ∃ m : Nat, gi (gr C i) j = m ∧ m < N) (fr : Nat) (hfr : fr ≤ L) : ∀ d, BlkF C P L N T (plF C P fr d)
  | 0 => fun k pl tr hk hg hc => ⟨fun _ => rfl, fun h => by cases h⟩
  | d + 1 => fun k pl tr hk hg hc => plcL_blk (fun n pl tr hn hg hc => vacF_blk (plF_blk hE fr hfr d) (plF_sound hE fr hfr d) fr hfr n hn pl tr hg hc)
      (vacF_sound (plF_sound hE fr hfr d) (fun k => plF_keeps C P fr d k) fr hfr) k hk (gr C k) (fun x hx => by
      obtain ⟨j, hj, e⟩ := mem_gi hx
      obtain ⟨m, h1, h2⟩ := hE k hk j hj
      exact ⟨m, by rw [← e]; exact h1, h2, hx⟩) pl tr hg hc
/-- What a search that fails has found out. -/
def Found (C : List (List Int)) (P : List Int) (L N fr : Nat) (pl : List Int) (tr tr' : Int → Bool) : Prop :=
  ∀ x, tr' x = true → tr x = true ∨ ∃ m : Nat, x = m ∧ m < N ∧ gi P m ≤ cntN pl m ∧ ∀ k, fr ≤ k → k < L → gi pl k = m → ∀ y, y ∈ gr C k → tr' y = true
theorem Found.refl (fr : Nat) (pl : List Int) (tr : Int → Bool) : Found C P L N fr pl tr tr := fun x h => .inl h
theorem Found.trans {fr : Nat} {pl : List Int} {a b c : Int → Bool} (h1 : Found C P L N fr pl a b) (h2 : Found C P L N fr pl b c) (hm : ∀ x, b x = true → c x = true) : Found C P L N fr pl a c := fun x hx => by
  rcases h2 x hx with h | h
  · rcases h1 x h with h | ⟨m, e, q1, q2, q3⟩
    · exact .inl h
    · exact .inr ⟨m, e, q1, q2, fun k h1 h2 h3 y hy => hm y (q3 k h1 h2 h3 y hy)⟩
  · exact .inr h
def CompF (C : List (List Int)) (P : List Int) (L N fr d : Nat) (F : Nat → List Int → (Int → Bool) → Srch) : Prop := ∀ k pl tr, k < L → GoodP C P L N pl → untr tr N < d → (F k pl tr).1 = false →
  (∀ x, x ∈ gr C k → (F k pl tr).2.2 x = true) ∧ Found C P L N fr pl tr (F k pl tr).2.2
theorem vacL_comp {F : Nat → List Int → (Int → Bool) → Srch} {fr d : Nat} (hC : CompF C P L N fr d F) (hF : SoundF C P L N F) (hK : ∀ k, Keeps (F k)) (n : Nat) : ∀ m k pl tr, m + k ≤ L → GoodP C P L N pl → untr tr N < d → (vacL F n m k pl tr).1 = false →
    (∀ j, k ≤ j → j < k + m → gi pl j = n → ∀ x, x ∈ gr C j → (vacL F n m k pl tr).2.2 x = true) ∧ Found C P L N fr pl tr (vacL F n m k pl tr).2.2
  | 0, k, pl, tr, _, _, _, _ => ⟨fun j h1 h2 => by omega, Found.refl _ _ _⟩
  | m + 1, k, pl, tr, hmk, hg, hu, hf => by
    unfold vacL at hf ⊢
    by_cases e : gi pl k = n
    · rw [if_pos e] at hf ⊢
      by_cases e2 : (F k pl tr).1 = true
      · rw [if_pos e2] at hf; cases hf
      · have e3 : (F k pl tr).1 = false := by simpa using e2
        have h1 := hC k pl tr (by omega) hg hu e3
        have hs := (hF k pl tr (by omega) hg).1 e3
        have hk := (hK k pl tr).2
        rw [if_neg e2, hs] at hf ⊢
        have hu2 : untr (F k pl tr).2.2 N < d := Nat.lt_of_le_of_lt (untr_mono hk N) hu
        have h2 := vacL_comp hC hF hK n m (k + 1) pl (F k pl tr).2.2 (by omega) hg hu2 hf
        have hk2 := (vacL_keeps hK n m (k + 1) pl (F k pl tr).2.2).2
        refine ⟨fun j q1 q2 q3 x hx => ?_, h1.2.trans h2.2 hk2⟩
        by_cases ej : j = k
        · subst ej; exact hk2 x (h1.1 x hx)
        · exact h2.1 j (by omega) (by omega) q3 x hx
    · rw [if_neg e] at hf ⊢
      have h2 := vacL_comp hC hF hK n m (k + 1) pl tr (by omega) hg hu hf
      refine ⟨fun j q1 q2 q3 x hx => ?_, h2.2⟩
      by_cases ej : j = k
      · subst ej; exact absurd q3 e
      · exact h2.1 j (by omega) (by omega) q3 x hx
theorem plcL_comp {F : Nat → List Int → (Int → Bool) → Srch} {fr d : Nat} (hC : CompF C P L N fr d F) (hF : SoundF C P L N F) (hK : ∀ k, Keeps (F k)) (hfr : fr ≤ L) (job : Nat) (hj : job < L) : ∀ l : List Int, (∀ x : Int, x ∈ l → ∃ m : Nat, x = m ∧ m < N ∧ x ∈ gr C job) → ∀ pl tr, GoodP C P L N pl → untr tr N < d + 1 →
    (plcL (vacF F P fr) job l pl tr).1 = false → (∀ x, x ∈ l → (plcL (vacF F P fr) job l pl tr).2.2 x = true) ∧ Found C P L N fr pl tr (plcL (vacF F P fr) job l pl tr).2.2
  | [], _, pl, tr, _, _, _ => ⟨fun x h => by simp at h, Found.refl _ _ _⟩
  | x :: r, hl, pl, tr, hg, hu, hf => by
    obtain ⟨n, rfl, hn, hx⟩ := hl x (by simp)
    have hr : ∀ y : Int, y ∈ r → ∃ m : Nat, y = m ∧ m < N ∧ y ∈ gr C job := fun y hy => hl y (List.mem_cons_of_mem _ hy)
    have hKV : ∀ n, Keeps (vacF F P fr n) := fun n => vacF_keeps hK P fr n
    unfold plcL at hf ⊢
    by_cases e : tr n = true
    · rw [if_pos e] at hf ⊢
      have h1 := plcL_comp hC hF hK hfr job hj r hr pl tr hg hu hf
      refine ⟨fun y hy => ?_, h1.2⟩
      rcases List.mem_cons.1 hy with rfl | hy
      · exact (plcL_keeps hKV job r pl tr).2 _ e
      · exact h1.1 y hy
    · rw [if_neg e] at hf ⊢
      have e0 : tr n = false := by simpa using e
      have hs : setAt tr (n : Int) true n = true := by unfold setAt; rw [if_pos rfl]
      by_cases e2 : (vacF F P fr n pl (setAt tr n true)).1 = true
      · rw [if_pos e2] at hf; cases hf
      · have e3 : (vacF F P fr n pl (setAt tr n true)).1 = false := by simpa using e2
        have hpl := (vacF_sound hF hK fr hfr n pl (setAt tr n true) hn hs hg).1 e3
        have hk := (hKV n pl (setAt tr n true)).2
        have hu1 : untr (setAt tr n true) N < d := by have := untr_set e0 N hn; omega
        have hu2 : untr (vacF F P fr n pl (setAt tr n true)).2.2 N < d + 1 := by
          have := untr_mono hk N
          omega
        -- what the failure for this night says
        have key : (gi P n ≤ cntN pl n ∧ ∀ k, fr ≤ k → k < L → gi pl k = n → ∀ y, y ∈ gr C k → (vacF F P fr n pl (setAt tr n true)).2.2 y = true) ∧ Found C P L N fr pl (setAt tr n true) (vacF F P fr n pl (setAt tr n true)).2.2 := by
          unfold vacF at e3 ⊢
          rw [Int.toNat_natCast] at e3 ⊢
          by_cases e4 : cntN pl n < gi P n
          · rw [if_pos e4] at e3; cases e3
          · rw [if_neg e4] at e3 ⊢
            have h5 := vacL_comp hC hF hK n (pl.length - fr) fr pl (setAt tr n true) (by rw [hg.len]; omega) hg hu1 e3
            exact ⟨⟨by omega, fun k q1 q2 q3 y hy => h5.1 k q1 (by rw [hg.len]; omega) q3 y hy⟩, h5.2⟩
        rw [if_neg e2, hpl] at hf ⊢
        have h1 := plcL_comp hC hF hK hfr job hj r hr pl _ hg hu2 hf
        have hk2 := (plcL_keeps hKV job r pl (vacF F P fr n pl (setAt tr n true)).2.2).2
        have hA : Found C P L N fr pl tr (vacF F P fr n pl (setAt tr n true)).2.2 := fun y hy => by
          rcases key.2 y hy with h | h
          · unfold setAt at h
            by_cases ey : y = n
            · subst ey; exact .inr ⟨n, rfl, hn, key.1.1, key.1.2⟩
            · rw [if_neg ey] at h; exact .inl h
          · exact .inr h
        refine ⟨fun y hy => ?_, hA.trans h1.2 hk2⟩
        rcases List.mem_cons.1 hy with rfl | hy
        · exact hk2 _ (hk _ hs)
        · exact h1.1 y hy
theorem plF_comp (hE : ∀ i, i < L → ∀ j, j < (gr C i).length → ∃ m : Nat, gi (gr C i) j = m ∧ m < N) (fr : Nat) (hfr : fr ≤ L) : ∀ d, CompF C P L N fr d (plF C P fr d)
  | 0 => fun k pl tr hk hg hu hf => absurd hu (Nat.not_lt_zero _)
  | d + 1 => fun k pl tr hk hg hu hf => plcL_comp (plF_comp hE fr hfr d) (plF_sound hE fr hfr d) (fun k => plF_keeps C P fr d k) hfr k hk (gr C k) (fun x hx => by
      obtain ⟨j, hj, e⟩ := mem_gi hx
      obtain ⟨m, h1, h2⟩ := hE k hk j hj
      exact ⟨m, by rw [← e]; exact h1, h2, hx⟩) pl tr hg hu hf
/-- A search that fails from nothing leaves nights that are full and closed. -/
theorem closed_of (hE : ∀ i, i < L → ∀ j, j < (gr C i).length → ∃ m : Nat, gi (gr C i) j = m ∧ m < N) {k : Nat} {pl : List Int} (hk : k < L) (hg : GoodP C P L N pl) (hf : (plF C P 0 (N + 1) k pl noT).1 = false) :
    Closed C P L N (plF C P 0 (N + 1) k pl noT).2.2 pl ∧ ∀ x, x ∈ gr C k → (plF C P 0 (N + 1) k pl noT).2.2 x = true := by
  have h := plF_comp hE 0 (Nat.zero_le _) (N + 1) k pl noT hk hg (by rw [untr_noT]; omega) hf
  have hm : ∀ x, (plF C P 0 (N + 1) k pl noT).2.2 x = true → ∃ m : Nat, x = m ∧ m < N ∧ gi P m ≤ cntN pl m ∧ ∀ k', 0 ≤ k' → k' < L → gi pl k' = m → ∀ y, y ∈ gr C k' → (plF C P 0 (N + 1) k pl noT).2.2 y = true := fun x hx => by
    rcases h.2 x hx with h | h
    · cases h
    · exact h
  refine ⟨⟨?_, fun m hmN hT => ?_, fun j hj hT x hx => ?_⟩, h.1⟩
  · cases e : (plF C P 0 (N + 1) k pl noT).2.2 (-1) with
    | false => rfl
    | true => obtain ⟨m, e2, _⟩ := hm _ e; omega
  · obtain ⟨m', e, _, q, _⟩ := hm _ hT
    obtain rfl : m = m' := by omega
    exact q
  · obtain ⟨m', e, _, _, q⟩ := hm _ hT
    exact q j (Nat.zero_le _) hj e x hx
end
end Go.Proofs.Ytghlhjiomebmhaa
