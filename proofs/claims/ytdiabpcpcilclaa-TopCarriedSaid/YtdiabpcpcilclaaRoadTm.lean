/-
  Plain mathematics of carrying stretches there and back, by steps and at once. By an AI agent.
-/
import Derived.Test.YtdiabpcpcilclaaRoadMi
namespace Go.Proofs.Ytdiabpcpcilclaa
set_option linter.unusedVariables false
set_option linter.unusedSimpArgs false
/-- A metre over one swap. -/
def mvM (s : Sw) (m : Int) : Option Int := if m < s.1 then some m else if s.1 + s.2.1 ≤ m then some (m + (s.2.2 - s.2.1)) else none
theorem mvM_iff {s : Sw} {m x : Int} (h : 0 ≤ s.2.1) : mvM s m = some x ↔ (m < s.1 ∧ x = m) ∨ (s.1 + s.2.1 ≤ m ∧ x = m + (s.2.2 - s.2.1)) := by
  unfold mvM
  split
  · constructor
    · intro h; cases h; exact .inl ⟨by assumption, rfl⟩
    · rintro (⟨_, rfl⟩ | ⟨h2, _⟩)
      · rfl
      · omega
  · split
    · constructor
      · intro h; cases h; exact .inr ⟨by assumption, rfl⟩
      · rintro (⟨h2, _⟩ | ⟨_, rfl⟩)
        · omega
        · rfl
    · constructor
      · intro h; cases h
      · rintro (⟨h2, _⟩ | ⟨h2, _⟩) <;> omega
theorem mvM_none {s : Sw} {m : Int} : mvM s m = none ↔ s.1 ≤ m ∧ m < s.1 + s.2.1 := by
  unfold mvM
  split
  · exact ⟨(fun h => by cases h), fun h => by omega⟩
  · split
    · exact ⟨(fun h => by cases h), fun h => by omega⟩
    · exact ⟨fun _ => by omega, fun _ => rfl⟩
theorem kept_mv {s : Sw} (hB : 0 ≤ s.2.1) (p : Spn) (x : Int) : InL (keptStep s p) x ↔ ∃ m, (p.1 ≤ m ∧ m < p.2) ∧ mvM s m = some x := by
  unfold keptStep keepL
  rw [inL_app]
  have h1 : InL (if (p.1, min p.2 s.1).1 < (p.1, min p.2 s.1).2 then [(p.1, min p.2 s.1)] else []) x ↔ p.1 ≤ x ∧ x < p.2 ∧ x < s.1 := by
    split
    · rw [inL_one]; simp only []; omega
    · rename_i h; simp only [] at h; exact ⟨fun g => absurd g (inL_nil x), fun g => by omega⟩
  have h2 : InL (if (max p.1 (s.1 + s.2.1) + (s.2.2 - s.2.1), p.2 + (s.2.2 - s.2.1)).1 < (max p.1 (s.1 + s.2.1) + (s.2.2 - s.2.1), p.2 + (s.2.2 - s.2.1)).2 then [(max p.1 (s.1 + s.2.1) + (s.2.2 - s.2.1), p.2 + (s.2.2 - s.2.1))] else []) x ↔ p.1 ≤ x - (s.2.2 - s.2.1) ∧ s.1 + s.2.1 ≤ x - (s.2.2 - s.2.1) ∧ x - (s.2.2 - s.2.1) < p.2 := by
    split
    · rw [inL_one]; simp only []; omega
    · rename_i h; simp only [] at h; exact ⟨fun g => absurd g (inL_nil x), fun g => by omega⟩
  rw [h1, h2]
  constructor
  · rintro (⟨a, b, c⟩ | ⟨a, b, c⟩)
    · exact ⟨x, ⟨a, b⟩, (mvM_iff hB).2 (.inl ⟨c, rfl⟩)⟩
    · exact ⟨x - (s.2.2 - s.2.1), ⟨a, c⟩, (mvM_iff hB).2 (.inr ⟨b, by omega⟩)⟩
  · rintro ⟨m, ⟨a, b⟩, h⟩
    rcases (mvM_iff hB).1 h with ⟨c, rfl⟩ | ⟨c, rfl⟩
    · exact .inl ⟨a, b, c⟩
    · exact .inr ⟨by omega, by omega, by omega⟩
theorem step_mv {s : Sw} (hB : 0 ≤ s.2.1) (q : List Spn) (x : Int) : InL (stepL s q) x ↔ ∃ m, InL q m ∧ mvM s m = some x := by
  induction q with
  | nil => exact ⟨fun h => absurd h (inL_nil x), fun ⟨m, h, _⟩ => absurd h (inL_nil m)⟩
  | cons p q ih =>
    have e : stepL s (p :: q) = keptStep s p ++ stepL s q := by simp [stepL]
    rw [e, inL_app, kept_mv hB, ih]
    constructor
    · rintro (⟨m, h, g⟩ | ⟨m, h, g⟩)
      · exact ⟨m, inL_cons.2 (.inl h), g⟩
      · exact ⟨m, inL_cons.2 (.inr h), g⟩
    · rintro ⟨m, h, g⟩
      rcases inL_cons.1 h with h | h
      · exact .inl ⟨m, h, g⟩
      · exact .inr ⟨m, h, g⟩
/-- A metre over the first k swaps. -/
def metK (f : Nat → Sw) (m : Int) : Nat → Option Int
  | 0 => some m
  | k + 1 => (metK f m k).bind (mvM (f k))
/-- Stretches over the first k swaps. -/
def keptQ (f : Nat → Sw) (q : List Spn) : Nat → List Spn
  | 0 => q
  | k + 1 => stepL (f k) (keptQ f q k)
theorem keptK_Q (f : Nat → Sw) (p : Spn) : ∀ k, keptK f p k = keptQ f [p] k
  | 0 => rfl
  | k + 1 => by rw [keptK, keptQ, keptK_Q f p k]
theorem keptQ_flat (f : Nat → Sw) (q : List Spn) : ∀ k, keptQ f q k = q.flatMap fun p => keptK f p k
  | 0 => by simp [keptQ, keptK]
  | k + 1 => by
    rw [keptQ, keptQ_flat f q k]
    unfold stepL
    rw [List.flatMap_assoc]
    rfl
theorem keptQ_mv {f : Nat → Sw} (q : List Spn) : ∀ k, (∀ j, j < k → 0 ≤ (f j).2.1) → ∀ x, InL (keptQ f q k) x ↔ ∃ m, InL q m ∧ metK f m k = some x
  | 0, _, x => ⟨fun h => ⟨x, h, rfl⟩, fun ⟨m, h, e⟩ => by cases e; exact h⟩
  | k + 1, hB, x => by
    rw [keptQ, step_mv (hB k (by omega))]
    constructor
    · rintro ⟨y, hy, e⟩
      obtain ⟨m, hm, e2⟩ := (keptQ_mv q k (fun j hj => hB j (by omega)) y).1 hy
      exact ⟨m, hm, by rw [metK, e2]; exact e⟩
    · rintro ⟨m, hm, e⟩
      rw [metK] at e
      cases h : metK f m k with
      | none => rw [h] at e; cases e
      | some y =>
        rw [h] at e
        exact ⟨y, (keptQ_mv q k (fun j hj => hB j (by omega)) y).2 ⟨m, hm, h⟩, e⟩
/-- The way back over a swap. -/
def invS (s : Sw) : Sw := (s.1, s.2.2, s.2.1)
theorem inv_mv {s : Sw} (hB : 0 ≤ s.2.1) (hD : 0 ≤ s.2.2) (m x : Int) : mvM s m = some x ↔ mvM (invS s) x = some m := by
  rw [mvM_iff hB, mvM_iff (s := invS s) hD]
  unfold invS
  simp only []
  omega
theorem metK_front (f : Nat → Sw) (m : Int) : ∀ k, metK f m (k + 1) = (mvM (f 0) m).bind fun x => metK (fun j => f (j + 1)) x k
  | 0 => by
    rw [metK, metK]
    cases h : mvM (f 0) m with
    | none => simp [h]
    | some x => simp [h, metK]
  | k + 1 => by
    rw [metK, metK_front f m k]
    cases h : mvM (f 0) m with
    | none => rfl
    | some x => rfl
theorem metK_inv : ∀ (n : Nat) (f g : Nat → Sw), (∀ j, j < n → 0 ≤ (f j).2.1 ∧ 0 ≤ (f j).2.2) → (∀ j, j < n → g j = invS (f (n - 1 - j))) → ∀ m x, metK f m n = some x ↔ metK g x n = some m
  | 0, f, g, _, _, m, x => by simp only [metK]; constructor <;> (intro h; cases h; rfl)
  | n + 1, f, g, hf, hg, m, x => by
    have ih := metK_inv n f (fun j => g (j + 1)) (fun j hj => hf j (by omega)) (fun j hj => by
      rw [hg (j + 1) (by omega), show n + 1 - 1 - (j + 1) = n - 1 - j by omega])
    have h0 : g 0 = invS (f n) := by rw [hg 0 (by omega)]; rfl
    have hn := hf n (by omega)
    rw [metK, metK_front, h0]
    constructor
    · intro h
      cases e : metK f m n with
      | none => rw [e] at h; cases h
      | some y =>
        rw [e] at h
        rw [(inv_mv hn.1 hn.2 y x).1 h]
        exact (ih m y).1 e
    · intro h
      cases e : mvM (invS (f n)) x with
      | none => rw [e] at h; cases h
      | some y =>
        rw [e] at h
        rw [(ih m y).2 h]
        exact (inv_mv hn.1 hn.2 y x).2 e
theorem metK_add (f : Nat → Sw) (m : Int) (a : Nat) : ∀ b, metK f m (a + b) = (metK f m a).bind fun x => metK (fun j => f (a + j)) x b
  | 0 => by cases h : metK f m a <;> simp [metK, h]
  | b + 1 => by
    rw [← Nat.add_assoc, metK, metK_add f m a b]
    cases h : metK f m a with
    | none => rfl
    | some x => rfl
theorem carK_add (f : Nat → Sw) (c : Int) (a : Nat) : ∀ b, carK f c (a + b) = (carK f c a).bind fun x => carK (fun j => f (a + j)) x b
  | 0 => by cases h : carK f c a <;> simp [carK, h]
  | b + 1 => by
    rw [← Nat.add_assoc, carK, carK_add f c a b]
    cases h : carK f c a with
    | none => rfl
    | some x => rfl
theorem metK_congr {f g : Nat → Sw} {m : Int} : ∀ k, (∀ j, j < k → f j = g j) → metK f m k = metK g m k
  | 0, _ => rfl
  | k + 1, h => by rw [metK, metK, metK_congr k (fun j hj => h j (by omega)), h k (by omega)]
theorem carK_cong {f g : Nat → Sw} {c : Int} : ∀ k, (∀ j, j < k → f j = g j) → carK f c k = carK g c k
  | 0, _ => rfl
  | k + 1, h => by rw [carK, carK, carK_cong k (fun j hj => h j (by omega)), h k (by omega)]
/-- The way back and the way on. -/
theorem sw_back (l : List Chg) (u w : Nat) {j : Nat} (hj : j < dst u w) : swK l w u j = invS (swK l u w (dst u w - 1 - j)) := by
  unfold dst at *
  unfold swK
  by_cases h : u < w
  · rw [if_neg (by omega), if_pos h, show u + (w - u + (u - w) - 1 - j) = w - 1 - j by omega]; rfl
  · rw [if_neg h]
    by_cases h2 : w < u
    · rw [if_pos h2, show u - 1 - (w - u + (u - w) - 1 - j) = w + j by omega]; rfl
    · omega
theorem sw_split (l : List Chg) {u v w : Nat} (h : (u ≤ v ∧ v ≤ w) ∨ (w ≤ v ∧ v ≤ u)) : dst u w = dst u v + dst v w ∧ (∀ j, j < dst u v → swK l u w j = swK l u v j) ∧ ∀ j, j < dst v w → swK l u w (dst u v + j) = swK l v w j := by
  unfold dst swK
  refine ⟨by omega, fun j hj => ?_, fun j hj => ?_⟩
  · by_cases h1 : u < v
    · rw [if_pos h1, if_pos (by omega)]
    · rw [if_neg h1, if_neg (by omega)]
  · by_cases h1 : v < w
    · rw [if_pos h1, if_pos (by omega), show u + (v - u + (u - v) + j) = v + j by omega]
    · rw [if_neg h1, if_neg (by omega), show u - 1 - (v - u + (u - v) + j) = v - 1 - j by omega]

/-- Ascending stretches that do not overlap. -/
def Asc0 (q : List Spn) : Prop := q.Pairwise (fun p r => p.2 ≤ r.1) ∧ AllV q
theorem canon_asc {q : List Spn} (h : Canon q) : Asc0 q := ⟨h.1.imp fun h => Int.le_of_lt h, h.2⟩
theorem asc_one {p : Spn} (h : p.1 < p.2) : Asc0 [p] := ⟨List.pairwise_singleton _ _, fun q hq => by simp at hq; subst hq; exact h⟩
theorem asc_gp {q : List Spn} (h : Asc0 q) {i j : Nat} (hij : i < j) (hj : j < q.length) : (gp q i).2 ≤ (gp q j).1 := by
  have := List.pairwise_iff_getElem.1 h.1 i j (by omega) hj hij
  unfold gp
  rw [List.getD_eq_getElem?_getD, List.getD_eq_getElem?_getD, List.getElem?_eq_getElem (by omega), List.getElem?_eq_getElem hj]
  exact this
theorem asc_join {d : List Spn} (h : Asc0 d) : ∀ k, k ≤ d.length → (∀ p ∈ joinK d k, ∀ j, k ≤ j → j < d.length → p.2 ≤ (gp d j).1) ∧ sumL (joinK d k) = sumL (d.take k)
  | 0, _ => ⟨(fun p hp => by cases hp), rfl⟩
  | k + 1, hk => by
    obtain ⟨h1, h2⟩ := asc_join h k (by omega)
    have hs := h.2 _ (gp_mem (show k < d.length by omega))
    have ht := sum_take (show k < d.length by omega)
    have ha : ∀ j, k + 1 ≤ j → j < d.length → (gp d k).2 ≤ (gp d j).1 := fun j hj hl => asc_gp h (by omega) hl
    have hb : ∀ p ∈ joinK d k, p.2 ≤ (gp d k).1 := fun p hp => h1 p hp k (Nat.le_refl _) (by omega)
    rw [ht, joinK]
    generalize gp d k = s at *
    generalize joinK d k = acc at *
    rcases snoc_cases acc with rfl | ⟨a, q, rfl⟩
    · rw [jn1_nil]
      refine ⟨fun p hp j hj hl => by simp at hp; subst hp; exact ha j hj hl, ?_⟩
      simp [sumL] at h2 ⊢; omega
    · rw [jn1_snoc]
      have hq := hb q (by simp)
      by_cases g : s.1 ≤ q.2
      · rw [if_pos g]
        refine ⟨fun p hp j hj hl => ?_, ?_⟩
        · rcases List.mem_append.1 hp with hp | hp
          · exact h1 p (List.mem_append_left _ hp) j (by omega) hl
          · simp at hp; subst hp; have := ha j hj hl; have := h1 q (by simp) j (by omega) hl; simp only []; omega
        · rw [sumL_app] at h2 ⊢
          simp only [sumL] at h2 ⊢
          omega
      · rw [if_neg g]
        refine ⟨fun p hp j hj hl => ?_, ?_⟩
        · rcases List.mem_append.1 hp with hp | hp
          · exact h1 p hp j (by omega) hl
          · simp at hp; subst hp; exact ha j hj hl
        · rw [sumL_app]
          simp only [sumL] at h2 ⊢
          omega
theorem can_sum {q : List Spn} (h : Asc0 q) : sumL (canL q) = sumL q := by
  have hA : AscF q := fun i j hij hj => by
    have h1 := asc_gp h hij hj
    have h2 := h.2 _ (gp_mem (show i < q.length by omega))
    omega
  rw [← (join_eq h.2 (List.Perm.refl _) hA).1, (asc_join h q.length (Nat.le_refl _)).2, List.take_length]
theorem step_cases {s : Sw} {p x : Spn} (hx : x ∈ keptStep s p) : (x = (p.1, min p.2 s.1) ∧ p.1 < min p.2 s.1) ∨ (x = (max p.1 (s.1 + s.2.1) + (s.2.2 - s.2.1), p.2 + (s.2.2 - s.2.1)) ∧ max p.1 (s.1 + s.2.1) < p.2) := by
  unfold keptStep keepL at hx
  rcases List.mem_append.1 hx with hx | hx
  · split at hx
    · rename_i h; simp at hx; simp only [] at h; exact .inl ⟨hx, h⟩
    · cases hx
  · split at hx
    · rename_i h; simp at hx; simp only [] at h; exact .inr ⟨hx, by omega⟩
    · cases hx
theorem step_asc {s : Sw} (hB : 0 ≤ s.2.1) (hD : 0 ≤ s.2.2) : ∀ {q : List Spn}, Asc0 q → Asc0 (stepL s q)
  | [], _ => ⟨List.Pairwise.nil, fun p hp => by cases hp⟩
  | p :: q, h => by
    have hc := h.1
    rw [List.pairwise_cons] at hc
    have ih := step_asc hB hD (q := q) ⟨hc.2, fun r hr => h.2 r (List.mem_cons_of_mem _ hr)⟩
    have e : stepL s (p :: q) = keptStep s p ++ stepL s q := by simp [stepL]
    refine ⟨?_, stepL_v _ _⟩
    rw [e, List.pairwise_append]
    refine ⟨?_, ih.1, fun x hx y hy => ?_⟩
    · unfold keptStep keepL
      split
      · split
        · rename_i a d
          simp only [] at a d
          simp only [List.cons_append, List.nil_append]
          exact List.Pairwise.cons (fun z hz => by simp at hz; subst hz; simp only []; omega) (List.pairwise_singleton _ _)
        · rw [List.append_nil]; exact List.pairwise_singleton _ _
      · split
        · exact List.pairwise_singleton _ _
        · exact List.Pairwise.nil
    · unfold stepL at hy
      rw [List.mem_flatMap] at hy
      obtain ⟨r, hr, hy⟩ := hy
      have hpr := hc.1 r hr
      rcases step_cases hx with ⟨rfl, hx2⟩ | ⟨rfl, hx2⟩ <;> rcases step_cases hy with ⟨rfl, hy2⟩ | ⟨rfl, hy2⟩ <;> simp only [] <;> omega
theorem step_len {s : Sw} (hB : 0 ≤ s.2.1) : ∀ {q : List Spn}, Asc0 q → (stepL s q).length ≤ q.length + 1 ∧ ((∀ p ∈ q, s.1 ≤ p.1 ∨ p.2 ≤ s.1 + s.2.1) → (stepL s q).length ≤ q.length)
  | [], _ => ⟨by simp [stepL], fun _ => by simp [stepL]⟩
  | p :: q, h => by
    have hc := h.1
    rw [List.pairwise_cons] at hc
    obtain ⟨i1, i2⟩ := step_len hB (q := q) ⟨hc.2, fun r hr => h.2 r (List.mem_cons_of_mem _ hr)⟩
    have e : stepL s (p :: q) = keptStep s p ++ stepL s q := by simp [stepL]
    have hk : (keptStep s p).length ≤ 2 := keepL_len _ _
    have hk1 : (s.1 ≤ p.1 ∨ p.2 ≤ s.1 + s.2.1) → (keptStep s p).length ≤ 1 := fun h => by
      unfold keptStep keepL
      split
      · split
        · rename_i a d; simp only [] at a d; omega
        · simp
      · split <;> simp
    rw [e, List.length_append, List.length_cons]
    by_cases h1 : s.1 ≤ p.1 ∨ p.2 ≤ s.1 + s.2.1
    · have := hk1 h1
      refine ⟨by omega, fun h => ?_⟩
      have := i2 fun r hr => h r (List.mem_cons_of_mem _ hr)
      omega
    · have := i2 fun r hr => by have := hc.1 r hr; omega
      exact ⟨by omega, fun h => absurd (h p (by simp)) h1⟩
theorem step_all {s : Sw} (hB : 0 ≤ s.2.1) : ∀ {q : List Spn}, AllV q → (∀ m, InL q m → mvM s m ≠ none) → sumL (stepL s q) = sumL q
  | [], _, _ => rfl
  | p :: q, hV, h => by
    have ih := step_all hB (q := q) (fun r hr => hV r (List.mem_cons_of_mem _ hr)) fun m hm => h m (inL_cons.2 (.inr hm))
    have e : stepL s (p :: q) = keptStep s p ++ stepL s q := by simp [stepL]
    have hp := hV p (by simp)
    have hn : ¬ (max p.1 s.1 < min p.2 (s.1 + s.2.1)) := fun g => h (max p.1 s.1) (inL_cons.2 (.inl ⟨by omega, by omega⟩)) (mvM_none.2 ⟨by omega, by omega⟩)
    rw [e, sumL_app, ih, sumL]
    unfold keptStep keepL
    rw [sumL_app]
    split <;> split <;> (rename_i a d; simp only [] at a d; simp only [sumL]; omega)
theorem keptQ_asc {f : Nat → Sw} {q : List Spn} (h : Asc0 q) : ∀ k, (∀ j, j < k → 0 ≤ (f j).2.1 ∧ 0 ≤ (f j).2.2) → Asc0 (keptQ f q k) ∧ (keptQ f q k).length ≤ q.length + k
  | 0, _ => ⟨h, Nat.le_refl _⟩
  | k + 1, hf => by
    obtain ⟨h1, h2⟩ := keptQ_asc h k fun j hj => hf j (by omega)
    have hk := hf k (by omega)
    have := (step_len hk.1 h1).1
    exact ⟨step_asc hk.1 hk.2 h1, by rw [keptQ]; omega⟩
/-- What loses no metre keeps its sum. -/
theorem keptQ_all {f : Nat → Sw} {q : List Spn} (hV : AllV q) {n : Nat} (hs : ∀ m, InL q m → metK f m n ≠ none) : ∀ k, k ≤ n → (∀ j, j < k → 0 ≤ (f j).2.1 ∧ 0 ≤ (f j).2.2) → sumL (keptQ f q k) = sumL q ∧ AllV (keptQ f q k)
  | 0, _, _ => ⟨rfl, hV⟩
  | k + 1, hk, hf => by
    obtain ⟨h1, h2⟩ := keptQ_all hV hs k (by omega) fun j hj => hf j (by omega)
    refine ⟨?_, stepL_v _ _⟩
    rw [keptQ, step_all (hf k (by omega)).1 h2 fun x hx => ?_, h1]
    obtain ⟨m, hm, e⟩ := (keptQ_mv q k (fun j hj => (hf j (by omega)).1) x).1 hx
    intro h0
    have h3 : metK f m (k + 1) = none := by rw [metK, e]; exact h0
    refine hs m hm ?_
    obtain ⟨d, rfl⟩ : ∃ d, n = k + 1 + d := ⟨n - (k + 1), by omega⟩
    rw [metK_add, h3]; rfl
end Go.Proofs.Ytdiabpcpcilclaa
