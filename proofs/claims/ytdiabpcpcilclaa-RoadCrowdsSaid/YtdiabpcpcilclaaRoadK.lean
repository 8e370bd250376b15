/-
  Plain mathematics of stretches that are carried. By an AI agent.
-/
import Derived.Test.YtdiabpcpcilclaaRoadSp
namespace Go.Proofs.Ytdiabpcpcilclaa
set_option linter.unusedVariables false
set_option linter.unusedSimpArgs false
/-- Those of two stretches that have metres. -/
def keepL (p q : Spn) : List Spn := (if p.1 < p.2 then [p] else []) ++ (if q.1 < q.2 then [q] else [])
def keptStep (s : Sw) (p : Spn) : List Spn := keepL (p.1, min p.2 s.1) (max p.1 (s.1 + s.2.1) + (s.2.2 - s.2.1), p.2 + (s.2.2 - s.2.1))
def stepL (s : Sw) (q : List Spn) : List Spn := q.flatMap (keptStep s)
def keptK (f : Nat → Sw) (p : Spn) : Nat → List Spn
  | 0 => [p]
  | k + 1 => stepL (f k) (keptK f p k)
/-- All within a version. -/
def InV (len : Int) (q : List Spn) : Prop := ∀ p ∈ q, 0 ≤ p.1 ∧ p.1 ≤ p.2 ∧ p.2 ≤ len
theorem keepL_v (p q : Spn) : AllV (keepL p q) := by
  intro r hr
  unfold keepL at hr
  rcases List.mem_append.1 hr with h | h
  · split at h
    · simp at h; subst h; assumption
    · cases h
  · split at h
    · simp at h; subst h; assumption
    · cases h
theorem keepL_len (p q : Spn) : (keepL p q).length ≤ 2 := by
  unfold keepL; split <;> split <;> simp
theorem stepL_v (s : Sw) (q : List Spn) : AllV (stepL s q) := by
  intro r hr
  unfold stepL at hr
  rw [List.mem_flatMap] at hr
  obtain ⟨p, _, h⟩ := hr
  exact keepL_v _ _ r h
theorem step_in {len len' : Int} {s : Sw} (h : swOk len len' s) {p : Spn} (hp : 0 ≤ p.1 ∧ p.1 ≤ p.2 ∧ p.2 ≤ len) : InV len' (keptStep s p) := by
  obtain ⟨⟨a, b, c⟩, ⟨d, e⟩, f, _, _⟩ := h
  intro r hr
  unfold keptStep keepL at hr
  rcases List.mem_append.1 hr with h | h
  · split at h
    · simp at h; subst h; simp only at *; omega
    · cases h
  · split at h
    · simp at h; subst h; simp only at *; omega
    · cases h
theorem stepL_in {len len' : Int} {s : Sw} (h : swOk len len' s) {q : List Spn} (hq : InV len q) : InV len' (stepL s q) := by
  intro r hr
  unfold stepL at hr
  rw [List.mem_flatMap] at hr
  obtain ⟨p, hp, hr⟩ := hr
  exact step_in h (hq p hp) r hr
theorem step_sum {len len' : Int} {s : Sw} (h : swOk len len' s) {p : Spn} (hp : 0 ≤ p.1 ∧ p.1 ≤ p.2 ∧ p.2 ≤ len) : sumL (keptStep s p) ≤ p.2 - p.1 := by
  obtain ⟨⟨a, b, c⟩, ⟨d, e⟩, f, _, _⟩ := h
  unfold keptStep keepL
  rw [sumL_app]
  split <;> split <;> simp only [sumL] <;> simp only at * <;> omega
theorem stepL_sum {len len' : Int} {s : Sw} (h : swOk len len' s) : ∀ {q : List Spn}, InV len q → sumL (stepL s q) ≤ sumL q
  | [], _ => Int.le_refl _
  | p :: q, hq => by
    have ih := stepL_sum h (q := q) fun r hr => hq r (List.mem_cons_of_mem _ hr)
    have h1 := step_sum h (hq p (by simp))
    have e : stepL s (p :: q) = keptStep s p ++ stepL s q := by simp [stepL]
    rw [e, sumL_app, sumL]
    omega
theorem sum_nonneg : ∀ {q : List Spn}, (∀ p ∈ q, p.1 ≤ p.2) → 0 ≤ sumL q
  | [], _ => Int.le_refl _
  | p :: q, h => by
    have ih := sum_nonneg (q := q) fun r hr => h r (List.mem_cons_of_mem _ hr)
    have := h p (by simp)
    rw [sumL]; omega
theorem sum_take_le {q : List Spn} (h : ∀ p ∈ q, p.1 ≤ p.2) (m : Nat) : sumL (q.take m) ≤ sumL q := by
  have e : sumL q = sumL (q.take m) + sumL (q.drop m) := by rw [← sumL_app, List.take_append_drop]
  have := sum_nonneg (q := q.drop m) fun p hp => h p (List.mem_of_mem_drop hp)
  omega
theorem stepL_take {s : Sw} {q : List Spn} {m : Nat} (h : m < q.length) : stepL s (q.take (m + 1)) = stepL s (q.take m) ++ keptStep s (gp q m) := by
  rw [take_gp h]; simp [stepL]
theorem keptK_in {len : Nat → Int} {f : Nat → Sw} {n : Nat} (h : ∀ j, j < n → swOk (len j) (len (j + 1)) (f j)) {p : Spn} (hp : 0 ≤ p.1 ∧ p.1 ≤ p.2 ∧ p.2 ≤ len 0) : ∀ k, k ≤ n → InV (len k) (keptK f p k)
  | 0, _ => by intro r hr; simp [keptK] at hr; subst hr; exact hp
  | k + 1, hk => stepL_in (h k (by omega)) (keptK_in h hp k (by omega))
theorem keptK_sum {len : Nat → Int} {f : Nat → Sw} {n : Nat} (h : ∀ j, j < n → swOk (len j) (len (j + 1)) (f j)) {p : Spn} (hp : 0 ≤ p.1 ∧ p.1 ≤ p.2 ∧ p.2 ≤ len 0) : ∀ k, k ≤ n → sumL (keptK f p k) ≤ p.2 - p.1
  | 0, _ => by simp [keptK, sumL]
  | k + 1, hk => by
    have ih := keptK_sum h hp k (by omega)
    have := stepL_sum (h k (by omega)) (keptK_in h hp k (by omega))
    rw [keptK]; omega
theorem keptK_v {f : Nat → Sw} {p : Spn} (hp : p.1 < p.2) : ∀ k, AllV (keptK f p k)
  | 0 => by intro r hr; simp [keptK] at hr; subst hr; exact hp
  | k + 1 => stepL_v _ _
/-- How many stretches there are on the way. -/
theorem part_len {len len' : Int} {s : Sw} (h : swOk len len' s) {q : List Spn} (hq : InV len q) (hs : sumL q ≤ 10000000) (m : Nat) : ((stepL s (q.take m)).length : Int) ≤ 10000000 := by
  have h1 := sumL_len (stepL_v s (q.take m))
  have h2 := stepL_sum h (q := q.take m) fun p hp => hq p (List.mem_of_mem_take hp)
  have h3 := sum_take_le (q := q) (fun p hp => (hq p hp).2.1) m
  omega
theorem keptK_len {len : Nat → Int} {f : Nat → Sw} {n : Nat} (h : ∀ j, j < n → swOk (len j) (len (j + 1)) (f j)) {p : Spn} (hp : 0 ≤ p.1 ∧ p.1 ≤ p.2 ∧ p.2 ≤ len 0) (hl : len 0 ≤ 10000000) : ∀ k, k ≤ n → (keptK f p k).length ≤ 10000000
  | 0, _ => by simp [keptK]
  | k + 1, hk => by
    have h1 := keptK_sum h hp (k + 1) hk
    have h2 := sumL_len (stepL_v (f k) (keptK f p k))
    rw [keptK] at h1 ⊢
    omega
theorem keptK_congr {f g : Nat → Sw} {p : Spn} : ∀ k, (∀ j, j < k → f j = g j) → keptK f p k = keptK g p k
  | 0, _ => rfl
  | k + 1, h => by rw [keptK, keptK, keptK_congr k (fun j hj => h j (by omega)), h k (by omega)]
theorem join_le {d : List Spn} (h : ∀ p ∈ d, p.1 ≤ p.2) : ∀ k, k ≤ d.length → (∀ p ∈ joinK d k, p.1 ≤ p.2) ∧ sumL (joinK d k) ≤ sumL (d.take k)
  | 0, _ => ⟨(fun p hp => by cases hp), Int.le_refl _⟩
  | k + 1, hk => by
    obtain ⟨h1, h2⟩ := join_le h k (by omega)
    have hs := h _ (gp_mem (show k < d.length by omega))
    have ht := sum_take (show k < d.length by omega)
    rw [ht, joinK]
    generalize gp d k = s at *
    generalize joinK d k = acc at *
    rcases snoc_cases acc with rfl | ⟨a, q, rfl⟩
    · rw [jn1_nil]
      refine ⟨fun p hp => by simp at hp; subst hp; exact hs, ?_⟩
      simp [sumL] at h2 ⊢; omega
    · rw [jn1_snoc]
      have hq := h1 q (by simp)
      by_cases g : s.1 ≤ q.2
      · rw [if_pos g]
        refine ⟨fun p hp => ?_, ?_⟩
        · rcases List.mem_append.1 hp with hp | hp
          · exact h1 p (List.mem_append_left _ hp)
          · simp at hp; subst hp; simp only []; omega
        · rw [sumL_app] at h2 ⊢
          simp only [sumL] at h2 ⊢
          omega
      · rw [if_neg g]
        refine ⟨fun p hp => ?_, ?_⟩
        · rcases List.mem_append.1 hp with hp | hp
          · exact h1 p hp
          · simp at hp; subst hp; exact hs
        · rw [sumL_app]
          simp only [sumL] at h2 ⊢
          omega
/-- The sum of what is joined. -/
theorem join_sum {l d : List Spn} (h : ∀ p ∈ l, p.1 ≤ p.2) (hp : d.Perm l) : (∀ p ∈ joinK d d.length, p.1 ≤ p.2) ∧ 0 ≤ sumL (joinK d d.length) ∧ sumL (joinK d d.length) ≤ sumL l := by
  obtain ⟨h1, h2⟩ := join_le (d := d) (fun p hp' => h p (hp.mem_iff.1 hp')) d.length (Nat.le_refl _)
  rw [List.take_length] at h2
  exact ⟨h1, sum_nonneg h1, by rw [← sumL_perm hp]; exact h2⟩
end Go.Proofs.Ytdiabpcpcilclaa
