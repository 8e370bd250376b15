/-
  The table of the best states is the least over all orders of the pieces. By an AI agent.
-/
import Derived.Test.YtmeoekcajmgiaaaCutT
namespace Go.Proofs.Ytmeoekcajmgiaaa
set_option linter.unusedVariables false
set_option linter.unusedSimpArgs false
/-- A list of piece numbers that has the members of a set, each once. -/
def ordS (S : Nat) (l : List Nat) : Prop := l.Nodup ∧ ∀ k, k ∈ l ↔ S.testBit k = true
theorem sub_bit_tab : ∀ S : Nat, S < 1024 → ∀ i : Nat, i < 10 → S.testBit i = true → ∀ j : Nat, j < 10 → (S - 2 ^ i).testBit j = (S.testBit j && !(decide (j = i))) := by decide +kernel
theorem far_bit {S j : Nat} (h : S < 1024) (hj : 10 ≤ j) : S.testBit j = false := Nat.testBit_lt_two_pow (Nat.lt_of_lt_of_le h (Nat.pow_le_pow_right (n := 2) (by omega) hj : 2 ^ 10 ≤ 2 ^ j))
theorem near_bit {S j : Nat} (h : S < 1024) (hj : S.testBit j = true) : j < 10 := by
  rcases Nat.lt_or_ge j 10 with g | g
  · exact g
  · rw [far_bit h g] at hj; cases hj
theorem sub_bit {S i j : Nat} (h : S < 1024) (hi : S.testBit i = true) : (S - 2 ^ i).testBit j = (S.testBit j && !(decide (j = i))) := by
  have i10 := near_bit h hi
  rcases Nat.lt_or_ge j 10 with g | g
  · exact sub_bit_tab S h i i10 hi j g
  · rw [far_bit (S := S - 2 ^ i) (Nat.lt_of_le_of_lt (Nat.sub_le _ _) h) g, far_bit h g]; rfl
theorem ordS_last {S k : Nat} {l : List Nat} (h : S < 1024) (ho : ordS S (l ++ [k])) : S.testBit k = true ∧ ordS (S - 2 ^ k) l := by
  obtain ⟨h1, h2⟩ := ho
  have hk : S.testBit k = true := (h2 k).1 (by simp)
  rw [List.nodup_append] at h1
  obtain ⟨n1, n2, n3⟩ := h1
  refine ⟨hk, n1, fun j => ?_⟩
  rw [sub_bit h hk]
  constructor
  · intro hj
    have hne : j ≠ k := n3 j hj k (by simp)
    rw [(h2 j).1 (by simp [hj])]
    simp [hne]
  · intro hj
    simp only [Bool.and_eq_true, Bool.not_eq_true', decide_eq_false_iff_not] at hj
    have := (h2 j).2 hj.1
    simp only [List.mem_append, List.mem_singleton] at this
    exact this.resolve_right hj.2
theorem ordS_snoc {S k : Nat} {l : List Nat} (h : S < 1024) (hk : S.testBit k = true) (ho : ordS (S - 2 ^ k) l) : ordS S (l ++ [k]) := by
  obtain ⟨h1, h2⟩ := ho
  have hkl : k ∉ l := fun e => by
    have := (h2 k).1 e
    rw [sub_bit h hk] at this
    simp at this
  refine ⟨?_, fun j => ?_⟩
  · rw [List.nodup_append]
    refine ⟨h1, by simp, ?_⟩
    intro a ha b hb
    simp only [List.mem_singleton] at hb
    subst hb
    intro e
    exact hkl (e ▸ ha)
  · simp only [List.mem_append, List.mem_singleton]
    rw [h2 j, sub_bit h hk]
    by_cases e : j = k
    · subst e; simp [hk]
    · simp [e]
theorem ordS_zero {l : List Nat} (h : ordS 0 l) : l = [] := by
  cases l with
  | nil => rfl
  | cons a l => have := (h.2 a).1 (by simp); simp at this
/-- What stands in the table stays. -/
theorem tabS_stay (q : List Int) (m : Int) : ∀ s x, x ≤ s → tabS q m s x = tabS q m x x
  | 0, x, h => by rw [show x = 0 from by omega]
  | s + 1, x, h => by
    by_cases e : x = s + 1
    · subst e; rfl
    · rw [tabS, updT_other _ _ e, tabS_stay q m s x (by omega)]
theorem tabS_row (q : List Int) (m : Int) {x : Nat} (h : 0 < x) : tabS q m x x = rowS q m (tabS q m (x - 1)) x q.length := by
  obtain ⟨s, rfl⟩ : ∃ s, x = s + 1 := ⟨x - 1, by omega⟩
  rw [tabS, updT_same, Nat.add_sub_cancel]
theorem btr_le {a b : Int × Int} (h : btr a b = true) : leS a b := by
  unfold btr at h
  unfold leS
  simp only [Bool.or_eq_true, Bool.and_eq_true, decide_eq_true_eq] at h
  omega
theorem btr_not {a b : Int × Int} (h : ¬ btr a b = true) : leS b a := by
  unfold btr at h
  unfold leS
  simp only [Bool.or_eq_true, Bool.and_eq_true, decide_eq_true_eq] at h
  omega
/-- The row is no worse than any of its last pieces. -/
theorem rowS_le (q : List Int) (m : Int) (T : Nat → Int × Int) (S : Nat) : ∀ n k, k < n → S.testBit k = true → leS (rowS q m T S n) (withS (T (S - 2 ^ k)) (gi q k) m)
  | n + 1, k, hk, hb => by
    rw [rowS]
    by_cases e : k = n
    · subst e
      rw [if_pos hb]
      split
      · exact leS_refl _
      · rename_i hn; exact btr_not hn
    · have ih := rowS_le q m T S n k (by omega) hb
      split
      · split
        · rename_i hn; exact leS_trans (btr_le hn) ih
        · exact ih
      · exact ih
/-- The row is where it began or one of its last pieces. -/
theorem rowS_is (q : List Int) (m : Int) (T : Nat → Int × Int) (S : Nat) : ∀ n, (rowS q m T S n = ((q.length : Int) + 1, 0)) ∨ ∃ k, k < n ∧ S.testBit k = true ∧ rowS q m T S n = withS (T (S - 2 ^ k)) (gi q k) m
  | 0 => .inl rfl
  | n + 1 => by
    have ih := rowS_is q m T S n
    rw [rowS]
    split
    · rename_i hb
      split
      · exact .inr ⟨n, by omega, hb, rfl⟩
      · rcases ih with g | ⟨k, g1, g2, g3⟩
        · exact .inl g
        · exact .inr ⟨k, by omega, g2, g3⟩
    · rcases ih with g | ⟨k, g1, g2, g3⟩
      · exact .inl g
      · exact .inr ⟨k, by omega, g2, g3⟩
theorem runS_count {m : Int} : ∀ (l : List Int) (a : Int × Int), (runS m a l).1 ≤ a.1 + l.length
  | [], a => by rw [runS]; simp
  | s :: l, a => by
    rw [runS, List.length_cons]
    have ih := runS_count l (withS a s m) (m := m)
    have : (withS a s m).1 ≤ a.1 + 1 := by
      unfold withS
      split
      · show a.1 ≤ a.1 + 1; omega
      · exact Int.le_refl _
    push_cast
    omega
theorem bit_lt {S n k : Nat} (h : S < 2 ^ n) (hk : S.testBit k = true) : k < n := by
  rcases Nat.lt_or_ge k n with g | g
  · exact g
  · rw [Nat.testBit_lt_two_pow (Nat.lt_of_lt_of_le h (Nat.pow_le_pow_right (by omega) g))] at hk; cases hk
/-- No order of a set's pieces is better than the table says. -/
theorem tab_least {q : List Int} {m : Int} (h10 : q.length ≤ 10) (hm : 0 ≤ m) (hq : ∀ j, 0 ≤ gi q j) : ∀ (r : Nat) (l : List Nat), l.length = r → ∀ S, S < 2 ^ q.length → ordS S l → leS (tabS q m S S) (runS m (0, m) (l.map (gi q)))
  | 0, l, hl, S, hS, ho => by
    have : l = [] := List.length_eq_zero_iff.1 hl
    subst this
    have hz : S = 0 := Nat.eq_of_testBit_eq fun j => by
      have := ho.2 j
      simp only [List.not_mem_nil, false_iff, Bool.not_eq_true] at this
      rw [this, Nat.zero_testBit]
    subst hz
    rw [tabS, updT_same]
    exact leS_refl _
  | r + 1, l, hl, S, hS, ho => by
    have hne : l ≠ [] := fun e => by rw [e] at hl; simp at hl
    obtain ⟨l', k, rfl⟩ : ∃ l' k, l = l' ++ [k] := ⟨l.dropLast, l.getLast hne, (List.dropLast_concat_getLast hne).symm⟩
    have h1024 : S < 1024 := Nat.lt_of_lt_of_le hS (Nat.pow_le_pow_right (n := 2) (by omega) h10 : 2 ^ q.length ≤ 2 ^ 10)
    obtain ⟨hb, ho'⟩ := ordS_last h1024 ho
    have hp := Nat.two_pow_pos k
    have hge := Nat.ge_two_pow_of_testBit hb
    have ih := tab_least h10 hm hq r l' (by simp at hl; exact hl) (S - 2 ^ k) (by omega) ho'
    have hlow := rowS_le q m (tabS q m (S - 1)) S q.length k (bit_lt hS hb) hb
    rw [← tabS_row q m (by omega), tabS_stay q m (S - 1) (S - 2 ^ k) (by omega)] at hlow
    rw [List.map_append, runS_app]
    refine leS_trans hlow ?_
    show leS _ (withS (runS m (0, m) (l'.map (gi q))) (gi q k) m)
    refine withS_mono ih (runS_pos _ _ ?_ hm) (Int.le_refl _) (Int.le_refl _)
    intro s hs
    obtain ⟨j, _, rfl⟩ := List.mem_map.1 hs
    exact hq j
theorem nodup_len {l : List Nat} {n : Nat} (h : l.Nodup) (hl : ∀ k, k ∈ l → k < n) : l.length ≤ n := by
  have hp : l.Perm ((List.range n).filter fun k => decide (k ∈ l)) := by
    refine (List.perm_ext_iff_of_nodup h (List.Pairwise.filter _ List.nodup_range)).2 fun k => ?_
    rw [List.mem_filter, List.mem_range, decide_eq_true_eq]
    exact ⟨fun hk => ⟨hl k hk, hk⟩, fun hk => hk.2⟩
  have h1 := hp.length_eq
  have h2 := List.length_filter_le (fun k => decide (k ∈ l)) (List.range n)
  rw [List.length_range] at h2
  omega
/-- Some order of a set's pieces is as good as the table says. -/
theorem tab_order {q : List Int} {m : Int} (h10 : q.length ≤ 10) : ∀ (S : Nat), S < 2 ^ q.length → ∃ l, ordS S l ∧ tabS q m S S = runS m (0, m) (l.map (gi q)) := by
  intro S
  induction S using Nat.strongRecOn with
  | ind S ih =>
    intro hS
    by_cases hz : S = 0
    · subst hz
      exact ⟨[], ⟨List.nodup_nil, fun k => by simp⟩, by rw [tabS, updT_same]; rfl⟩
    · have h1024 : S < 1024 := Nat.lt_of_lt_of_le hS (Nat.pow_le_pow_right (n := 2) (by omega) h10 : 2 ^ q.length ≤ 2 ^ 10)
      have step : ∀ k, S.testBit k = true → ∃ l, ordS S l ∧ withS (tabS q m (S - 1) (S - 2 ^ k)) (gi q k) m = runS m (0, m) (l.map (gi q)) := by
        intro k hb
        have hp := Nat.two_pow_pos k
        have hge := Nat.ge_two_pow_of_testBit hb
        obtain ⟨l, h1, h2⟩ := ih (S - 2 ^ k) (by omega) (by omega)
        refine ⟨l ++ [k], ordS_snoc h1024 hb h1, ?_⟩
        rw [tabS_stay q m (S - 1) (S - 2 ^ k) (by omega), List.map_append, runS_app, h2]
        rfl
      rw [tabS_row q m (by omega)]
      rcases rowS_is q m (tabS q m (S - 1)) S q.length with g | ⟨k, g1, g2, g3⟩
      · exfalso
        obtain ⟨k, hb⟩ : ∃ k, S.testBit k = true := by
          rcases Classical.em (∃ k, S.testBit k = true) with e | e
          · exact e
          · exact (hz (Nat.eq_of_testBit_eq fun j => by
              rw [Nat.zero_testBit]
              cases hj : S.testBit j with
              | false => rfl
              | true => exact (e ⟨j, hj⟩).elim)).elim
        have hle := leS_rolls (rowS_le q m (tabS q m (S - 1)) S q.length k (bit_lt hS hb) hb)
        obtain ⟨l, h1, h2⟩ := step k hb
        rw [g, h2] at hle
        have hc := runS_count (m := m) (l.map (gi q)) (0, m)
        rw [List.length_map] at hc
        have hl := nodup_len h1.1 (n := q.length) fun k hk => bit_lt hS ((h1.2 k).1 hk)
        simp only [] at hle hc
        omega
      · rw [g3]
        exact step k g2
/-- The whole set: an order of it is an order of all piece numbers. -/
theorem ordS_full {n : Nat} {l : List Nat} : ordS (2 ^ n - 1) l ↔ l.Perm (List.range n) := by
  constructor
  · intro h
    refine (List.perm_ext_iff_of_nodup h.1 List.nodup_range).2 fun k => ?_
    rw [h.2 k, Nat.testBit_two_pow_sub_one, List.mem_range]
    simp
  · intro h
    refine ⟨h.symm.nodup List.nodup_range, fun k => ?_⟩
    rw [h.mem_iff, List.mem_range, Nat.testBit_two_pow_sub_one]
    simp
end Go.Proofs.Ytmeoekcajmgiaaa
