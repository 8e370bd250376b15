/-
  Whether one of n elements is such, and the first of them. By an AI agent.
-/
namespace Go.Proofs.YtiagflackfkmnaaGreat
set_option linter.unusedVariables false
set_option linter.unusedSimpArgs false
/-- Whether one of the first k elements is such. -/
def anyK (p : Nat → Bool) : Nat → Bool
  | 0 => false
  | k + 1 => anyK p k || p k
theorem anyK_false {p : Nat → Bool} : ∀ k, (∀ j, j < k → p j = false) → anyK p k = false
  | 0, _ => rfl
  | k + 1, h => by rw [anyK, anyK_false k (fun j hj => h j (by omega)), h k (by omega)]; rfl
theorem anyK_true {p : Nat → Bool} {j : Nat} (h : p j = true) : ∀ k, j < k → anyK p k = true
  | k + 1, hj => by
    rw [anyK]
    by_cases e : j = k
    · subst e; rw [h, Bool.or_true]
    · rw [anyK_true h k (by omega), Bool.true_or]
theorem anyK_iff {p : Nat → Bool} : ∀ k, anyK p k = false ↔ ∀ j, j < k → p j = false
  | 0 => by simp [anyK]
  | k + 1 => by
    rw [anyK, Bool.or_eq_false_iff, anyK_iff k]
    constructor
    · intro h j hj
      by_cases e : j = k
      · subst e; exact h.2
      · exact h.1 j (by omega)
    · intro h; exact ⟨fun j hj => h j (by omega), h k (by omega)⟩
/-- The place of the first of n elements that is such, or -1. -/
def idxK (p : Nat → Bool) : Nat → Int
  | 0 => -1
  | k + 1 => if idxK p k = -1 then (if p k then (k : Int) else -1) else idxK p k
theorem idxK_any (p : Nat → Bool) : ∀ k, decide (0 ≤ idxK p k) = anyK p k
  | 0 => by simp [idxK, anyK]
  | k + 1 => by
    have ih := idxK_any p k
    rw [idxK, anyK, ← ih]
    have hh : idxK p k = -1 ∨ 0 ≤ idxK p k := by
      clear ih
      induction k with
      | zero => left; rfl
      | succ k ih =>
        rw [idxK]
        rcases ih with h | h
        · rw [if_pos h]; split
          · right; omega
          · left; rfl
        · rw [if_neg (by omega)]; right; exact h
    rcases hh with h | h
    · rw [if_pos h, h]
      cases p k <;> simp
    · rw [if_neg (by omega)]
      simp [h]
theorem idxK_hit {p : Nat → Bool} {k : Nat} (h : p k = true) (hb : ∀ j, j < k → p j = false) : ∀ n, k < n → idxK p n = k
  | n + 1, hn => by
    rw [idxK]
    by_cases e : k = n
    · subst e
      have : idxK p k = -1 := by
        have := idxK_any p k
        rw [anyK_false k hb, decide_eq_false_iff_not] at this
        clear h hn
        induction k with
        | zero => rfl
        | succ k ih =>
          have i2 := ih (fun j hj => hb j (by omega)) (by
            intro h0
            have h1 := idxK_any p k
            rw [anyK_false k (fun j hj => hb j (by omega)), decide_eq_false_iff_not] at h1
            exact h1 h0)
          rw [idxK, i2, if_pos rfl, hb k (by omega)]; rfl
      rw [if_pos this, if_pos h]
    · rw [idxK_hit h hb n (by omega), if_neg (by omega)]
theorem idxK_miss {p : Nat → Bool} : ∀ n, (∀ j, j < n → p j = false) → idxK p n = -1
  | 0, _ => rfl
  | n + 1, h => by rw [idxK, idxK_miss n (fun j hj => h j (by omega)), if_pos rfl, h n (by omega)]; rfl

end Go.Proofs.YtiagflackfkmnaaGreat
