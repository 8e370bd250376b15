/-
  Plain mathematics of prices: the greatest worth, found for all numbers of an ask at once, or piece by piece. By an AI agent.
-/
namespace Go.Proofs.Ytmeoekcajmgiaaa
set_option linter.unusedVariables false
set_option linter.unusedSimpArgs false
/-- The greatest worth of less than m pieces of a size and a price, and of what b knows for the rest of the room. -/
def topN (b : Nat → Int) (sz : Nat) (pr : Int) (r : Nat) : Nat → Int
  | 0 => 0
  | n + 1 => if n * sz ≤ r then max (topN b sz pr r n) (n * pr + b (r - n * sz)) else topN b sz pr r n
/-- The same, piece by piece. -/
def pkN (b : Nat → Int) (sz : Nat) (pr : Int) : Nat → Nat → Int
  | 0, r => b r
  | m + 1, r => if sz ≤ r then max (pkN b sz pr m r) (pkN b sz pr m (r - sz) + pr) else pkN b sz pr m r
theorem topN_nonneg (b : Nat → Int) (sz : Nat) (pr : Int) (r : Nat) : ∀ n, 0 ≤ topN b sz pr r n
  | 0 => by simp [topN]
  | n + 1 => by
    have ih := topN_nonneg b sz pr r n
    rw [topN]; split <;> omega
theorem topN_ub (b : Nat → Int) (sz : Nat) (pr : Int) (r : Nat) : ∀ m n, n < m → n * sz ≤ r → n * pr + b (r - n * sz) ≤ topN b sz pr r m
  | m + 1, n, hn, hr => by
    rw [topN]
    by_cases e : n = m
    · subst e; rw [if_pos hr]; omega
    · have ih := topN_ub b sz pr r m n (by omega) hr
      split <;> omega
theorem topN_att (b : Nat → Int) (sz : Nat) (pr : Int) (hb : ∀ r, 0 ≤ b r) (r : Nat) : ∀ m, ∃ n, n < m + 1 ∧ n * sz ≤ r ∧ topN b sz pr r (m + 1) = n * pr + b (r - n * sz)
  | 0 => ⟨0, by omega, by omega, by have := hb r; rw [topN]; simp [topN]; omega⟩
  | m + 1 => by
    obtain ⟨n, h1, h2, h3⟩ := topN_att b sz pr hb r m
    rw [topN]
    by_cases e : (m + 1) * sz ≤ r
    · rw [if_pos e]
      by_cases g : ((m + 1 : Nat) : Int) * pr + b (r - (m + 1) * sz) ≤ topN b sz pr r (m + 1)
      · exact ⟨n, by omega, h2, by rw [← h3]; omega⟩
      · exact ⟨m + 1, by omega, e, by omega⟩
    · rw [if_neg e]; exact ⟨n, by omega, h2, h3⟩
theorem pk_top (b : Nat → Int) (sz : Nat) (pr : Int) (hb : ∀ r, 0 ≤ b r) : ∀ m r, pkN b sz pr m r = topN b sz pr r (m + 1)
  | 0, r => by have := hb r; rw [pkN, topN]; simp [topN]; omega
  | m + 1, r => by
    rw [pkN, pk_top b sz pr hb m r, pk_top b sz pr hb m (r - sz)]
    obtain ⟨n, h1, h2, h3⟩ := topN_att b sz pr hb r m
    obtain ⟨n', h1', h2', h3'⟩ := topN_att b sz pr hb r (m + 1)
    by_cases e : sz ≤ r
    · rw [if_pos e]
      obtain ⟨k, g1, g2, g3⟩ := topN_att b sz pr hb (r - sz) m
      have u1 := topN_ub b sz pr r (m + 2) n (by omega) h2
      have gk : (k + 1) * sz ≤ r := by rw [Nat.succ_mul]; omega
      have u2 := topN_ub b sz pr r (m + 2) (k + 1) (by omega) gk
      have q : r - (k + 1) * sz = r - sz - k * sz := by rw [Nat.succ_mul]; omega
      have p : ((k + 1 : Nat) : Int) * pr = k * pr + pr := by grind
      rw [q, p] at u2
      have u3 : topN b sz pr r (m + 2) ≤ max (topN b sz pr r (m + 1)) (topN b sz pr (r - sz) (m + 1) + pr) := by
        rw [h3']
        cases n' with
        | zero =>
          have := topN_ub b sz pr r (m + 1) 0 (by omega) (by omega)
          omega
        | succ n' =>
          have q : r - (n' + 1) * sz = r - sz - n' * sz := by rw [Nat.succ_mul]; omega
          have p : ((n' + 1 : Nat) : Int) * pr = n' * pr + pr := by grind
          rw [q, p]
          have := topN_ub b sz pr (r - sz) (m + 1) n' (by omega) (by rw [Nat.succ_mul] at h2'; omega)
          omega
      rw [← h3] at u1
      have u4 : topN b sz pr (r - sz) (m + 1) + pr ≤ topN b sz pr r (m + 2) := by omega
      show _ = topN b sz pr r (m + 2)
      omega
    · rw [if_neg e]
      have : ¬ (m + 1) * sz ≤ r := by rw [Nat.succ_mul]; omega
      show _ = topN b sz pr r (m + 1 + 1)
      rw [topN.eq_2 b sz pr r (m + 1), if_neg this]
theorem topN_stop (b : Nat → Int) (sz : Nat) (pr : Int) (r : Nat) {n : Nat} (h : ¬ n * sz ≤ r) : ∀ m, n ≤ m → topN b sz pr r m = topN b sz pr r n
  | m, hm => by
    induction m with
    | zero => rw [show n = 0 from by omega]
    | succ m ih =>
      by_cases e : n = m + 1
      · rw [e]
      · have g : ¬ m * sz ≤ r := by
          have : n * sz ≤ m * sz := Nat.mul_le_mul_right _ (by omega)
          omega
        rw [topN, if_neg g, ih (by omega)]
theorem topN_bd (b : Nat → Int) (sz : Nat) (pr : Int) {B P : Int} (h0 : 0 ≤ pr) (hp : pr ≤ P) (hb : ∀ r, b r ≤ B) (hB : 0 ≤ B) (r : Nat) {C : Nat} : ∀ m, m ≤ C + 1 → topN b sz pr r m ≤ C * P + B
  | 0, _ => by
    have : (0 : Int) ≤ C * P := Int.mul_nonneg (by omega) (by omega)
    rw [topN]; omega
  | m + 1, hm => by
    have ih := topN_bd b sz pr h0 hp hb hB r (C := C) m (by omega)
    have e1 : (m : Int) * pr ≤ m * P := Int.mul_le_mul_of_nonneg_left hp (by omega)
    have e2 : (m : Int) * P ≤ C * P := Int.mul_le_mul_of_nonneg_right (show (m : Int) ≤ (C : Int) from Int.ofNat_le.2 (by omega)) (by omega)
    rw [topN]
    have := hb (r - m * sz)
    split <;> omega
/-- The greatest worth of a pattern of the first i asks: cells are (length, count), q the prices. -/
def bstN (l : List (Int × Int)) (q : List Int) (kerf : Int) : Nat → Nat → Int
  | 0, _ => 0
  | i + 1, r => topN (bstN l q kerf i) ((l.getD i (0, 0)).1 + kerf).toNat (q.getD i 0) r ((l.getD i (0, 0)).2.toNat + 1)
theorem bstN_nonneg (l : List (Int × Int)) (q : List Int) (kerf : Int) : ∀ i r, 0 ≤ bstN l q kerf i r
  | 0, r => by simp [bstN]
  | i + 1, r => by rw [bstN]; exact topN_nonneg _ _ _ _ _
theorem bstN_bd (l : List (Int × Int)) (q : List Int) (kerf : Int) : ∀ i, (∀ j, j < i → (l.getD j (0, 0)).2 ≤ 50 ∧ 0 ≤ q.getD j 0 ∧ q.getD j 0 ≤ 1000000) → ∀ r, bstN l q kerf i r ≤ 50000000 * i
  | 0, _, r => by simp [bstN]
  | i + 1, h, r => by
    have ih := bstN_bd l q kerf i (fun j hj => h j (by omega))
    obtain ⟨h1, h2, h3⟩ := h i (by omega)
    rw [bstN]
    have := topN_bd (bstN l q kerf i) ((l.getD i (0, 0)).1 + kerf).toNat (q.getD i 0) h2 h3 ih (by omega) r (C := 50) ((l.getD i (0, 0)).2.toNat + 1) (by omega)
    omega
end Go.Proofs.Ytmeoekcajmgiaaa
