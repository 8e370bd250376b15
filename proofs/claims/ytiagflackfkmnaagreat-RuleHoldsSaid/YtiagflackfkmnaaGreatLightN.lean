/-
  Plain mathematics of ageing, of instruments and of boxes. By an AI agent.
-/
namespace Go.Proofs.YtiagflackfkmnaaGreat
set_option linter.unusedVariables false
set_option linter.unusedSimpArgs false
/-- What remains of r after n years. -/
def agV (r keep : Int) : Nat → Int
  | 0 => r
  | n + 1 => agV r keep n * keep / 1000
theorem agV_bd {r keep : Int} (h0 : 0 ≤ r) (h1 : r ≤ 100000) (k0 : 0 ≤ keep) (k1 : keep ≤ 1000) : ∀ n, 0 ≤ agV r keep n ∧ agV r keep n ≤ 100000
  | 0 => ⟨h0, h1⟩
  | n + 1 => by
    have ih := agV_bd h0 h1 k0 k1 n
    rw [agV]
    have p := Int.mul_nonneg ih.1 k0
    have q : agV r keep n * keep ≤ agV r keep n * 1000 := Int.mul_le_mul_of_nonneg_left k1 ih.1
    omega
theorem agV_step {r keep : Int} (h0 : 0 ≤ r) (h1 : r ≤ 100000) (k0 : 0 ≤ keep) (k1 : keep ≤ 1000) (n : Nat) : agV r keep (n + 1) ≤ agV r keep n := by
  have ih := agV_bd h0 h1 k0 k1 n
  rw [agV]
  have p := Int.mul_nonneg ih.1 k0
  have q : agV r keep n * keep ≤ agV r keep n * 1000 := Int.mul_le_mul_of_nonneg_left k1 ih.1
  omega
theorem agV_add (r keep : Int) (m : Nat) : ∀ n, agV r keep (m + n) = agV (agV r keep m) keep n
  | 0 => rfl
  | n + 1 => by rw [← Nat.add_assoc, agV, agV, agV_add r keep m n]
theorem agV_anti {r keep : Int} (h0 : 0 ≤ r) (h1 : r ≤ 100000) (k0 : 0 ≤ keep) (k1 : keep ≤ 1000) (m : Nat) : ∀ n, agV r keep (m + n) ≤ agV r keep m
  | 0 => Int.le_refl _
  | n + 1 => Int.le_trans (agV_step h0 h1 k0 k1 (m + n)) (agV_anti h0 h1 k0 k1 m n)
theorem agV_le {r keep : Int} (h0 : 0 ≤ r) (h1 : r ≤ 100000) (k0 : 0 ≤ keep) (k1 : keep ≤ 1000) {m n : Nat} (h : m ≤ n) : agV r keep n ≤ agV r keep m := by
  have := agV_anti h0 h1 k0 k1 m (n - m)
  rwa [show m + (n - m) = n from by omega] at this
theorem agV_keep {r keep keep' : Int} (h0 : 0 ≤ r) (h1 : r ≤ 100000) (k0 : 0 ≤ keep) (k1 : keep ≤ keep') (k2 : keep' ≤ 1000) : ∀ n, agV r keep n ≤ agV r keep' n
  | 0 => Int.le_refl _
  | n + 1 => by
    have ih := agV_keep h0 h1 k0 k1 k2 n
    have b := agV_bd h0 h1 k0 (by omega) n
    rw [agV, agV]
    have p : agV r keep n * keep ≤ agV r keep' n * keep' := Int.le_trans (Int.mul_le_mul_of_nonneg_right ih k0) (Int.mul_le_mul_of_nonneg_left k1 (by omega))
    omega
/-- The first of n years at whose start less than least remains. -/
def dueIx (r keep least : Int) : Nat → Option Nat
  | 0 => none
  | n + 1 => match dueIx r keep least n with
    | some y => some y
    | none => if agV r keep n < least then some n else none
theorem dueIx_hit {r keep least : Int} {k : Nat} (h : dueIx r keep least k = none) (hl : agV r keep k < least) : ∀ n, k < n → dueIx r keep least n = some k := by
  intro n
  induction n with
  | zero => omega
  | succ n ih =>
    intro hn
    rw [dueIx]
    by_cases e : n = k
    · subst e; rw [h]; simp [hl]
    · rw [ih (by omega)]
theorem dueIx_miss {r keep least : Int} {k : Nat} (h : dueIx r keep least k = none) (hl : ¬ agV r keep k < least) : dueIx r keep least (k + 1) = none := by
  rw [dueIx, h]; simp [hl]
theorem dueIx_some {r keep least : Int} {n y : Nat} (h : dueIx r keep least n = some y) : y < n ∧ agV r keep y < least ∧ ∀ j, j < y → least ≤ agV r keep j := by
  induction n with
  | zero => simp [dueIx] at h
  | succ n ih =>
    rw [dueIx] at h
    cases e : dueIx r keep least n with
    | some z => rw [e] at h; simp at h; subst h; have := ih e; exact ⟨by omega, this.2⟩
    | none =>
      rw [e] at h
      by_cases hl : agV r keep n < least
      · simp [hl] at h; subst h
        refine ⟨by omega, hl, fun j hj => ?_⟩
        have : ∀ m, dueIx r keep least m = none → ∀ j, j < m → least ≤ agV r keep j := by
          intro m
          induction m with
          | zero => intro _ j hj; omega
          | succ m ihm =>
            intro hm j hj
            rw [dueIx] at hm
            cases em : dueIx r keep least m with
            | some z => rw [em] at hm; simp at hm
            | none =>
              rw [em] at hm
              by_cases hh : agV r keep m < least
              · simp [hh] at hm
              · by_cases ej : j = m
                · subst ej; omega
                · exact ihm em j (by omega)
        exact this n e j hj
      · simp [hl] at h
theorem dueIx_none {r keep least : Int} {n : Nat} (h : dueIx r keep least n = none) : ∀ j, j < n → least ≤ agV r keep j := by
  induction n with
  | zero => intro j hj; omega
  | succ n ih =>
    intro j hj
    rw [dueIx] at h
    cases e : dueIx r keep least n with
    | some z => rw [e] at h; simp at h
    | none =>
      rw [e] at h
      by_cases hl : agV r keep n < least
      · simp [hl] at h
      · by_cases ej : j = n
        · subst ej; omega
        · exact ih e j (by omega)

/-- Measures, readings, spans: pairs. -/
def gp (l : List (Int × Int)) (i : Nat) : Int × Int := l.getD i (0, 0)
def MeasOk (l : List (Int × Int)) (i : Nat) : Prop := 0 ≤ (gp l i).1 ∧ (gp l i).1 ≤ 100000 ∧ 0 ≤ (gp l i).2 ∧ (gp l i).2 ≤ 100000 ∧ (i = 0 ∨ (gp l (i - 1)).1 < (gp l i).1)
/-- The index of the last of the first k measures that is not later than the day. -/
def lastIx (l : List (Int × Int)) (day : Int) : Nat → Nat
  | 0 => 0
  | k + 1 => if (gp l k).1 ≤ day then k else lastIx l day k
theorem lastIx_lt (l : List (Int × Int)) (day : Int) : ∀ k, lastIx l day (k + 1) ≤ k
  | 0 => by simp [lastIx]
  | k + 1 => by rw [lastIx]; split; omega; have := lastIx_lt l day k; omega
theorem lastIx_le (l : List (Int × Int)) (day : Int) (h0 : (gp l 0).1 ≤ day) : ∀ k, (gp l (lastIx l day k)).1 ≤ day
  | 0 => h0
  | k + 1 => by rw [lastIx]; split; assumption; exact lastIx_le l day h0 k

/-! ### Instruments -/
theorem plate_bd {c1 c2 t t1 t2 : Int} (h1 : 1 ≤ c1) (h2 : c1 ≤ 100000) (h3 : 1 ≤ c2) (h4 : c2 ≤ 100000) (a : t1 ≤ t) (b : t ≤ t2) : t2 - t1 ≤ c1 * (t2 - t) + c2 * (t - t1) ∧ c1 * (t2 - t) + c2 * (t - t1) ≤ 100000 * (t2 - t1) := by
  have e1 : 1 * (t2 - t) ≤ c1 * (t2 - t) := Int.mul_le_mul_of_nonneg_right h1 (by omega)
  have e2 : 1 * (t - t1) ≤ c2 * (t - t1) := Int.mul_le_mul_of_nonneg_right h3 (by omega)
  have e3 : c1 * (t2 - t) ≤ 100000 * (t2 - t) := Int.mul_le_mul_of_nonneg_right h2 (by omega)
  have e4 : c2 * (t - t1) ≤ 100000 * (t - t1) := Int.mul_le_mul_of_nonneg_right h4 (by omega)
  omega
theorem ediv_anti {n a b : Int} (hn : 0 ≤ n) (ha : 0 < a) (hab : a ≤ b) : n / b ≤ n / a := by
  have hb : 0 < b := by omega
  have h1 : n / b * b ≤ n := Int.ediv_mul_le _ (by omega)
  have h2 : 0 ≤ n / b := Int.ediv_nonneg hn (by omega)
  have h3 : n / b * a ≤ n / b * b := Int.mul_le_mul_of_nonneg_left hab h2
  exact Int.le_ediv_of_mul_le ha (by omega)
theorem corr_same {v c t t1 t2 : Int} (hc : 1 ≤ c) (ht : t1 < t2) : v * c * (t2 - t1) / (c * (t2 - t) + c * (t - t1)) = v := by
  rw [show c * (t2 - t) + c * (t - t1) = c * (t2 - t1) from by grind, Int.mul_assoc]
  exact Int.mul_ediv_cancel _ (by have := Int.mul_pos (show 0 < c by omega) (show 0 < t2 - t1 by omega); omega)
theorem corr_low {v c c1 c2 c2' t t1 t2 : Int} (hv : 0 ≤ v) (hc : 1 ≤ c) (h1 : 1 ≤ c1) (h3 : 1 ≤ c2') (h4 : c2' ≤ c2) (a : t1 ≤ t) (b : t ≤ t2) (ht : t1 < t2) :
    v * c * (t2 - t1) / (c1 * (t2 - t) + c2 * (t - t1)) ≤ v * c * (t2 - t1) / (c1 * (t2 - t) + c2' * (t - t1)) := by
  have e1 : 1 * (t2 - t) ≤ c1 * (t2 - t) := Int.mul_le_mul_of_nonneg_right h1 (by omega)
  have e2 : 1 * (t - t1) ≤ c2' * (t - t1) := Int.mul_le_mul_of_nonneg_right h3 (by omega)
  have e3 : c2' * (t - t1) ≤ c2 * (t - t1) := Int.mul_le_mul_of_nonneg_right h4 (by omega)
  exact ediv_anti (Int.mul_nonneg (Int.mul_nonneg hv (by omega)) (by omega)) (by omega) (by omega)

/-! ### Boxes -/
/-- (b - a) x (c - b). -/
def turnV (ax ay bx by' cx cy : Int) : Int := (bx - ax) * (cy - by') - (by' - ay) * (cx - bx)
theorem turn_first (ax ay bx b_y : Int) : turnV ax ay bx b_y ax ay = 0 := by unfold turnV; grind
theorem turn_second (ax ay bx b_y : Int) : turnV ax ay bx b_y bx b_y = 0 := by unfold turnV; grind
theorem turn_back (ax ay bx b_y dx dy : Int) : turnV ax ay bx b_y dx dy = turnV dx dy ax ay bx b_y := by unfold turnV; grind
theorem turn_mid {ax ay bx b_y px py qx qy x y : Int} (hx : px + qx = 2 * x) (hy : py + qy = 2 * y) (h1 : 0 ≤ turnV ax ay bx b_y px py) (h2 : 0 ≤ turnV ax ay bx b_y qx qy) : 0 ≤ turnV ax ay bx b_y x y := by
  have : 2 * turnV ax ay bx b_y x y = turnV ax ay bx b_y px py + turnV ax ay bx b_y qx qy := by unfold turnV; grind
  omega
theorem turn_bd {ax ay bx b_y cx cy : Int} (h1 : 0 ≤ ax ∧ ax ≤ 10000) (h2 : 0 ≤ ay ∧ ay ≤ 10000) (h3 : 0 ≤ bx ∧ bx ≤ 10000) (h4 : 0 ≤ b_y ∧ b_y ≤ 10000) (h5 : 0 ≤ cx ∧ cx ≤ 10000) (h6 : 0 ≤ cy ∧ cy ≤ 10000) :
    (-100000000 ≤ (bx - ax) * (cy - b_y) ∧ (bx - ax) * (cy - b_y) ≤ 100000000) ∧ (-100000000 ≤ (b_y - ay) * (cx - bx) ∧ (b_y - ay) * (cx - bx) ≤ 100000000) := by
  have P : ∀ a b : Int, -10000 ≤ a → a ≤ 10000 → -10000 ≤ b → b ≤ 10000 → -100000000 ≤ a * b ∧ a * b ≤ 100000000 := by
    intro a b h1 h2 h3 h4
    have e1 : 0 ≤ (10000 - a) * (10000 - b) := Int.mul_nonneg (by omega) (by omega)
    have e2 : 0 ≤ (10000 + a) * (10000 + b) := Int.mul_nonneg (by omega) (by omega)
    have e3 : 0 ≤ (10000 - a) * (10000 + b) := Int.mul_nonneg (by omega) (by omega)
    have e4 : 0 ≤ (10000 + a) * (10000 - b) := Int.mul_nonneg (by omega) (by omega)
    have f1 : (10000 - a) * (10000 - b) = 100000000 - 10000 * a - 10000 * b + a * b := by grind
    have f2 : (10000 + a) * (10000 + b) = 100000000 + 10000 * a + 10000 * b + a * b := by grind
    have f3 : (10000 - a) * (10000 + b) = 100000000 - 10000 * a + 10000 * b - a * b := by grind
    have f4 : (10000 + a) * (10000 - b) = 100000000 + 10000 * a - 10000 * b - a * b := by grind
    omega
  exact ⟨P _ _ (by omega) (by omega) (by omega) (by omega), P _ _ (by omega) (by omega) (by omega) (by omega)⟩
end Go.Proofs.YtiagflackfkmnaaGreat
