/-
  Plain mathematics of tables of coefficients: interpolation in two slopes, which never grows. By an AI agent.; Plain mathematics of ageing, of instruments and of boxes. By an AI agent.; Lists of ints, of pairs of ints, and rows of ints in memory; the walks of between and within. By an AI agent.; Whether one of n elements is such, and the first of them. By an AI agent.; Small functions of package rule and of its reference: within, isTime, isDir, isHour, isTopic, valueValid. By an AI agent.
-/
import Derived.Test.YtlpdjinhkmgbgaaGreatDoorProg
import Derived.WalkKit
import Derived.WalkSpells
import Derived.WalkLawsBesides
import Derived.Handy
import Derived.Lib.Hide
import Derived.IntWalk
import Derived.Deep.QuietTactic
import Derived.BigQuiet
import Derived.Deep.RegionHeld3

namespace Go.Proofs.YtlpdjinhkmgbgaaGreatDoor
set_option linter.unusedVariables false
set_option linter.unusedSimpArgs false
/-- The element at an index, 0 outside. -/
def gi (l : List Int) (i : Nat) : Int := l.getD i 0
def gr (r : List (List Int)) (i : Nat) : List Int := r.getD i []

def okS (l : List Int) (i : Nat) : Prop := 1 ≤ gi l i ∧ gi l i ≤ 1000000 ∧ (i = 0 ∨ gi l (i - 1) < gi l i)
def SlopesOk (l : List Int) : Prop := 2 ≤ l.length ∧ l.length ≤ 6 ∧ ∀ i, i < l.length → okS l i
def CellOk (r : List (List Int)) (i k : Nat) : Prop :=
  0 ≤ gi (gr r i) k ∧ gi (gr r i) k ≤ 100000 ∧ (k = 0 ∨ gi (gr r i) k ≤ gi (gr r i) (k - 1)) ∧ (i = 0 ∨ gi (gr r i) k ≤ gi (gr r (i - 1)) k)
def RowOk (e : List Int) (r : List (List Int)) (i : Nat) : Prop := (gr r i).length = e.length ∧ ∀ k, k < e.length → CellOk r i k
def TableOk (o e : List Int) (r : List (List Int)) : Prop := SlopesOk o ∧ SlopesOk e ∧ r.length = o.length ∧ ∀ i, i < r.length → RowOk e r i

def InCell (l : List Int) (x : Int) (i : Nat) : Prop := i + 1 < l.length ∧ gi l i ≤ x ∧ x ≤ gi l (i + 1)
/-- The coefficient within the cell i, k. -/
def num (o e : List Int) (r : List (List Int)) (i k : Nat) (x y : Int) : Int :=
  gi (gr r i) k * (gi o (i + 1) - x) * (gi e (k + 1) - y) + gi (gr r i) (k + 1) * (gi o (i + 1) - x) * (y - gi e k) +
  gi (gr r (i + 1)) k * (x - gi o i) * (gi e (k + 1) - y) + gi (gr r (i + 1)) (k + 1) * (x - gi o i) * (y - gi e k)
def den (o e : List Int) (i k : Nat) : Int := (gi o (i + 1) - gi o i) * (gi e (k + 1) - gi e k)
def coefAt (o e : List Int) (r : List (List Int)) (i k : Nat) (x y : Int) : Int := num o e r i k x y / den o e i k

theorem slopes_lt {l : List Int} (h : SlopesOk l) {i j : Nat} (hij : i < j) (hj : j < l.length) : gi l i < gi l j := by
  induction j with
  | zero => omega
  | succ j ih =>
    have := (h.2.2 (j + 1) hj).2.2
    rcases this with h0 | h1
    · omega
    · rw [Nat.add_sub_cancel] at h1
      by_cases e : i = j
      · subst e; exact h1
      · have := ih (by omega) (by omega); omega
theorem slopes_le {l : List Int} (h : SlopesOk l) {i j : Nat} (hij : i ≤ j) (hj : j < l.length) : gi l i ≤ gi l j := by
  by_cases e : i = j
  · subst e; omega
  · have := slopes_lt h (show i < j by omega) hj; omega
theorem slopes_bd {l : List Int} (h : SlopesOk l) {i : Nat} (hi : i < l.length) : 1 ≤ gi l i ∧ gi l i ≤ 1000000 := ⟨(h.2.2 i hi).1, (h.2.2 i hi).2.1⟩

/-- At an end of a cell the two cells that meet there agree. -/
theorem cell_next {l : List Int} (h : SlopesOk l) {x : Int} {i j : Nat} (hi : InCell l x i) (hj : InCell l x j) (hij : i < j) : j = i + 1 ∧ x = gi l (i + 1) := by
  have h1 := slopes_le h (show i + 1 ≤ j by omega) (by have := hj.1; omega)
  have h2 := hi.2.2
  have h3 := hj.2.1
  by_cases e : j = i + 1
  · subst e; exact ⟨rfl, by omega⟩
  · have := slopes_lt h (show i + 1 < j by omega) (by have := hj.1; omega); omega
theorem obs_join (o e : List Int) (r : List (List Int)) (i k : Nat) (y : Int) (h1 : gi o i < gi o (i + 1)) (h2 : gi o (i + 1) < gi o (i + 1 + 1)) : coefAt o e r i k (gi o (i + 1)) y = coefAt o e r (i + 1) k (gi o (i + 1)) y := by
  unfold coefAt num den
  generalize gi o i = a at *
  generalize gi o (i + 1) = b at *
  generalize gi o (i + 1 + 1) = c at *
  generalize gi e k = p
  generalize gi e (k + 1) = q
  generalize gi (gr r i) k = r1
  generalize gi (gr r i) (k + 1) = r2
  generalize gi (gr r (i + 1)) k = s1
  generalize gi (gr r (i + 1)) (k + 1) = s2
  generalize gi (gr r (i + 1 + 1)) k = t1
  generalize gi (gr r (i + 1 + 1)) (k + 1) = t2
  rw [show r1 * (b - b) * (q - y) + r2 * (b - b) * (y - p) + s1 * (b - a) * (q - y) + s2 * (b - a) * (y - p) = (b - a) * (s1 * (q - y) + s2 * (y - p)) from by grind,
    show s1 * (c - b) * (q - y) + s2 * (c - b) * (y - p) + t1 * (b - b) * (q - y) + t2 * (b - b) * (y - p) = (c - b) * (s1 * (q - y) + s2 * (y - p)) from by grind,
    Int.mul_ediv_mul_of_pos _ _ (by omega), Int.mul_ediv_mul_of_pos _ _ (by omega)]
theorem ent_join (o e : List Int) (r : List (List Int)) (i k : Nat) (x : Int) (h1 : gi e k < gi e (k + 1)) (h2 : gi e (k + 1) < gi e (k + 1 + 1)) : coefAt o e r i k x (gi e (k + 1)) = coefAt o e r i (k + 1) x (gi e (k + 1)) := by
  unfold coefAt num den
  generalize gi o i = a at *
  generalize gi o (i + 1) = b at *
  generalize gi e k = p at *
  generalize gi e (k + 1) = q at *
  generalize gi e (k + 1 + 1) = u at *
  generalize gi (gr r i) k = r1
  generalize gi (gr r i) (k + 1) = r2
  generalize gi (gr r i) (k + 1 + 1) = r3
  generalize gi (gr r (i + 1)) k = s1
  generalize gi (gr r (i + 1)) (k + 1) = s2
  generalize gi (gr r (i + 1)) (k + 1 + 1) = s3
  rw [show r1 * (b - x) * (q - q) + r2 * (b - x) * (q - p) + s1 * (x - a) * (q - q) + s2 * (x - a) * (q - p) = (q - p) * (r2 * (b - x) + s2 * (x - a)) from by grind,
    show r2 * (b - x) * (u - q) + r3 * (b - x) * (q - q) + s2 * (x - a) * (u - q) + s3 * (x - a) * (q - q) = (u - q) * (r2 * (b - x) + s2 * (x - a)) from by grind,
    Int.mul_comm (b - a) (q - p), Int.mul_comm (b - a) (u - q), Int.mul_ediv_mul_of_pos _ _ (by omega), Int.mul_ediv_mul_of_pos _ _ (by omega)]
theorem coef_unique {o e : List Int} {r : List (List Int)} (ho : SlopesOk o) (he : SlopesOk e) {x y : Int} {i i' k k' : Nat} (hi : InCell o x i) (hi' : InCell o x i') (hk : InCell e y k) (hk' : InCell e y k') :
    coefAt o e r i k x y = coefAt o e r i' k' x y := by
  have A : coefAt o e r i k x y = coefAt o e r i' k x y := by
    rcases Nat.lt_trichotomy i i' with h | h | h
    · obtain ⟨rfl, rfl⟩ := cell_next ho hi hi' h
      exact obs_join _ _ _ _ _ _ (slopes_lt ho (by omega) (by have := hi'.1; omega)) (slopes_lt ho (by omega) hi'.1)
    · rw [h]
    · obtain ⟨rfl, rfl⟩ := cell_next ho hi' hi h
      exact (obs_join _ _ _ _ _ _ (slopes_lt ho (by omega) (by have := hi.1; omega)) (slopes_lt ho (by omega) hi.1)).symm
  rw [A]
  rcases Nat.lt_trichotomy k k' with h | h | h
  · obtain ⟨rfl, rfl⟩ := cell_next he hk hk' h
    exact ent_join _ _ _ _ _ _ (slopes_lt he (by omega) (by have := hk'.1; omega)) (slopes_lt he (by omega) hk'.1)
  · rw [h]
  · obtain ⟨rfl, rfl⟩ := cell_next he hk' hk h
    exact (ent_join _ _ _ _ _ _ (slopes_lt he (by omega) (by have := hk.1; omega)) (slopes_lt he (by omega) hk.1)).symm

open Classical in
noncomputable def cellOf (l : List Int) (x : Int) : Nat := if h : ∃ i, InCell l x i then Classical.choose h else 0
theorem cellOf_in {l : List Int} {x : Int} {i : Nat} (h : InCell l x i) : InCell l x (cellOf l x) := by
  have hx : ∃ i, InCell l x i := ⟨i, h⟩
  unfold cellOf; rw [dif_pos hx]; exact Classical.choose_spec hx
theorem cell_ex {l : List Int} (h : SlopesOk l) {x : Int} (h0 : gi l 0 ≤ x) (h1 : x ≤ gi l (l.length - 1)) : ∃ i, InCell l x i := by
  have hn := h.1
  have : ∀ n, 1 ≤ n → n < l.length → x ≤ gi l n → ∃ i, InCell l x i := by
    intro n
    induction n with
    | zero => intro h; omega
    | succ n ih =>
      intro _ hl hx
      by_cases hy : gi l n ≤ x
      · exact ⟨n, hl, hy, hx⟩
      · by_cases e : n = 0
        · subst e; omega
        · exact ih (by omega) (by omega) (by omega)
  exact this (l.length - 1) (by omega) (by omega) h1
/-- A slope as it counts. -/
def clip (l : List Int) (x : Int) : Int := max x (gi l 0)
def above (l : List Int) (x : Int) : Prop := gi l (l.length - 1) < x
instance (l : List Int) (x : Int) : Decidable (above l x) := by unfold above; infer_instance
/-- The coefficient of the document. -/
noncomputable def coefV (o e : List Int) (r : List (List Int)) (x y : Int) : Int :=
  if above o x ∨ above e y then 0 else coefAt o e r (cellOf o (clip o x)) (cellOf e (clip e y)) (clip o x) (clip e y)
theorem clip_not_above {l : List Int} (h : SlopesOk l) {x : Int} (ha : ¬ above l x) : gi l 0 ≤ clip l x ∧ clip l x ≤ gi l (l.length - 1) := by
  have := slopes_le h (show 0 ≤ l.length - 1 by omega) (by have := h.1; omega)
  unfold above at ha; unfold clip; omega
theorem coefV_above {o e : List Int} {r : List (List Int)} {x y : Int} (h : above o x ∨ above e y) : coefV o e r x y = 0 := by unfold coefV; rw [if_pos h]
theorem coefV_at {o e : List Int} {r : List (List Int)} (ho : SlopesOk o) (he : SlopesOk e) {x y : Int} {i k : Nat} (h1 : ¬ above o x) (h2 : ¬ above e y) (hi : InCell o (clip o x) i) (hk : InCell e (clip e y) k) :
    coefV o e r x y = coefAt o e r i k (clip o x) (clip e y) := by
  unfold coefV
  rw [if_neg (by rintro (h | h); exact h1 h; exact h2 h)]
  exact coef_unique ho he (cellOf_in hi) hi (cellOf_in hk) hk

/-- A coefficient of the table, between 0 and 100000; it falls along rows and columns. -/
theorem tb_bd {o e : List Int} {r : List (List Int)} (h : TableOk o e r) {i k : Nat} (hi : i < o.length) (hk : k < e.length) : 0 ≤ gi (gr r i) k ∧ gi (gr r i) k ≤ 100000 := by
  have := (h.2.2.2 i (by rw [h.2.2.1]; exact hi)).2 k hk
  exact ⟨this.1, this.2.1⟩
theorem tb_ent {o e : List Int} {r : List (List Int)} (h : TableOk o e r) {i k : Nat} (hi : i < o.length) (hk : k + 1 < e.length) : gi (gr r i) (k + 1) ≤ gi (gr r i) k := by
  have := ((h.2.2.2 i (by rw [h.2.2.1]; exact hi)).2 (k + 1) hk).2.2.1
  simpa using this
theorem tb_obs {o e : List Int} {r : List (List Int)} (h : TableOk o e r) {i k : Nat} (hi : i + 1 < o.length) (hk : k < e.length) : gi (gr r (i + 1)) k ≤ gi (gr r i) k := by
  have := ((h.2.2.2 (i + 1) (by rw [h.2.2.1]; exact hi)).2 k hk).2.2.2
  simpa using this

/-- A sum of weighted coefficients is within bounds. -/
theorem num_bd {r1 r2 s1 s2 a b c d : Int} (h1 : 0 ≤ r1 ∧ r1 ≤ 100000) (h2 : 0 ≤ r2 ∧ r2 ≤ 100000) (h3 : 0 ≤ s1 ∧ s1 ≤ 100000) (h4 : 0 ≤ s2 ∧ s2 ≤ 100000)
    (ha : 0 ≤ a) (hb : 0 ≤ b) (hc : 0 ≤ c) (hd : 0 ≤ d) :
    0 ≤ r1 * b * d + r2 * b * c + s1 * a * d + s2 * a * c ∧ r1 * b * d + r2 * b * c + s1 * a * d + s2 * a * c ≤ 100000 * ((a + b) * (c + d)) := by
  have p1 : 0 ≤ b * d := Int.mul_nonneg hb hd
  have p2 : 0 ≤ b * c := Int.mul_nonneg hb hc
  have p3 : 0 ≤ a * d := Int.mul_nonneg ha hd
  have p4 : 0 ≤ a * c := Int.mul_nonneg ha hc
  have e : (a + b) * (c + d) = b * d + b * c + a * d + a * c := by grind
  rw [e, Int.mul_assoc r1, Int.mul_assoc r2, Int.mul_assoc s1, Int.mul_assoc s2]
  have q1 := Int.mul_nonneg h1.1 p1
  have q2 := Int.mul_nonneg h2.1 p2
  have q3 := Int.mul_nonneg h3.1 p3
  have q4 := Int.mul_nonneg h4.1 p4
  have t1 := Int.mul_le_mul_of_nonneg_right h1.2 p1
  have t2 := Int.mul_le_mul_of_nonneg_right h2.2 p2
  have t3 := Int.mul_le_mul_of_nonneg_right h3.2 p3
  have t4 := Int.mul_le_mul_of_nonneg_right h4.2 p4
  omega
theorem prod_bd {a b A B : Int} (h0 : 0 ≤ a) (h1 : a ≤ A) (h2 : 0 ≤ b) (h3 : b ≤ B) : 0 ≤ a * b ∧ a * b ≤ A * B :=
  ⟨Int.mul_nonneg h0 h2, Int.le_trans (Int.mul_le_mul_of_nonneg_right h1 h2) (Int.mul_le_mul_of_nonneg_left h3 (by omega))⟩

theorem coefAt_bd {o e : List Int} {r : List (List Int)} (h : TableOk o e r) {x y : Int} {i k : Nat} (hi : InCell o x i) (hk : InCell e y k) : 0 ≤ coefAt o e r i k x y ∧ coefAt o e r i k x y ≤ 100000 := by
  have b1 := tb_bd h (show i < o.length by have := hi.1; omega) (show k < e.length by have := hk.1; omega)
  have b2 := tb_bd h (show i < o.length by have := hi.1; omega) hk.1
  have b3 := tb_bd h hi.1 (show k < e.length by have := hk.1; omega)
  have b4 := tb_bd h hi.1 hk.1
  have ho := slopes_lt h.1 (show i < i + 1 by omega) hi.1
  have he := slopes_lt h.2.1 (show k < k + 1 by omega) hk.1
  obtain ⟨_, i1, i2⟩ := hi
  obtain ⟨_, k1, k2⟩ := hk
  have := num_bd b1 b2 b3 b4 (show 0 ≤ x - gi o i by omega) (show 0 ≤ gi o (i + 1) - x by omega) (show 0 ≤ y - gi e k by omega) (show 0 ≤ gi e (k + 1) - y by omega)
  rw [show (x - gi o i + (gi o (i + 1) - x)) * (y - gi e k + (gi e (k + 1) - y)) = den o e i k from by unfold den; grind] at this
  have hd : 0 < den o e i k := Int.mul_pos (by omega) (by omega)
  unfold coefAt
  refine ⟨Int.ediv_nonneg this.1 (by omega), ?_⟩
  have := Int.ediv_le_ediv hd this.2
  rwa [Int.mul_ediv_cancel _ (by omega)] at this
theorem coefV_bd {o e : List Int} {r : List (List Int)} (h : TableOk o e r) (x y : Int) : 0 ≤ coefV o e r x y ∧ coefV o e r x y ≤ 100000 := by
  by_cases ha : above o x ∨ above e y
  · rw [coefV_above ha]; omega
  · have h1 : ¬ above o x := fun hh => ha (.inl hh)
    have h2 : ¬ above e y := fun hh => ha (.inr hh)
    obtain ⟨i, hi⟩ := cell_ex h.1 (clip_not_above h.1 h1).1 (clip_not_above h.1 h1).2
    obtain ⟨k, hk⟩ := cell_ex h.2.1 (clip_not_above h.2.1 h2).1 (clip_not_above h.2.1 h2).2
    rw [coefV_at h.1 h.2.1 h1 h2 hi hk]
    exact coefAt_bd h hi hk

/-- Within a cell the coefficient falls. -/
theorem at_mono_obs {o e : List Int} {r : List (List Int)} (h : TableOk o e r) {x x' y : Int} {i k : Nat} (hi : InCell o x i) (hi' : InCell o x' i) (hk : InCell e y k) (hx : x ≤ x') : coefAt o e r i k x' y ≤ coefAt o e r i k x y := by
  have c1 := tb_obs h hi.1 (show k < e.length by have := hk.1; omega)
  have c2 := tb_obs h hi.1 hk.1
  have ho := slopes_lt h.1 (show i < i + 1 by omega) hi.1
  have he := slopes_lt h.2.1 (show k < k + 1 by omega) hk.1
  obtain ⟨_, k1, k2⟩ := hk
  unfold coefAt
  refine Int.ediv_le_ediv (Int.mul_pos (by omega) (by omega)) ?_
  unfold num
  generalize gi o i = a at *
  generalize gi o (i + 1) = b at *
  generalize gi e k = p at *
  generalize gi e (k + 1) = q at *
  generalize gi (gr r i) k = r1 at *
  generalize gi (gr r i) (k + 1) = r2 at *
  generalize gi (gr r (i + 1)) k = s1 at *
  generalize gi (gr r (i + 1)) (k + 1) = s2 at *
  have p1 : 0 ≤ (r1 - s1) * ((x' - x) * (q - y)) := Int.mul_nonneg (by omega) (Int.mul_nonneg (by omega) (by omega))
  have p2 : 0 ≤ (r2 - s2) * ((x' - x) * (y - p)) := Int.mul_nonneg (by omega) (Int.mul_nonneg (by omega) (by omega))
  have e1 : (r1 * (b - x) * (q - y) + r2 * (b - x) * (y - p) + s1 * (x - a) * (q - y) + s2 * (x - a) * (y - p)) - (r1 * (b - x') * (q - y) + r2 * (b - x') * (y - p) + s1 * (x' - a) * (q - y) + s2 * (x' - a) * (y - p)) = (r1 - s1) * ((x' - x) * (q - y)) + (r2 - s2) * ((x' - x) * (y - p)) := by grind
  omega
theorem at_mono_ent {o e : List Int} {r : List (List Int)} (h : TableOk o e r) {x y y' : Int} {i k : Nat} (hi : InCell o x i) (hk : InCell e y k) (hk' : InCell e y' k) (hy : y ≤ y') : coefAt o e r i k x y' ≤ coefAt o e r i k x y := by
  have c1 := tb_ent h (show i < o.length by have := hi.1; omega) hk.1
  have c2 := tb_ent h hi.1 hk.1
  have ho := slopes_lt h.1 (show i < i + 1 by omega) hi.1
  have he := slopes_lt h.2.1 (show k < k + 1 by omega) hk.1
  obtain ⟨_, k1, k2⟩ := hi
  unfold coefAt
  refine Int.ediv_le_ediv (Int.mul_pos (by omega) (by omega)) ?_
  unfold num
  generalize gi o i = a at *
  generalize gi o (i + 1) = b at *
  generalize gi e k = p at *
  generalize gi e (k + 1) = q at *
  generalize gi (gr r i) k = r1 at *
  generalize gi (gr r i) (k + 1) = r2 at *
  generalize gi (gr r (i + 1)) k = s1 at *
  generalize gi (gr r (i + 1)) (k + 1) = s2 at *
  have p1 : 0 ≤ (r1 - r2) * ((y' - y) * (b - x)) := Int.mul_nonneg (by omega) (Int.mul_nonneg (by omega) (by omega))
  have p2 : 0 ≤ (s1 - s2) * ((y' - y) * (x - a)) := Int.mul_nonneg (by omega) (Int.mul_nonneg (by omega) (by omega))
  have e1 : (r1 * (b - x) * (q - y) + r2 * (b - x) * (y - p) + s1 * (x - a) * (q - y) + s2 * (x - a) * (y - p)) - (r1 * (b - x) * (q - y') + r2 * (b - x) * (y' - p) + s1 * (x - a) * (q - y') + s2 * (x - a) * (y' - p)) = (r1 - r2) * ((y' - y) * (b - x)) + (s1 - s2) * ((y' - y) * (x - a)) := by grind
  omega
/-- Over cells too. -/
theorem cells_le {l : List Int} (h : SlopesOk l) {x x' : Int} {i i' : Nat} (hi : InCell l x i) (hi' : InCell l x' i') (hx : x ≤ x') (hlt : i' < i) : x = x' := by
  have := slopes_le h (show i' + 1 ≤ i by omega) (by have := hi.1; omega)
  have := hi.2.1
  have := hi'.2.2
  omega
theorem mono_obs {o e : List Int} {r : List (List Int)} (h : TableOk o e r) {y : Int} {k : Nat} (hk : InCell e y k) : ∀ n i i' x x', i' = i + n → InCell o x i → InCell o x' i' → x ≤ x' → coefAt o e r i' k x' y ≤ coefAt o e r i k x y := by
  intro n
  induction n with
  | zero => intro i i' x x' hn hi hi' hx; obtain rfl : i' = i := by omega
            exact at_mono_obs h hi hi' hk hx
  | succ n ih =>
    intro i i' x x' hn hi hi' hx
    have hl : i + 1 + 1 < o.length ∨ n = 0 := by have := hi'.1; omega
    have hm : i + 1 + 1 < o.length := by have := hi'.1; omega
    have l1 := slopes_lt h.1 (show i < i + 1 by omega) (by omega)
    have l2 := slopes_lt h.1 (show i + 1 < i + 1 + 1 by omega) hm
    have A := at_mono_obs h hi (x' := gi o (i + 1)) ⟨hi.1, by omega, by omega⟩ hk hi.2.2
    rw [obs_join _ _ _ _ _ _ l1 l2] at A
    have hb : gi o (i + 1) ≤ x' := Int.le_trans (slopes_le h.1 (show i + 1 ≤ i' by omega) (by have := hi'.1; omega)) hi'.2.1
    exact Int.le_trans (ih (i + 1) i' (gi o (i + 1)) x' (by omega) ⟨hm, by omega, by omega⟩ hi' hb) A
theorem mono_ent {o e : List Int} {r : List (List Int)} (h : TableOk o e r) {x : Int} {i : Nat} (hi : InCell o x i) : ∀ n k k' y y', k' = k + n → InCell e y k → InCell e y' k' → y ≤ y' → coefAt o e r i k' x y' ≤ coefAt o e r i k x y := by
  intro n
  induction n with
  | zero => intro k k' y y' hn hk hk' hy; obtain rfl : k' = k := by omega
            exact at_mono_ent h hi hk hk' hy
  | succ n ih =>
    intro k k' y y' hn hk hk' hy
    have hm : k + 1 + 1 < e.length := by have := hk'.1; omega
    have l1 := slopes_lt h.2.1 (show k < k + 1 by omega) (by omega)
    have l2 := slopes_lt h.2.1 (show k + 1 < k + 1 + 1 by omega) hm
    have A := at_mono_ent h hi hk (y' := gi e (k + 1)) ⟨hk.1, by omega, by omega⟩ hk.2.2
    rw [ent_join _ _ _ _ _ _ l1 l2] at A
    have hb : gi e (k + 1) ≤ y' := Int.le_trans (slopes_le h.2.1 (show k + 1 ≤ k' by omega) (by have := hk'.1; omega)) hk'.2.1
    exact Int.le_trans (ih (k + 1) k' (gi e (k + 1)) y' (by omega) ⟨hm, by omega, by omega⟩ hk' hb) A
theorem coefV_mono {o e : List Int} {r : List (List Int)} (h : TableOk o e r) {x x' y y' : Int} (hx : x ≤ x') (hy : y ≤ y') : coefV o e r x' y' ≤ coefV o e r x y := by
  by_cases ha : above o x' ∨ above e y'
  · rw [coefV_above ha]; exact (coefV_bd h x y).1
  · have h1 : ¬ above o x' := fun hh => ha (.inl hh)
    have h2 : ¬ above e y' := fun hh => ha (.inr hh)
    have h1' : ¬ above o x := by unfold above at *; omega
    have h2' : ¬ above e y := by unfold above at *; omega
    obtain ⟨i, hi⟩ := cell_ex h.1 (clip_not_above h.1 h1').1 (clip_not_above h.1 h1').2
    obtain ⟨k, hk⟩ := cell_ex h.2.1 (clip_not_above h.2.1 h2').1 (clip_not_above h.2.1 h2').2
    obtain ⟨i', hi'⟩ := cell_ex h.1 (clip_not_above h.1 h1).1 (clip_not_above h.1 h1).2
    obtain ⟨k', hk'⟩ := cell_ex h.2.1 (clip_not_above h.2.1 h2).1 (clip_not_above h.2.1 h2).2
    have hcx : clip o x ≤ clip o x' := by unfold clip; omega
    have hcy : clip e y ≤ clip e y' := by unfold clip; omega
    rw [coefV_at h.1 h.2.1 h1 h2 hi' hk', coefV_at h.1 h.2.1 h1' h2' hi hk]
    have A : coefAt o e r i' k' (clip o x') (clip e y') ≤ coefAt o e r i k' (clip o x) (clip e y') := by
      by_cases hlt : i ≤ i'
      · exact mono_obs h hk' (i' - i) i i' _ _ (by omega) hi hi' hcx
      · have e := cells_le h.1 hi hi' hcx (by omega)
        rw [← e] at hi' ⊢
        exact Int.le_of_eq (coef_unique h.1 h.2.1 hi' hi hk' hk')
    refine Int.le_trans A ?_
    by_cases hlt : k ≤ k'
    · exact mono_ent h hi (k' - k) k k' _ _ (by omega) hk hk' hcy
    · have e := cells_le h.2.1 hk hk' hcy (by omega)
      rw [← e] at hk' ⊢
      exact Int.le_of_eq (coef_unique h.1 h.2.1 hi hi hk' hk)
/-- At the slopes of the table it is the table's. -/
theorem coefV_table {o e : List Int} {r : List (List Int)} (h : TableOk o e r) {i k : Nat} (hi : i < o.length) (hk : k < e.length) : coefV o e r (gi o i) (gi e k) = gi (gr r i) k := by
  have c1 : clip o (gi o i) = gi o i := by have := slopes_le h.1 (Nat.zero_le i) hi; unfold clip; omega
  have c2 : clip e (gi e k) = gi e k := by have := slopes_le h.2.1 (Nat.zero_le k) hk; unfold clip; omega
  have a1 : ¬ above o (gi o i) := by have := slopes_le h.1 (show i ≤ o.length - 1 by omega) (by omega); unfold above; omega
  have a2 : ¬ above e (gi e k) := by have := slopes_le h.2.1 (show k ≤ e.length - 1 by omega) (by omega); unfold above; omega
  have n1 := h.1.1
  have n2 := h.2.1.1
  have P : ∀ a b a' : Int, ∀ c, 0 < a → 0 < b → (c * a * b) / (a * b) = c := fun a b a' c ha hb => by
    rw [Int.mul_assoc, Int.mul_ediv_cancel _ (by have := Int.mul_pos ha hb; omega)]
  by_cases e1 : i + 1 < o.length
  · have d1 := slopes_lt h.1 (show i < i + 1 by omega) e1
    have I1 : InCell o (clip o (gi o i)) i := by rw [c1]; exact ⟨e1, by omega, by omega⟩
    by_cases e2 : k + 1 < e.length
    · have d2 := slopes_lt h.2.1 (show k < k + 1 by omega) e2
      have I2 : InCell e (clip e (gi e k)) k := by rw [c2]; exact ⟨e2, by omega, by omega⟩
      rw [coefV_at h.1 h.2.1 a1 a2 I1 I2, c1, c2]
      unfold coefAt num den
      rw [show gi (gr r i) k * (gi o (i + 1) - gi o i) * (gi e (k + 1) - gi e k) + gi (gr r i) (k + 1) * (gi o (i + 1) - gi o i) * (gi e k - gi e k) + gi (gr r (i + 1)) k * (gi o i - gi o i) * (gi e (k + 1) - gi e k) + gi (gr r (i + 1)) (k + 1) * (gi o i - gi o i) * (gi e k - gi e k) = gi (gr r i) k * (gi o (i + 1) - gi o i) * (gi e (k + 1) - gi e k) from by grind]
      exact P _ _ 0 _ (by omega) (by omega)
    · obtain ⟨k, rfl⟩ : ∃ m, k = m + 1 := ⟨k - 1, by omega⟩
      have d2 := slopes_lt h.2.1 (show k < k + 1 by omega) hk
      have I2 : InCell e (clip e (gi e (k + 1))) k := by rw [c2]; exact ⟨hk, by omega, by omega⟩
      rw [coefV_at h.1 h.2.1 a1 a2 I1 I2, c1, c2]
      unfold coefAt num den
      rw [show gi (gr r i) k * (gi o (i + 1) - gi o i) * (gi e (k + 1) - gi e (k + 1)) + gi (gr r i) (k + 1) * (gi o (i + 1) - gi o i) * (gi e (k + 1) - gi e k) + gi (gr r (i + 1)) k * (gi o i - gi o i) * (gi e (k + 1) - gi e (k + 1)) + gi (gr r (i + 1)) (k + 1) * (gi o i - gi o i) * (gi e (k + 1) - gi e k) = gi (gr r i) (k + 1) * (gi o (i + 1) - gi o i) * (gi e (k + 1) - gi e k) from by grind]
      exact P _ _ 0 _ (by omega) (by omega)
  · obtain ⟨i, rfl⟩ : ∃ m, i = m + 1 := ⟨i - 1, by omega⟩
    have d1 := slopes_lt h.1 (show i < i + 1 by omega) hi
    have I1 : InCell o (clip o (gi o (i + 1))) i := by rw [c1]; exact ⟨hi, by omega, by omega⟩
    by_cases e2 : k + 1 < e.length
    · have d2 := slopes_lt h.2.1 (show k < k + 1 by omega) e2
      have I2 : InCell e (clip e (gi e k)) k := by rw [c2]; exact ⟨e2, by omega, by omega⟩
      rw [coefV_at h.1 h.2.1 a1 a2 I1 I2, c1, c2]
      unfold coefAt num den
      rw [show gi (gr r i) k * (gi o (i + 1) - gi o (i + 1)) * (gi e (k + 1) - gi e k) + gi (gr r i) (k + 1) * (gi o (i + 1) - gi o (i + 1)) * (gi e k - gi e k) + gi (gr r (i + 1)) k * (gi o (i + 1) - gi o i) * (gi e (k + 1) - gi e k) + gi (gr r (i + 1)) (k + 1) * (gi o (i + 1) - gi o i) * (gi e k - gi e k) = gi (gr r (i + 1)) k * (gi o (i + 1) - gi o i) * (gi e (k + 1) - gi e k) from by grind]
      exact P _ _ 0 _ (by omega) (by omega)
    · obtain ⟨k, rfl⟩ : ∃ m, k = m + 1 := ⟨k - 1, by omega⟩
      have d2 := slopes_lt h.2.1 (show k < k + 1 by omega) hk
      have I2 : InCell e (clip e (gi e (k + 1))) k := by rw [c2]; exact ⟨hk, by omega, by omega⟩
      rw [coefV_at h.1 h.2.1 a1 a2 I1 I2, c1, c2]
      unfold coefAt num den
      rw [show gi (gr r i) k * (gi o (i + 1) - gi o (i + 1)) * (gi e (k + 1) - gi e (k + 1)) + gi (gr r i) (k + 1) * (gi o (i + 1) - gi o (i + 1)) * (gi e (k + 1) - gi e k) + gi (gr r (i + 1)) k * (gi o (i + 1) - gi o i) * (gi e (k + 1) - gi e (k + 1)) + gi (gr r (i + 1)) (k + 1) * (gi o (i + 1) - gi o i) * (gi e (k + 1) - gi e k) = gi (gr r (i + 1)) (k + 1) * (gi o (i + 1) - gi o i) * (gi e (k + 1) - gi e k) from by grind]
      exact P _ _ 0 _ (by omega) (by omega)
end Go.Proofs.YtlpdjinhkmgbgaaGreatDoor

namespace Go.Proofs.YtlpdjinhkmgbgaaGreatDoor
set_option linter.unusedVariables false
set_option linter.unusedSimpArgs false
/-- What remains of r after n years. -/
def agV (r keep : Int) : Nat → Int
  | 0 => r
  | n + 1 => agV r keep n * keep / 1000
theorem agV_bd {r keep : Int} (h0 : 0 ≤ r) (h1 : r ≤ 100000) (k0 : 0 ≤ keep) (k1 : keep ≤ 1000) : ∀ n, 0 ≤ agV r keep n ∧ agV r keep n ≤ 100000
  | 0 => ⟨h0, h1⟩
  | n + 1 => by
    have ih := agV_bd h0 h1 k0 k1 n
    rw [agV]
    have p := Int.mul_nonneg ih.1 k0
    have q : agV r keep n * keep ≤ agV r keep n * 1000 := Int.mul_le_mul_of_nonneg_left k1 ih.1
    omega
theorem agV_step {r keep : Int} (h0 : 0 ≤ r) (h1 : r ≤ 100000) (k0 : 0 ≤ keep) (k1 : keep ≤ 1000) (n : Nat) : agV r keep (n + 1) ≤ agV r keep n := by
  have ih := agV_bd h0 h1 k0 k1 n
  rw [agV]
  have p := Int.mul_nonneg ih.1 k0
  have q : agV r keep n * keep ≤ agV r keep n * 1000 := Int.mul_le_mul_of_nonneg_left k1 ih.1
  omega
theorem agV_add (r keep : Int) (m : Nat) : ∀ n, agV r keep (m + n) = agV (agV r keep m) keep n
  | 0 => rfl
  | n + 1 => by rw [← Nat.add_assoc, agV, agV, agV_add r keep m n]
theorem agV_anti {r keep : Int} (h0 : 0 ≤ r) (h1 : r ≤ 100000) (k0 : 0 ≤ keep) (k1 : keep ≤ 1000) (m : Nat) : ∀ n, agV r keep (m + n) ≤ agV r keep m
  | 0 => Int.le_refl _
  | n + 1 => Int.le_trans (agV_step h0 h1 k0 k1 (m + n)) (agV_anti h0 h1 k0 k1 m n)
theorem agV_le {r keep : Int} (h0 : 0 ≤ r) (h1 : r ≤ 100000) (k0 : 0 ≤ keep) (k1 : keep ≤ 1000) {m n : Nat} (h : m ≤ n) : agV r keep n ≤ agV r keep m := by
  have := agV_anti h0 h1 k0 k1 m (n - m)
  rwa [show m + (n - m) = n from by omega] at this
theorem agV_keep {r keep keep' : Int} (h0 : 0 ≤ r) (h1 : r ≤ 100000) (k0 : 0 ≤ keep) (k1 : keep ≤ keep') (k2 : keep' ≤ 1000) : ∀ n, agV r keep n ≤ agV r keep' n
  | 0 => Int.le_refl _
  | n + 1 => by
    have ih := agV_keep h0 h1 k0 k1 k2 n
    have b := agV_bd h0 h1 k0 (by omega) n
    rw [agV, agV]
    have p : agV r keep n * keep ≤ agV r keep' n * keep' := Int.le_trans (Int.mul_le_mul_of_nonneg_right ih k0) (Int.mul_le_mul_of_nonneg_left k1 (by omega))
    omega
/-- The first of n years at whose start less than least remains. -/
def dueIx (r keep least : Int) : Nat → Option Nat
  | 0 => none
  | n + 1 => match dueIx r keep least n with
    | some y => some y
    | none => if agV r keep n < least then some n else none
theorem dueIx_hit {r keep least : Int} {k : Nat} (h : dueIx r keep least k = none) (hl : agV r keep k < least) : ∀ n, k < n → dueIx r keep least n = some k := by
  intro n
  induction n with
  | zero => omega
  | succ n ih =>
    intro hn
    rw [dueIx]
    by_cases e : n = k
    · subst e; rw [h]; simp [hl]
    · rw [ih (by omega)]
theorem dueIx_miss {r keep least : Int} {k : Nat} (h : dueIx r keep least k = none) (hl : ¬ agV r keep k < least) : dueIx r keep least (k + 1) = none := by
  rw [dueIx, h]; simp [hl]
theorem dueIx_some {r keep least : Int} {n y : Nat} (h : dueIx r keep least n = some y) : y < n ∧ agV r keep y < least ∧ ∀ j, j < y → least ≤ agV r keep j := by
  induction n with
  | zero => simp [dueIx] at h
  | succ n ih =>
    rw [dueIx] at h
    cases e : dueIx r keep least n with
    | some z => rw [e] at h; simp at h; subst h; have := ih e; exact ⟨by omega, this.2⟩
    | none =>
      rw [e] at h
      by_cases hl : agV r keep n < least
      · simp [hl] at h; subst h
        refine ⟨by omega, hl, fun j hj => ?_⟩
        have : ∀ m, dueIx r keep least m = none → ∀ j, j < m → least ≤ agV r keep j := by
          intro m
          induction m with
          | zero => intro _ j hj; omega
          | succ m ihm =>
            intro hm j hj
            rw [dueIx] at hm
            cases em : dueIx r keep least m with
            | some z => rw [em] at hm; simp at hm
            | none =>
              rw [em] at hm
              by_cases hh : agV r keep m < least
              · simp [hh] at hm
              · by_cases ej : j = m
                · subst ej; omega
                · exact ihm em j (by omega)
        exact this n e j hj
      · simp [hl] at h
theorem dueIx_none {r keep least : Int} {n : Nat} (h : dueIx r keep least n = none) : ∀ j, j < n → least ≤ agV r keep j := by
  induction n with
  | zero => intro j hj; omega
  | succ n ih =>
    intro j hj
    rw [dueIx] at h
    cases e : dueIx r keep least n with
    | some z => rw [e] at h; simp at h
    | none =>
      rw [e] at h
      by_cases hl : agV r keep n < least
      · simp [hl] at h
      · by_cases ej : j = n
        · subst ej; omega
        · exact ih e j (by omega)

/-- Measures, readings, spans: pairs. -/
def gp (l : List (Int × Int)) (i : Nat) : Int × Int := l.getD i (0, 0)
def MeasOk (l : List (Int × Int)) (i : Nat) : Prop := 0 ≤ (gp l i).1 ∧ (gp l i).1 ≤ 100000 ∧ 0 ≤ (gp l i).2 ∧ (gp l i).2 ≤ 100000 ∧ (i = 0 ∨ (gp l (i - 1)).1 < (gp l i).1)
/-- The index of the last of the first k measures that is not later than the day. -/
def lastIx (l : List (Int × Int)) (day : Int) : Nat → Nat
  | 0 => 0
  | k + 1 => if (gp l k).1 ≤ day then k else lastIx l day k
theorem lastIx_lt (l : List (Int × Int)) (day : Int) : ∀ k, lastIx l day (k + 1) ≤ k
  | 0 => by simp [lastIx]
  | k + 1 => by rw [lastIx]; split; omega; have := lastIx_lt l day k; omega
theorem lastIx_le (l : List (Int × Int)) (day : Int) (h0 : (gp l 0).1 ≤ day) : ∀ k, (gp l (lastIx l day k)).1 ≤ day
  | 0 => h0
  | k + 1 => by rw [lastIx]; split; assumption; exact lastIx_le l day h0 k

/-! ### Instruments -/
theorem plate_bd {c1 c2 t t1 t2 : Int} (h1 : 1 ≤ c1) (h2 : c1 ≤ 100000) (h3 : 1 ≤ c2) (h4 : c2 ≤ 100000) (a : t1 ≤ t) (b : t ≤ t2) : t2 - t1 ≤ c1 * (t2 - t) + c2 * (t - t1) ∧ c1 * (t2 - t) + c2 * (t - t1) ≤ 100000 * (t2 - t1) := by
  have e1 : 1 * (t2 - t) ≤ c1 * (t2 - t) := Int.mul_le_mul_of_nonneg_right h1 (by omega)
  have e2 : 1 * (t - t1) ≤ c2 * (t - t1) := Int.mul_le_mul_of_nonneg_right h3 (by omega)
  have e3 : c1 * (t2 - t) ≤ 100000 * (t2 - t) := Int.mul_le_mul_of_nonneg_right h2 (by omega)
  have e4 : c2 * (t - t1) ≤ 100000 * (t - t1) := Int.mul_le_mul_of_nonneg_right h4 (by omega)
  omega
theorem ediv_anti {n a b : Int} (hn : 0 ≤ n) (ha : 0 < a) (hab : a ≤ b) : n / b ≤ n / a := by
  have hb : 0 < b := by omega
  have h1 : n / b * b ≤ n := Int.ediv_mul_le _ (by omega)
  have h2 : 0 ≤ n / b := Int.ediv_nonneg hn (by omega)
  have h3 : n / b * a ≤ n / b * b := Int.mul_le_mul_of_nonneg_left hab h2
  exact Int.le_ediv_of_mul_le ha (by omega)
theorem corr_same {v c t t1 t2 : Int} (hc : 1 ≤ c) (ht : t1 < t2) : v * c * (t2 - t1) / (c * (t2 - t) + c * (t - t1)) = v := by
  rw [show c * (t2 - t) + c * (t - t1) = c * (t2 - t1) from by grind, Int.mul_assoc]
  exact Int.mul_ediv_cancel _ (by have := Int.mul_pos (show 0 < c by omega) (show 0 < t2 - t1 by omega); omega)
theorem corr_low {v c c1 c2 c2' t t1 t2 : Int} (hv : 0 ≤ v) (hc : 1 ≤ c) (h1 : 1 ≤ c1) (h3 : 1 ≤ c2') (h4 : c2' ≤ c2) (a : t1 ≤ t) (b : t ≤ t2) (ht : t1 < t2) :
    v * c * (t2 - t1) / (c1 * (t2 - t) + c2 * (t - t1)) ≤ v * c * (t2 - t1) / (c1 * (t2 - t) + c2' * (t - t1)) := by
  have e1 : 1 * (t2 - t) ≤ c1 * (t2 - t) := Int.mul_le_mul_of_nonneg_right h1 (by omega)
  have e2 : 1 * (t - t1) ≤ c2' * (t - t1) := Int.mul_le_mul_of_nonneg_right h3 (by omega)
  have e3 : c2' * (t - t1) ≤ c2 * (t - t1) := Int.mul_le_mul_of_nonneg_right h4 (by omega)
  exact ediv_anti (Int.mul_nonneg (Int.mul_nonneg hv (by omega)) (by omega)) (by omega) (by omega)

/-! ### Boxes -/
/-- (b - a) x (c - b). -/
def turnV (ax ay bx by' cx cy : Int) : Int := (bx - ax) * (cy - by') - (by' - ay) * (cx - bx)
theorem turn_first (ax ay bx b_y : Int) : turnV ax ay bx b_y ax ay = 0 := by unfold turnV; grind
theorem turn_second (ax ay bx b_y : Int) : turnV ax ay bx b_y bx b_y = 0 := by unfold turnV; grind
theorem turn_back (ax ay bx b_y dx dy : Int) : turnV ax ay bx b_y dx dy = turnV dx dy ax ay bx b_y := by unfold turnV; grind
theorem turn_mid {ax ay bx b_y px py qx qy x y : Int} (hx : px + qx = 2 * x) (hy : py + qy = 2 * y) (h1 : 0 ≤ turnV ax ay bx b_y px py) (h2 : 0 ≤ turnV ax ay bx b_y qx qy) : 0 ≤ turnV ax ay bx b_y x y := by
  have : 2 * turnV ax ay bx b_y x y = turnV ax ay bx b_y px py + turnV ax ay bx b_y qx qy := by unfold turnV; grind
  omega
theorem turn_bd {ax ay bx b_y cx cy : Int} (h1 : 0 ≤ ax ∧ ax ≤ 10000) (h2 : 0 ≤ ay ∧ ay ≤ 10000) (h3 : 0 ≤ bx ∧ bx ≤ 10000) (h4 : 0 ≤ b_y ∧ b_y ≤ 10000) (h5 : 0 ≤ cx ∧ cx ≤ 10000) (h6 : 0 ≤ cy ∧ cy ≤ 10000) :
    (-100000000 ≤ (bx - ax) * (cy - b_y) ∧ (bx - ax) * (cy - b_y) ≤ 100000000) ∧ (-100000000 ≤ (b_y - ay) * (cx - bx) ∧ (b_y - ay) * (cx - bx) ≤ 100000000) := by
  have P : ∀ a b : Int, -10000 ≤ a → a ≤ 10000 → -10000 ≤ b → b ≤ 10000 → -100000000 ≤ a * b ∧ a * b ≤ 100000000 := by
    intro a b h1 h2 h3 h4
    have e1 : 0 ≤ (10000 - a) * (10000 - b) := Int.mul_nonneg (by omega) (by omega)
    have e2 : 0 ≤ (10000 + a) * (10000 + b) := Int.mul_nonneg (by omega) (by omega)
    have e3 : 0 ≤ (10000 - a) * (10000 + b) := Int.mul_nonneg (by omega) (by omega)
    have e4 : 0 ≤ (10000 + a) * (10000 - b) := Int.mul_nonneg (by omega) (by omega)
    have f1 : (10000 - a) * (10000 - b) = 100000000 - 10000 * a - 10000 * b + a * b := by grind
    have f2 : (10000 + a) * (10000 + b) = 100000000 + 10000 * a + 10000 * b + a * b := by grind
    have f3 : (10000 - a) * (10000 + b) = 100000000 - 10000 * a + 10000 * b - a * b := by grind
    have f4 : (10000 + a) * (10000 - b) = 100000000 + 10000 * a - 10000 * b - a * b := by grind
    omega
  exact ⟨P _ _ (by omega) (by omega) (by omega) (by omega), P _ _ (by omega) (by omega) (by omega) (by omega)⟩
end Go.Proofs.YtlpdjinhkmgbgaaGreatDoor

namespace Go.Proofs.YtlpdjinhkmgbgaaGreatDoor
set_option linter.unusedVariables false
set_option linter.unusedSimpArgs false
open Go.RowKit

/-- least ≤ n ≤ most, as a Bool. -/
def btw (n a b : Int) : Bool := decide (a ≤ n) && decide (n ≤ b)
theorem btw_iff (n a b : Int) : btw n a b = true ↔ a ≤ n ∧ n ≤ b := by simp [btw]
theorem btw_false (n a b : Int) : btw n a b = false ↔ ¬ (a ≤ n ∧ n ≤ b) := by rw [← btw_iff]; simp
theorem btw_t {n a b : Int} (h1 : a ≤ n) (h2 : n ≤ b) : btw n a b = true := (btw_iff _ _ _).2 ⟨h1, h2⟩
theorem btw_f {n a b : Int} (h : ¬ (a ≤ n ∧ n ≤ b)) : btw n a b = false := (btw_false _ _ _).2 h

theorem block_lt {w : World} {b o : Nat} {v : Value} (h : w.cell? ⟨b, o, none⟩ = some v) : b < w.heap.size := by
  apply Nat.lt_of_not_le
  intro hle
  simp [World.cell?, Array.getElem?_eq_none hle] at h
theorem bcell {W w1 : World} (hb : Below W.heap.size W w1) : (∀ b o, b < W.heap.size → w1.cell? ⟨b, o, none⟩ = W.cell? ⟨b, o, none⟩) ∧ (∀ b o, b < W.heap.size → w1.frozen? ⟨b, o, none⟩ = W.frozen? ⟨b, o, none⟩) :=
  ⟨fun b o h => hb.cell (p := ⟨b, o, none⟩) h, fun b o h => hb.frozen (p := ⟨b, o, none⟩) h⟩
theorem cell_below {w w' : World} {b o : Nat} {v : Value} (h : w.cell? ⟨b, o, none⟩ = some v) (hb : Below w.heap.size w w') : w'.cell? ⟨b, o, none⟩ = some v := (hb.cell (p := ⟨b, o, none⟩) (block_lt h)).trans h
theorem box_below {w w' : World} {o : Obj} (h : Below (w.alloc o).heap.size (w.alloc o) w') : Below w.heap.size w w' :=
  ((Below.refl _ _).alloc (Nat.le_refl _) _).trans (h.mono (by simp))

def I64 (x : Int) : Prop := -9223372036854775808 ≤ x ∧ x ≤ 9223372036854775807
/-- A slice of ints. -/
def IntsS (w : World) (a : Option Addr) (l : List Int) : Prop :=
  l.length ≤ 9223372036854775807 ∧ (∀ i, i < l.length → I64 (gi l i)) ∧ ∃ blk off, (l ≠ [] → a = some ⟨blk, off, none⟩) ∧ ∀ i, i < l.length → w.cell? ⟨blk, off + i, none⟩ = some (.int .i64 (gi l i))
theorem IntsS.below {w w' : World} {a : Option Addr} {l : List Int} (h : IntsS w a l) (hb : Below w.heap.size w w') : IntsS w' a l := by
  obtain ⟨h0, h1, blk, off, h2, h3⟩ := h
  exact ⟨h0, h1, blk, off, h2, fun i hi => by rw [hb.cell (p := ⟨blk, off + i, none⟩) (block_lt (h3 i hi))]; exact h3 i hi⟩
/-- A slice of pairs of ints. -/
def PairsS (w : World) (a : Option Addr) (l : List (Int × Int)) : Prop :=
  l.length ≤ 9223372036854775807 ∧ (∀ i, i < l.length → I64 (gp l i).1 ∧ I64 (gp l i).2) ∧ ∃ blk off, (l ≠ [] → a = some ⟨blk, off, none⟩) ∧ ∀ i, i < l.length → w.cell? ⟨blk, off + i * 2, none⟩ = some (.int .i64 (gp l i).1) ∧ w.cell? ⟨blk, off + i * 2 + 1, none⟩ = some (.int .i64 (gp l i).2)
theorem PairsS.below {w w' : World} {a : Option Addr} {l : List (Int × Int)} (h : PairsS w a l) (hb : Below w.heap.size w w') : PairsS w' a l := by
  obtain ⟨h0, h1, blk, off, h2, h3⟩ := h
  exact ⟨h0, h1, blk, off, h2, fun i hi => by
    have hx := h3 i hi
    rw [hb.cell (p := ⟨blk, off + i * 2, none⟩) (block_lt hx.1), hb.cell (p := ⟨blk, off + i * 2 + 1, none⟩) (block_lt hx.2)]; exact hx⟩
/-- A slice of slices of ints. -/
def RowsS (w : World) (a : Option Addr) (r : List (List Int)) : Prop :=
  r.length ≤ 9223372036854775807 ∧ ∃ (blk off : Nat) (ad : Nat → Option Addr) (cp : Nat → Nat), (r ≠ [] → a = some ⟨blk, off, none⟩) ∧ ∀ i, i < r.length → w.cell? ⟨blk, off + i, none⟩ = some (.slice (ad i) (gr r i).length (cp i)) ∧ IntsS w (ad i) (gr r i) ∧ (gr r i).length ≤ cp i
theorem RowsS.below {w w' : World} {a : Option Addr} {r : List (List Int)} (h : RowsS w a r) (hb : Below w.heap.size w w') : RowsS w' a r := by
  obtain ⟨h0, blk, off, ad, cp, h2, h3⟩ := h
  exact ⟨h0, blk, off, ad, cp, h2, fun i hi => by
    have hx := h3 i hi
    rw [hb.cell (p := ⟨blk, off + i, none⟩) (block_lt hx.1)]; exact ⟨hx.1, hx.2.1.below hb, hx.2.2⟩⟩
/-- The three lists of a table. -/
def TableS (w : World) (ao ae ar : Option Addr) (o e : List Int) (r : List (List Int)) : Prop := IntsS w ao o ∧ IntsS w ae e ∧ RowsS w ar r
theorem TableS.below {w w' : World} {ao ae ar : Option Addr} {o e : List Int} {r : List (List Int)} (h : TableS w ao ae ar o e r) (hb : Below w.heap.size w w') : TableS w' ao ae ar o e r :=
  ⟨h.1.below hb, h.2.1.below hb, h.2.2.below hb⟩
end Go.Proofs.YtlpdjinhkmgbgaaGreatDoor

namespace Go.Proofs.YtlpdjinhkmgbgaaGreatDoor
set_option linter.unusedVariables false
set_option linter.unusedSimpArgs false
/-- Whether one of the first k elements is such. -/
def anyK (p : Nat → Bool) : Nat → Bool
  | 0 => false
  | k + 1 => anyK p k || p k
theorem anyK_false {p : Nat → Bool} : ∀ k, (∀ j, j < k → p j = false) → anyK p k = false
  | 0, _ => rfl
  | k + 1, h => by rw [anyK, anyK_false k (fun j hj => h j (by omega)), h k (by omega)]; rfl
theorem anyK_true {p : Nat → Bool} {j : Nat} (h : p j = true) : ∀ k, j < k → anyK p k = true
  | k + 1, hj => by
    rw [anyK]
    by_cases e : j = k
    · subst e; rw [h, Bool.or_true]
    · rw [anyK_true h k (by omega), Bool.true_or]
theorem anyK_iff {p : Nat → Bool} : ∀ k, anyK p k = false ↔ ∀ j, j < k → p j = false
  | 0 => by simp [anyK]
  | k + 1 => by
    rw [anyK, Bool.or_eq_false_iff, anyK_iff k]
    constructor
    · intro h j hj
      by_cases e : j = k
      · subst e; exact h.2
      · exact h.1 j (by omega)
    · intro h; exact ⟨fun j hj => h j (by omega), h k (by omega)⟩
/-- The place of the first of n elements that is such, or -1. -/
def idxK (p : Nat → Bool) : Nat → Int
  | 0 => -1
  | k + 1 => if idxK p k = -1 then (if p k then (k : Int) else -1) else idxK p k
theorem idxK_any (p : Nat → Bool) : ∀ k, decide (0 ≤ idxK p k) = anyK p k
  | 0 => by simp [idxK, anyK]
  | k + 1 => by
    have ih := idxK_any p k
    rw [idxK, anyK, ← ih]
    have hh : idxK p k = -1 ∨ 0 ≤ idxK p k := by
      clear ih
      induction k with
      | zero => left; rfl
      | succ k ih =>
        rw [idxK]
        rcases ih with h | h
        · rw [if_pos h]; split
          · right; omega
          · left; rfl
        · rw [if_neg (by omega)]; right; exact h
    rcases hh with h | h
    · rw [if_pos h, h]
      cases p k <;> simp
    · rw [if_neg (by omega)]
      simp [h]
theorem idxK_hit {p : Nat → Bool} {k : Nat} (h : p k = true) (hb : ∀ j, j < k → p j = false) : ∀ n, k < n → idxK p n = k
  | n + 1, hn => by
    rw [idxK]
    by_cases e : k = n
    · subst e
      have : idxK p k = -1 := by
        have := idxK_any p k
        rw [anyK_false k hb, decide_eq_false_iff_not] at this
        clear h hn
        induction k with
        | zero => rfl
        | succ k ih =>
          have i2 := ih (fun j hj => hb j (by omega)) (by
            intro h0
            have h1 := idxK_any p k
            rw [anyK_false k (fun j hj => hb j (by omega)), decide_eq_false_iff_not] at h1
            exact h1 h0)
          rw [idxK, i2, if_pos rfl, hb k (by omega)]; rfl
      rw [if_pos this, if_pos h]
    · rw [idxK_hit h hb n (by omega), if_neg (by omega)]
theorem idxK_miss {p : Nat → Bool} : ∀ n, (∀ j, j < n → p j = false) → idxK p n = -1
  | 0, _ => rfl
  | n + 1, h => by rw [idxK, idxK_miss n (fun j hj => h j (by omega)), if_pos rfl, h n (by omega)]; rfl

end Go.Proofs.YtlpdjinhkmgbgaaGreatDoor

namespace Go.Proofs.YtlpdjinhkmgbgaaGreatDoor
set_option linter.unusedVariables false
set_option linter.unusedSimpArgs false
open Go.RowKit

theorem btw_casesR (n a b : Int) : btw n a b = true ∨ btw n a b = false := by cases btw n a b <;> simp
/-- The ends of a span of hours. -/
def timeB (f t : Int) : Bool := decide (0 ≤ f) && decide (f < t) && decide (t ≤ 10000001)
def dirB (d : Int) : Bool := d == 1 || d == -1
def topB (d : Int) : Bool := d == 1 || d == 2
/-- Are there signs of a kind with a value? -/
def valB (k v : Int) : Bool := if k = 1 ∨ k = 6 then btw v 10 200 else if k = 2 ∨ k = 3 ∨ k = 4 ∨ k = 5 then v == 0 else if k = 7 then btw v 1 100000 else if k = 8 then btw v 0 1000 else false
theorem within_r (a b n : Int) (w : World) : Calls Tryz.prog 69 #[.int .i64 a, .int .i64 b, .int .i64 n] w fun e w' => e = .returned (.bool (btw n a b)) ∧ w = w' := by
  by_cases h1 : a ≤ n
  · by_cases h2 : n ≤ b
    · rw [btw_t h1 h2]
      go_enter Tryz.func69, Tryz.ntmps69
      go_wp2
      go_ret
      exact ⟨rfl, rfl⟩
    · rw [btw_f (by omega)]
      go_enter Tryz.func69, Tryz.ntmps69
      go_wp2
      go_ret
      exact ⟨rfl, rfl⟩
  · rw [btw_f (by omega)]
    go_enter Tryz.func69, Tryz.ntmps69
    go_wp2
    go_ret
    exact ⟨rfl, rfl⟩
theorem refWithin_r (a b n : Int) (w : World) : Calls Tryz.prog 67 #[.int .i64 n, .int .i64 a, .int .i64 b] w fun e w' => e = .returned (.bool (btw n a b)) ∧ w = w' := by
  by_cases h1 : a ≤ n
  · by_cases h2 : n ≤ b
    · rw [btw_t h1 h2]
      go_enter Tryz.func67, Tryz.ntmps67
      go_wp2
      go_ret
      exact ⟨rfl, rfl⟩
    · rw [btw_f (by omega)]
      go_enter Tryz.func67, Tryz.ntmps67
      go_wp2
      go_ret
      exact ⟨rfl, rfl⟩
  · rw [btw_f (by omega)]
    go_enter Tryz.func67, Tryz.ntmps67
    go_wp2
    go_ret
    exact ⟨rfl, rfl⟩
theorem isTime_r (f t : Int) (w : World) : Calls Tryz.prog 104 #[.int .i64 f, .int .i64 t] w fun e w' => e = .returned (.bool (timeB f t)) ∧ w = w' := by
  unfold timeB
  by_cases h1 : 0 ≤ f
  · by_cases h2 : f < t
    · by_cases h3 : t ≤ 10000001
      · rw [decide_eq_true h1, decide_eq_true h2, decide_eq_true h3]
        go_enter Tryz.func104, Tryz.ntmps104
        go_wp2
        go_ret
        exact ⟨rfl, rfl⟩

      · rw [decide_eq_true h1, decide_eq_true h2, decide_eq_false h3]
        go_enter Tryz.func104, Tryz.ntmps104
        go_wp2
        go_ret
        exact ⟨rfl, rfl⟩

    · rw [decide_eq_true h1, decide_eq_false h2, Bool.true_and, Bool.false_and]
      go_enter Tryz.func104, Tryz.ntmps104
      go_wp2
      go_ret
      exact ⟨rfl, rfl⟩

  · rw [decide_eq_false h1, Bool.false_and, Bool.false_and]
    go_enter Tryz.func104, Tryz.ntmps104
    go_wp2
    go_ret
    exact ⟨rfl, rfl⟩

theorem refHours_r (f t : Int) (w : World) : Calls Tryz.prog 79 #[.int .i64 f, .int .i64 t] w fun e w' => e = .returned (.bool (timeB f t)) ∧ w = w' := by
  unfold timeB
  by_cases h1 : 0 ≤ f
  · by_cases h2 : f < t
    · by_cases h3 : t ≤ 10000001
      · rw [decide_eq_true h1, decide_eq_true h2, decide_eq_true h3]
        go_enter Tryz.func79, Tryz.ntmps79
        go_wp2
        go_ret
        exact ⟨rfl, rfl⟩

      · rw [decide_eq_true h1, decide_eq_true h2, decide_eq_false h3]
        go_enter Tryz.func79, Tryz.ntmps79
        go_wp2
        go_ret
        exact ⟨rfl, rfl⟩

    · rw [decide_eq_true h1, decide_eq_false h2, Bool.true_and, Bool.false_and]
      go_enter Tryz.func79, Tryz.ntmps79
      go_wp2
      go_ret
      exact ⟨rfl, rfl⟩

  · rw [decide_eq_false h1, Bool.false_and, Bool.false_and]
    go_enter Tryz.func79, Tryz.ntmps79
    go_wp2
    go_ret
    exact ⟨rfl, rfl⟩

theorem isDir_r (d : Int) (w : World) : Calls Tryz.prog 45 #[.int .i64 d] w fun e w' => e = .returned (.bool (dirB d)) ∧ w = w' := by
  by_cases h1 : d = 1
  · subst h1
    rw [show dirB 1 = true from rfl]
    go_enter Tryz.func45, Tryz.ntmps45
    go_wp2
    go_ret
    exact ⟨rfl, rfl⟩
  · by_cases h2 : d = (-1)
    · subst h2
      rw [show dirB (-1) = true from rfl]
      go_enter Tryz.func45, Tryz.ntmps45
      go_wp2
      go_ret
      exact ⟨rfl, rfl⟩
    · have hv : dirB d = false := by simp [dirB, h1, h2]
      rw [hv]
      have e1 : (d == 1) = false := by simpa using h1
      have e2 : (d == (-1)) = false := by simpa using h2
      clear h1 h2 hv
      go_enter Tryz.func45, Tryz.ntmps45
      go_wp2
      go_ret
      exact ⟨rfl, rfl⟩
theorem refDir_r (d : Int) (w : World) : Calls Tryz.prog 78 #[.int .i64 d] w fun e w' => e = .returned (.bool (dirB d)) ∧ w = w' := by
  by_cases h1 : d = 1
  · subst h1
    rw [show dirB 1 = true from rfl]
    go_enter Tryz.func78, Tryz.ntmps78
    go_wp2
    go_ret
    exact ⟨rfl, rfl⟩
  · by_cases h2 : d = (-1)
    · subst h2
      rw [show dirB (-1) = true from rfl]
      go_enter Tryz.func78, Tryz.ntmps78
      go_wp2
      go_ret
      exact ⟨rfl, rfl⟩
    · have hv : dirB d = false := by simp [dirB, h1, h2]
      rw [hv]
      have e1 : (d == 1) = false := by simpa using h1
      have e2 : (d == (-1)) = false := by simpa using h2
      clear h1 h2 hv
      go_enter Tryz.func78, Tryz.ntmps78
      go_wp2
      go_ret
      exact ⟨rfl, rfl⟩
theorem isTopic_r (d : Int) (w : World) : Calls Tryz.prog 46 #[.int .i64 d] w fun e w' => e = .returned (.bool (topB d)) ∧ w = w' := by
  by_cases h1 : d = 1
  · subst h1
    rw [show topB 1 = true from rfl]
    go_enter Tryz.func46, Tryz.ntmps46
    go_wp2
    go_ret
    exact ⟨rfl, rfl⟩
  · by_cases h2 : d = 2
    · subst h2
      rw [show topB 2 = true from rfl]
      go_enter Tryz.func46, Tryz.ntmps46
      go_wp2
      go_ret
      exact ⟨rfl, rfl⟩
    · have hv : topB d = false := by simp [topB, h1, h2]
      rw [hv]
      have e1 : (d == 1) = false := by simpa using h1
      have e2 : (d == 2) = false := by simpa using h2
      clear h1 h2 hv
      go_enter Tryz.func46, Tryz.ntmps46
      go_wp2
      go_ret
      exact ⟨rfl, rfl⟩
theorem isHour_r (h : Int) (w : World) : Calls Tryz.prog 28 #[.int .i64 h] w fun e w' => e = .returned (.bool (btw h 0 10000000)) ∧ w = w' := by
  have HW := Lib.hid (fun W => within_r 0 10000000 h W)
  generalize btw h 0 10000000 = b at *
  go_enter Tryz.func28, Tryz.ntmps28
  go_wp2_with (go_at_call 69; refine (HW.out _).mono ?_; rintro e w' ⟨rfl, rfl⟩)
  go_ret
  exact ⟨rfl, rfl⟩
theorem valueValid_r (k v : Int) (w : World) : Calls Tryz.prog 103 #[.int .i64 k, .int .i64 v] w fun e w' => e = .returned (.bool (valB k v)) ∧ w = w' := by
  have HW := Lib.hid (fun a b W => within_r a b v W)
  by_cases h1 : k = 1
  · subst h1
    rw [show valB 1 v = btw v 10 200 by simp [valB]]
    go_enter Tryz.func103, Tryz.ntmps103
    go_wp2_with (go_at_call 69; refine (HW.out _ _ _).mono ?_; rintro e w' ⟨rfl, rfl⟩)
    go_ret
    exact ⟨rfl, rfl⟩
  by_cases h2 : k = 2
  · subst h2
    rw [show valB 2 v = (v == 0) by simp [valB]]
    go_enter Tryz.func103, Tryz.ntmps103
    go_wp2_with (go_at_call 69; refine (HW.out _ _ _).mono ?_; rintro e w' ⟨rfl, rfl⟩)
    go_ret
    exact ⟨rfl, rfl⟩
  by_cases h3 : k = 3
  · subst h3
    rw [show valB 3 v = (v == 0) by simp [valB]]
    go_enter Tryz.func103, Tryz.ntmps103
    go_wp2_with (go_at_call 69; refine (HW.out _ _ _).mono ?_; rintro e w' ⟨rfl, rfl⟩)
    go_ret
    exact ⟨rfl, rfl⟩
  by_cases h4 : k = 4
  · subst h4
    rw [show valB 4 v = (v == 0) by simp [valB]]
    go_enter Tryz.func103, Tryz.ntmps103
    go_wp2_with (go_at_call 69; refine (HW.out _ _ _).mono ?_; rintro e w' ⟨rfl, rfl⟩)
    go_ret
    exact ⟨rfl, rfl⟩
  by_cases h5 : k = 5
  · subst h5
    rw [show valB 5 v = (v == 0) by simp [valB]]
    go_enter Tryz.func103, Tryz.ntmps103
    go_wp2_with (go_at_call 69; refine (HW.out _ _ _).mono ?_; rintro e w' ⟨rfl, rfl⟩)
    go_ret
    exact ⟨rfl, rfl⟩
  by_cases h6 : k = 6
  · subst h6
    rw [show valB 6 v = btw v 10 200 by simp [valB]]
    go_enter Tryz.func103, Tryz.ntmps103
    go_wp2_with (go_at_call 69; refine (HW.out _ _ _).mono ?_; rintro e w' ⟨rfl, rfl⟩)
    go_ret
    exact ⟨rfl, rfl⟩
  by_cases h7 : k = 7
  · subst h7
    rw [show valB 7 v = btw v 1 100000 by simp [valB]]
    go_enter Tryz.func103, Tryz.ntmps103
    go_wp2_with (go_at_call 69; refine (HW.out _ _ _).mono ?_; rintro e w' ⟨rfl, rfl⟩)
    go_ret
    exact ⟨rfl, rfl⟩
  by_cases h8 : k = 8
  · subst h8
    rw [show valB 8 v = btw v 0 1000 by simp [valB]]
    go_enter Tryz.func103, Tryz.ntmps103
    go_wp2_with (go_at_call 69; refine (HW.out _ _ _).mono ?_; rintro e w' ⟨rfl, rfl⟩)
    go_ret
    exact ⟨rfl, rfl⟩
  rw [show valB k v = false by simp [valB, h1, h2, h3, h4, h5, h6, h7, h8]]
  have e1 : (k == 1) = false := by simpa using h1
  have e2 : (k == 2) = false := by simpa using h2
  have e3 : (k == 3) = false := by simpa using h3
  have e4 : (k == 4) = false := by simpa using h4
  have e5 : (k == 5) = false := by simpa using h5
  have e6 : (k == 6) = false := by simpa using h6
  have e7 : (k == 7) = false := by simpa using h7
  have e8 : (k == 8) = false := by simpa using h8
  clear HW h1 h2 h3 h4 h5 h6 h7 h8
  go_enter Tryz.func103, Tryz.ntmps103
  go_wp2
  go_ret
  exact ⟨rfl, rfl⟩
theorem refValue_r (k v : Int) (w : World) : Calls Tryz.prog 77 #[.int .i64 k, .int .i64 v] w fun e w' => e = .returned (.bool (valB k v)) ∧ w = w' := by
  have HW := Lib.hid (fun a b W => refWithin_r a b v W)
  by_cases h1 : k = 1
  · subst h1
    rw [show valB 1 v = btw v 10 200 by simp [valB]]
    go_enter Tryz.func77, Tryz.ntmps77
    go_wp2_with (go_at_call 67; refine (HW.out _ _ _).mono ?_; rintro e w' ⟨rfl, rfl⟩)
    go_ret
    exact ⟨rfl, rfl⟩
  by_cases h2 : k = 2
  · subst h2
    rw [show valB 2 v = (v == 0) by simp [valB]]
    go_enter Tryz.func77, Tryz.ntmps77
    go_wp2_with (go_at_call 67; refine (HW.out _ _ _).mono ?_; rintro e w' ⟨rfl, rfl⟩)
    go_ret
    exact ⟨rfl, rfl⟩
  by_cases h3 : k = 3
  · subst h3
    rw [show valB 3 v = (v == 0) by simp [valB]]
    go_enter Tryz.func77, Tryz.ntmps77
    go_wp2_with (go_at_call 67; refine (HW.out _ _ _).mono ?_; rintro e w' ⟨rfl, rfl⟩)
    go_ret
    exact ⟨rfl, rfl⟩
  by_cases h4 : k = 4
  · subst h4
    rw [show valB 4 v = (v == 0) by simp [valB]]
    go_enter Tryz.func77, Tryz.ntmps77
    go_wp2_with (go_at_call 67; refine (HW.out _ _ _).mono ?_; rintro e w' ⟨rfl, rfl⟩)
    go_ret
    exact ⟨rfl, rfl⟩
  by_cases h5 : k = 5
  · subst h5
    rw [show valB 5 v = (v == 0) by simp [valB]]
    go_enter Tryz.func77, Tryz.ntmps77
    go_wp2_with (go_at_call 67; refine (HW.out _ _ _).mono ?_; rintro e w' ⟨rfl, rfl⟩)
    go_ret
    exact ⟨rfl, rfl⟩
  by_cases h6 : k = 6
  · subst h6
    rw [show valB 6 v = btw v 10 200 by simp [valB]]
    go_enter Tryz.func77, Tryz.ntmps77
    go_wp2_with (go_at_call 67; refine (HW.out _ _ _).mono ?_; rintro e w' ⟨rfl, rfl⟩)
    go_ret
    exact ⟨rfl, rfl⟩
  by_cases h7 : k = 7
  · subst h7
    rw [show valB 7 v = btw v 1 100000 by simp [valB]]
    go_enter Tryz.func77, Tryz.ntmps77
    go_wp2_with (go_at_call 67; refine (HW.out _ _ _).mono ?_; rintro e w' ⟨rfl, rfl⟩)
    go_ret
    exact ⟨rfl, rfl⟩
  by_cases h8 : k = 8
  · subst h8
    rw [show valB 8 v = btw v 0 1000 by simp [valB]]
    go_enter Tryz.func77, Tryz.ntmps77
    go_wp2_with (go_at_call 67; refine (HW.out _ _ _).mono ?_; rintro e w' ⟨rfl, rfl⟩)
    go_ret
    exact ⟨rfl, rfl⟩
  rw [show valB k v = false by simp [valB, h1, h2, h3, h4, h5, h6, h7, h8]]
  have e1 : (k == 1) = false := by simpa using h1
  have e2 : (k == 2) = false := by simpa using h2
  have e3 : (k == 3) = false := by simpa using h3
  have e4 : (k == 4) = false := by simpa using h4
  have e5 : (k == 5) = false := by simpa using h5
  have e6 : (k == 6) = false := by simpa using h6
  have e7 : (k == 7) = false := by simpa using h7
  have e8 : (k == 8) = false := by simpa using h8
  clear HW h1 h2 h3 h4 h5 h6 h7 h8
  go_enter Tryz.func77, Tryz.ntmps77
  go_wp2
  go_ret
  exact ⟨rfl, rfl⟩
end Go.Proofs.YtlpdjinhkmgbgaaGreatDoor
