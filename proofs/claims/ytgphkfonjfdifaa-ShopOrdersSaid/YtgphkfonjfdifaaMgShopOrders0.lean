/-
  Plain mathematics of tables of coefficients: interpolation in two slopes, which never grows. By an AI agent.; Plain mathematics of ageing, of instruments and of boxes. By an AI agent.; Lists of ints, of pairs of ints, and rows of ints in memory; the walks of between and within. By an AI agent.; Plain mathematics of the workshop's calendar: holidays, open minutes, the next start, when so many minutes were open. By an AI agent.
-/
import Derived.Test.YtgphkfonjfdifaaProg
import Derived.WalkKit
import Derived.WalkSpells
import Derived.WalkLawsBesides
import Derived.Handy
import Derived.Lib.Hide
import Derived.IntWalk
import Derived.Deep.QuietTactic
import Derived.BigQuiet

namespace Go.Proofs.Ytgphkfonjfdifaa
set_option linter.unusedVariables false
set_option linter.unusedSimpArgs false
/-- The element at an index, 0 outside. -/
def gi (l : List Int) (i : Nat) : Int := l.getD i 0
def gr (r : List (List Int)) (i : Nat) : List Int := r.getD i []

def okS (l : List Int) (i : Nat) : Prop := 1 ≤ gi l i ∧ gi l i ≤ 1000000 ∧ (i = 0 ∨ gi l (i - 1) < gi l i)
def SlopesOk (l : List Int) : Prop := 2 ≤ l.length ∧ l.length ≤ 6 ∧ ∀ i, i < l.length → okS l i
def CellOk (r : List (List Int)) (i k : Nat) : Prop :=
  0 ≤ gi (gr r i) k ∧ gi (gr r i) k ≤ 100000 ∧ (k = 0 ∨ gi (gr r i) k ≤ gi (gr r i) (k - 1)) ∧ (i = 0 ∨ gi (gr r i) k ≤ gi (gr r (i - 1)) k)
def RowOk (e : List Int) (r : List (List Int)) (i : Nat) : Prop := (gr r i).length = e.length ∧ ∀ k, k < e.length → CellOk r i k
def TableOk (o e : List Int) (r : List (List Int)) : Prop := SlopesOk o ∧ SlopesOk e ∧ r.length = o.length ∧ ∀ i, i < r.length → RowOk e r i

def InCell (l : List Int) (x : Int) (i : Nat) : Prop := i + 1 < l.length ∧ gi l i ≤ x ∧ x ≤ gi l (i + 1)
/-- The coefficient within the cell i, k. -/
def num (o e : List Int) (r : List (List Int)) (i k : Nat) (x y : Int) : Int :=
  gi (gr r i) k * (gi o (i + 1) - x) * (gi e (k + 1) - y) + gi (gr r i) (k + 1) * (gi o (i + 1) - x) * (y - gi e k) +
  gi (gr r (i + 1)) k * (x - gi o i) * (gi e (k + 1) - y) + gi (gr r (i + 1)) (k + 1) * (x - gi o i) * (y - gi e k)
def den (o e : List Int) (i k : Nat) : Int := (gi o (i + 1) - gi o i) * (gi e (k + 1) - gi e k)
def coefAt (o e : List Int) (r : List (List Int)) (i k : Nat) (x y : Int) : Int := num o e r i k x y / den o e i k

open Classical in
noncomputable def cellOf (l : List Int) (x : Int) : Nat := if h : ∃ i, InCell l x i then Classical.choose h else 0
/-- A slope as it counts. -/
def clip (l : List Int) (x : Int) : Int := max x (gi l 0)
def above (l : List Int) (x : Int) : Prop := gi l (l.length - 1) < x
instance (l : List Int) (x : Int) : Decidable (above l x) := by unfold above; infer_instance
/-- The coefficient of the document. -/
noncomputable def coefV (o e : List Int) (r : List (List Int)) (x y : Int) : Int :=
  if above o x ∨ above e y then 0 else coefAt o e r (cellOf o (clip o x)) (cellOf e (clip e y)) (clip o x) (clip e y)
end Go.Proofs.Ytgphkfonjfdifaa

namespace Go.Proofs.Ytgphkfonjfdifaa
set_option linter.unusedVariables false
set_option linter.unusedSimpArgs false
/-- What remains of r after n years. -/
def agV (r keep : Int) : Nat → Int
  | 0 => r
  | n + 1 => agV r keep n * keep / 1000
/-- The first of n years at whose start less than least remains. -/
def dueIx (r keep least : Int) : Nat → Option Nat
  | 0 => none
  | n + 1 => match dueIx r keep least n with
    | some y => some y
    | none => if agV r keep n < least then some n else none
/-- Measures, readings, spans: pairs. -/
def gp (l : List (Int × Int)) (i : Nat) : Int × Int := l.getD i (0, 0)
def MeasOk (l : List (Int × Int)) (i : Nat) : Prop := 0 ≤ (gp l i).1 ∧ (gp l i).1 ≤ 100000 ∧ 0 ≤ (gp l i).2 ∧ (gp l i).2 ≤ 100000 ∧ (i = 0 ∨ (gp l (i - 1)).1 < (gp l i).1)
/-- The index of the last of the first k measures that is not later than the day. -/
def lastIx (l : List (Int × Int)) (day : Int) : Nat → Nat
  | 0 => 0
  | k + 1 => if (gp l k).1 ≤ day then k else lastIx l day k
/-! ### Instruments -/
/-! ### Boxes -/
/-- (b - a) x (c - b). -/
def turnV (ax ay bx by' cx cy : Int) : Int := (bx - ax) * (cy - by') - (by' - ay) * (cx - bx)
end Go.Proofs.Ytgphkfonjfdifaa

namespace Go.Proofs.Ytgphkfonjfdifaa
set_option linter.unusedVariables false
set_option linter.unusedSimpArgs false
open Go.RowKit

/-- least ≤ n ≤ most, as a Bool. -/
def btw (n a b : Int) : Bool := decide (a ≤ n) && decide (n ≤ b)
theorem btw_iff (n a b : Int) : btw n a b = true ↔ a ≤ n ∧ n ≤ b := by simp [btw]
theorem btw_false (n a b : Int) : btw n a b = false ↔ ¬ (a ≤ n ∧ n ≤ b) := by rw [← btw_iff]; simp
theorem btw_t {n a b : Int} (h1 : a ≤ n) (h2 : n ≤ b) : btw n a b = true := (btw_iff _ _ _).2 ⟨h1, h2⟩
theorem btw_f {n a b : Int} (h : ¬ (a ≤ n ∧ n ≤ b)) : btw n a b = false := (btw_false _ _ _).2 h

theorem block_lt {w : World} {b o : Nat} {v : Value} (h : w.cell? ⟨b, o, none⟩ = some v) : b < w.heap.size := by
  apply Nat.lt_of_not_le
  intro hle
  simp [World.cell?, Array.getElem?_eq_none hle] at h
theorem cell_below {w w' : World} {b o : Nat} {v : Value} (h : w.cell? ⟨b, o, none⟩ = some v) (hb : Below w.heap.size w w') : w'.cell? ⟨b, o, none⟩ = some v := (hb.cell (p := ⟨b, o, none⟩) (block_lt h)).trans h
def I64 (x : Int) : Prop := -9223372036854775808 ≤ x ∧ x ≤ 9223372036854775807
/-- A slice of ints. -/
def IntsS (w : World) (a : Option Addr) (l : List Int) : Prop :=
  l.length ≤ 9223372036854775807 ∧ (∀ i, i < l.length → I64 (gi l i)) ∧ ∃ blk off, (l ≠ [] → a = some ⟨blk, off, none⟩) ∧ ∀ i, i < l.length → w.cell? ⟨blk, off + i, none⟩ = some (.int .i64 (gi l i))
theorem IntsS.below {w w' : World} {a : Option Addr} {l : List Int} (h : IntsS w a l) (hb : Below w.heap.size w w') : IntsS w' a l := by
  obtain ⟨h0, h1, blk, off, h2, h3⟩ := h
  exact ⟨h0, h1, blk, off, h2, fun i hi => by rw [hb.cell (p := ⟨blk, off + i, none⟩) (block_lt (h3 i hi))]; exact h3 i hi⟩
/-- A slice of pairs of ints. -/
def PairsS (w : World) (a : Option Addr) (l : List (Int × Int)) : Prop :=
  l.length ≤ 9223372036854775807 ∧ (∀ i, i < l.length → I64 (gp l i).1 ∧ I64 (gp l i).2) ∧ ∃ blk off, (l ≠ [] → a = some ⟨blk, off, none⟩) ∧ ∀ i, i < l.length → w.cell? ⟨blk, off + i * 2, none⟩ = some (.int .i64 (gp l i).1) ∧ w.cell? ⟨blk, off + i * 2 + 1, none⟩ = some (.int .i64 (gp l i).2)
theorem PairsS.below {w w' : World} {a : Option Addr} {l : List (Int × Int)} (h : PairsS w a l) (hb : Below w.heap.size w w') : PairsS w' a l := by
  obtain ⟨h0, h1, blk, off, h2, h3⟩ := h
  exact ⟨h0, h1, blk, off, h2, fun i hi => by
    have hx := h3 i hi
    rw [hb.cell (p := ⟨blk, off + i * 2, none⟩) (block_lt hx.1), hb.cell (p := ⟨blk, off + i * 2 + 1, none⟩) (block_lt hx.2)]; exact hx⟩
/-- A slice of slices of ints. -/
def RowsS (w : World) (a : Option Addr) (r : List (List Int)) : Prop :=
  r.length ≤ 9223372036854775807 ∧ ∃ (blk off : Nat) (ad : Nat → Option Addr) (cp : Nat → Nat), (r ≠ [] → a = some ⟨blk, off, none⟩) ∧ ∀ i, i < r.length → w.cell? ⟨blk, off + i, none⟩ = some (.slice (ad i) (gr r i).length (cp i)) ∧ IntsS w (ad i) (gr r i) ∧ (gr r i).length ≤ cp i
theorem RowsS.below {w w' : World} {a : Option Addr} {r : List (List Int)} (h : RowsS w a r) (hb : Below w.heap.size w w') : RowsS w' a r := by
  obtain ⟨h0, blk, off, ad, cp, h2, h3⟩ := h
  exact ⟨h0, blk, off, ad, cp, h2, fun i hi => by
    have hx := h3 i hi
    rw [hb.cell (p := ⟨blk, off + i, none⟩) (block_lt hx.1)]; exact ⟨hx.1, hx.2.1.below hb, hx.2.2⟩⟩
/-- The three lists of a table. -/
def TableS (w : World) (ao ae ar : Option Addr) (o e : List Int) (r : List (List Int)) : Prop := IntsS w ao o ∧ IntsS w ae e ∧ RowsS w ar r
theorem TableS.below {w w' : World} {ao ae ar : Option Addr} {o e : List Int} {r : List (List Int)} (h : TableS w ao ae ar o e r) (hb : Below w.heap.size w w') : TableS w' ao ae ar o e r :=
  ⟨h.1.below hb, h.2.1.below hb, h.2.2.below hb⟩
end Go.Proofs.Ytgphkfonjfdifaa

namespace Go.Proofs.Ytgphkfonjfdifaa
set_option linter.unusedVariables false
set_option linter.unusedSimpArgs false

/-- Whether one of the first k holidays is d. -/
def holK (l : List Int) (d : Int) : Nat → Bool
  | 0 => false
  | k + 1 => holK l d k || decide (gi l k = d)
def hol (l : List Int) (d : Int) : Bool := holK l d l.length
/-- How many of the first k holidays are before d. -/
def cntK (l : List Int) (d : Int) : Nat → Int
  | 0 => 0
  | k + 1 => cntK l d k + if gi l k < d then 1 else 0
def cnt (l : List Int) (d : Int) : Int := cntK l d l.length
theorem holK_iff {l : List Int} {d : Int} : ∀ k, holK l d k = true ↔ ∃ j, j < k ∧ gi l j = d
  | 0 => by simp [holK]
  | k + 1 => by
    rw [holK, Bool.or_eq_true, holK_iff k, decide_eq_true_iff]
    constructor
    · rintro (⟨j, hj, h⟩ | h)
      · exact ⟨j, by omega, h⟩
      · exact ⟨k, by omega, h⟩
    · rintro ⟨j, hj, h⟩
      by_cases e : j = k
      · subst e; exact .inr h
      · exact .inl ⟨j, by omega, h⟩
theorem holK_false {l : List Int} {d : Int} {k : Nat} : holK l d k = false ↔ ∀ j, j < k → gi l j ≠ d := by
  rw [Bool.eq_false_iff, ne_eq, holK_iff]
  constructor
  · intro h j hj e; exact h ⟨j, hj, e⟩
  · rintro h ⟨j, hj, e⟩; exact h j hj e
theorem hol_iff {l : List Int} {d : Int} : hol l d = true ↔ ∃ j, j < l.length ∧ gi l j = d := holK_iff _
theorem hol_false {l : List Int} {d : Int} : hol l d = false ↔ ∀ j, j < l.length → gi l j ≠ d := holK_false
theorem cntK_bd (l : List Int) (d : Int) : ∀ k, 0 ≤ cntK l d k ∧ cntK l d k ≤ k
  | 0 => by simp [cntK]
  | k + 1 => by have := cntK_bd l d k; rw [cntK]; split <;> omega
/-- Strictly ascending. -/
def Asc (l : List Int) : Prop := ∀ i j, i < j → j < l.length → gi l i < gi l j
theorem cntK_at {l : List Int} {d : Int} {i : Nat} (hb : ∀ j, j < i → gi l j < d) : ∀ k, k ≤ i → cntK l d k = k
  | 0, _ => rfl
  | k + 1, hk => by rw [cntK, cntK_at hb k (by omega), if_pos (hb k (by omega))]; omega
theorem cntK_stay {l : List Int} {d : Int} {i : Nat} (hb : ∀ j, j < i → gi l j < d) : ∀ k, i ≤ k → (∀ j, i ≤ j → j < k → ¬ gi l j < d) → cntK l d k = i
  | 0, hk, _ => by rw [show i = 0 by omega]; rfl
  | k + 1, hk, ha => by
    by_cases e : i = k + 1
    · subst e; exact cntK_at hb _ (Nat.le_refl _)
    · rw [cntK, cntK_stay hb k (by omega) (fun j h1 h2 => ha j h1 (by omega)), if_neg (ha k (by omega) (by omega))]; omega
/-- A place with lesser ones in front and no lesser ones behind is the count. -/
theorem cnt_at {l : List Int} {d : Int} {i : Nat} (hi : i ≤ l.length) (hb : ∀ j, j < i → gi l j < d) (ha : ∀ j, i ≤ j → j < l.length → ¬ gi l j < d) : cnt l d = i := cntK_stay hb _ hi ha
theorem hol_at {l : List Int} {d : Int} {i : Nat} (hA : Asc l) (hi : i ≤ l.length) (hb : ∀ j, j < i → gi l j < d) (ha : ∀ j, i ≤ j → j < l.length → ¬ gi l j < d) : hol l d = (decide (i < l.length) && decide (gi l i = d)) := by
  rw [Bool.eq_iff_iff, hol_iff, Bool.and_eq_true, decide_eq_true_iff, decide_eq_true_iff]
  constructor
  · rintro ⟨j, hj, h⟩
    by_cases h1 : j < i
    · have := hb j h1; omega
    · by_cases e : j = i
      · subst e; exact ⟨hj, h⟩
      · have h2 := hA i j (by omega) hj
        have h3 := ha i (by omega) (by omega)
        omega
  · rintro ⟨h1, h2⟩; exact ⟨i, h1, h2⟩
theorem cnt_bd (l : List Int) (d : Int) : 0 ≤ cnt l d ∧ cnt l d ≤ l.length := cntK_bd l d _
theorem cntK_succ {l : List Int} (hA : Asc l) (d : Int) : ∀ k, k ≤ l.length → cntK l (d + 1) k = cntK l d k + if holK l d k then 1 else 0
  | 0, _ => by simp [cntK, holK]
  | k + 1, hk => by
    rw [cntK, cntK, cntK_succ hA d k (by omega), holK]
    by_cases e : gi l k = d
    · have h0 : holK l d k = false := holK_false.2 fun j hj h => by have := hA j k hj (by omega); omega
      have h3 : d < d + 1 := by omega
      rw [h0, e]; simp [h3]
    · by_cases h1 : gi l k < d
      · have h2 : gi l k < d + 1 := by omega
        simp [e, h1, h2]; omega
      · have h2 : ¬ gi l k < d + 1 := by omega
        simp [e, h1, h2]
theorem cnt_succ {l : List Int} (hA : Asc l) (d : Int) : cnt l (d + 1) = cnt l d + if hol l d then 1 else 0 := cntK_succ hA d _ (Nat.le_refl _)
theorem cntK_zero {l : List Int} : ∀ k, (∀ j, j < k → 0 ≤ gi l j) → cntK l 0 k = 0
  | 0, _ => rfl
  | k + 1, h => by rw [cntK, cntK_zero k (fun j hj => h j (by omega)), if_neg (by have := h k (by omega); omega)]; rfl
theorem cnt_le {l : List Int} (hA : Asc l) (h0 : ∀ j, j < l.length → 0 ≤ gi l j) : ∀ n : Nat, cnt l n ≤ n
  | 0 => by rw [show ((0 : Nat) : Int) = 0 from rfl]; unfold cnt; rw [cntK_zero _ h0]; exact Int.le_refl _
  | n + 1 => by have := cnt_le hA h0 n; rw [show ((n + 1 : Nat) : Int) = (n : Int) + 1 by omega, cnt_succ hA]; split <;> omega

/-- A step of m minutes from t on is within a shift. -/
def InSh (O C : Int) (l : List Int) (t m : Int) : Prop := hol l (t / 1440) = false ∧ O ≤ t % 1440 ∧ t % 1440 + m ≤ C
/-- x is the next start. -/
def IsNext (O C : Int) (l : List Int) (t m x : Int) : Prop := t ≤ x ∧ InSh O C l x m ∧ ∀ y, t ≤ y → y < x → ¬ InSh O C l y m
theorem IsNext.unique {O C : Int} {l : List Int} {t m x y : Int} (h : IsNext O C l t m x) (g : IsNext O C l t m y) : x = y := by
  rcases Int.lt_trichotomy x y with e | e | e
  · exact absurd h.2.1 (g.2.2 x h.1 e)
  · exact e
  · exact absurd g.2.1 (h.2.2 y g.1 e)
/-- No start from t on before x. -/
def NoSh (O C : Int) (l : List Int) (t m x : Int) : Prop := ∀ y, t ≤ y → y < x → ¬ InSh O C l y m
/-- The first place of a day that a step from t on can take. -/
def stDay (O t d : Int) : Int := max t (1440 * d + O)
theorem stDay_bd {O t d : Int} (o0 : 0 ≤ O) (o1 : O < 1440) (h0 : t < 1440 * (d + 1)) : 1440 * d ≤ stDay O t d ∧ stDay O t d < 1440 * (d + 1) ∧ t ≤ stDay O t d ∧ 1440 * d + O ≤ stDay O t d := by
  unfold stDay; omega
theorem next_hit {O C : Int} {l : List Int} {t m d : Int} (o0 : 0 ≤ O) (o1 : O < 1440) (h0 : t < 1440 * (d + 1)) (hn : NoSh O C l t m (1440 * d)) (hs : InSh O C l (stDay O t d) m) : IsNext O C l t m (stDay O t d) := by
  refine ⟨by unfold stDay; omega, hs, fun y hy hlt hi => ?_⟩
  by_cases h : y < 1440 * d
  · exact hn y hy h hi
  · have e1 : y / 1440 = d := by unfold stDay at hlt; omega
    have := hi.2.1
    unfold stDay at hlt
    omega
theorem next_miss {O C : Int} {l : List Int} {t m d : Int} (o0 : 0 ≤ O) (o1 : O < 1440) (h0 : t < 1440 * (d + 1)) (hn : NoSh O C l t m (1440 * d)) (hs : ¬ InSh O C l (stDay O t d) m) : NoSh O C l t m (1440 * (d + 1)) := by
  intro y hy hlt hi
  by_cases h : y < 1440 * d
  · exact hn y hy h hi
  · have e1 : y / 1440 = d := by omega
    have e2 : stDay O t d / 1440 = d := by unfold stDay; omega
    refine hs ⟨?_, ?_, ?_⟩
    · rw [e2, ← e1]; exact hi.1
    · unfold stDay; omega
    · have h1 := hi.2.1
      have h2 := hi.2.2
      unfold stDay
      omega
theorem next_late {O C : Int} {l : List Int} {t m d : Int} (o0 : 0 ≤ O) (oc : O < C) (o1 : C ≤ 1440) (hm : m ≤ C - O) (hh : hol l d = false) (h0 : t ≤ 1440 * d) : InSh O C l (stDay O t d) m := by
  have e : stDay O t d = 1440 * d + O := by unfold stDay; omega
  rw [e]
  refine ⟨?_, by omega, by omega⟩
  rw [show (1440 * d + O) / 1440 = d by omega]
  exact hh
theorem hol_late {l : List Int} (h : ∀ j, j < l.length → gi l j ≤ 10000) {d : Int} (hd : 10000 < d) : hol l d = false := hol_false.2 fun j hj e => by have := h j hj; omega
open Classical in
noncomputable def nextV (O C : Int) (l : List Int) (t m : Int) : Int := if h : ∃ x, IsNext O C l t m x then h.choose else 0
theorem nextV_eq {O C : Int} {l : List Int} {t m x : Int} (h : IsNext O C l t m x) : nextV O C l t m = x := by
  unfold nextV
  rw [dif_pos ⟨x, h⟩]
  exact IsNext.unique (Exists.choose_spec (⟨x, h⟩ : ∃ x, IsNext O C l t m x)) h

/-- The open minutes of the days before d. -/
def preB (O C : Int) (l : List Int) (d : Int) : Int := (d - cnt l d) * (C - O)
theorem preB_succ {O C : Int} {l : List Int} (hA : Asc l) (d : Int) : preB O C l (d + 1) = preB O C l d + if hol l d then 0 else (C - O) := by
  unfold preB
  rw [cnt_succ hA]
  split
  · rw [show d + 1 - (cnt l d + 1) = d - cnt l d by omega, Int.add_zero]
  · rw [show d + 1 - (cnt l d + 0) = (d - cnt l d) + 1 by omega, Int.add_mul, Int.one_mul]
/-- The open minutes before t. -/
def opnB (O C : Int) (l : List Int) (t : Int) : Int := preB O C l (t / 1440) + if hol l (t / 1440) then 0 else min (max (t % 1440 - O) 0) (C - O)
/-- What a day has from a to less than b. -/
def dayB (O C : Int) (l : List Int) (d a b : Int) : Int := if hol l d then 0 else max 0 (min b (1440 * d + C) - max a (1440 * d + O))
theorem opnB_day {O C : Int} {l : List Int} (hA : Asc l) (o0 : 0 ≤ O) (oc : O < C) (o1 : C ≤ 1440) {d t : Int} (h0 : 1440 * d ≤ t) (h1 : t ≤ 1440 * (d + 1)) :
    opnB O C l t = preB O C l d + if hol l d then 0 else min (max (t - 1440 * d - O) 0) (C - O) := by
  by_cases e : t = 1440 * (d + 1)
  · have e1 : t / 1440 = d + 1 := by omega
    have e2 : t % 1440 = 0 := by omega
    unfold opnB
    rw [e1, e2, preB_succ hA]
    have z : min (max ((0 : Int) - O) 0) (C - O) = 0 := by omega
    rw [z]
    have y : min (max (t - 1440 * d - O) 0) (C - O) = C - O := by omega
    rw [y]
    split <;> split <;> omega
  · have e1 : t / 1440 = d := by omega
    have e2 : t % 1440 = t - 1440 * d := by omega
    unfold opnB
    rw [e1, e2]
theorem opnB_succ {O C : Int} {l : List Int} (hA : Asc l) (o0 : 0 ≤ O) (oc : O < C) (o1 : C ≤ 1440) (t : Int) : opnB O C l t ≤ opnB O C l (t + 1) ∧ opnB O C l (t + 1) ≤ opnB O C l t + 1 := by
  rw [opnB_day hA o0 oc o1 (d := t / 1440) (t := t) (by omega) (by omega), opnB_day hA o0 oc o1 (d := t / 1440) (t := t + 1) (by omega) (by omega)]
  split <;> omega
theorem opnB_mono {O C : Int} {l : List Int} (hA : Asc l) (o0 : 0 ≤ O) (oc : O < C) (o1 : C ≤ 1440) {a b : Int} (h : a ≤ b) : opnB O C l a ≤ opnB O C l b := by
  have key : ∀ n : Nat, opnB O C l a ≤ opnB O C l (a + n) := by
    intro n
    induction n with
    | zero => simp
    | succ n ih => have := (opnB_succ hA o0 oc o1 (a + n)).1; rw [show a + ((n + 1 : Nat) : Int) = a + n + 1 by omega]; omega
  have := key (b - a).toNat
  rwa [show a + ((b - a).toNat : Int) = b by omega] at this
theorem cnt_hol {l : List Int} (hA : Asc l) (d : Int) : cnt l d + (if hol l d then 1 else 0) ≤ l.length := by
  rw [← cnt_succ hA]; exact (cnt_bd l (d + 1)).2
theorem opnB_reach {O C : Int} {l : List Int} (hA : Asc l) (o0 : 0 ≤ O) (oc : O < C) (o1 : C ≤ 1440) (t : Int) (m : Nat) :
    opnB O C l t + m ≤ opnB O C l (t + 1440 * (m + l.length)) := by
  obtain ⟨n, hn⟩ : ∃ n : Int, (m : Int) + l.length = n := ⟨_, rfl⟩
  rw [hn]
  have e1 : (t + 1440 * n) / 1440 = t / 1440 + n := by omega
  have e2 : (t + 1440 * n) % 1440 = t % 1440 := by omega
  have c1 := cnt_hol hA (t / 1440 + n)
  have c0 := (cnt_bd l (t / 1440)).1
  unfold opnB
  rw [e1, e2]
  unfold preB
  have hp : (t / 1440 + n - cnt l (t / 1440 + n)) * (C - O) = (t / 1440 - cnt l (t / 1440)) * (C - O) + (n - cnt l (t / 1440 + n) + cnt l (t / 1440)) * (C - O) := by
    rw [← Int.add_mul]; congr 1; omega
  rw [hp]
  have hm0 : (0 : Int) ≤ m := by omega
  have k1 : (m : Int) * 1 ≤ m * (C - O) := Int.mul_le_mul_of_nonneg_left (by omega) hm0
  cases h1 : hol l (t / 1440 + n) with
  | true =>
    rw [h1] at c1
    simp only [if_true] at c1 ⊢
    have k2 : ((m : Int) + 1) * (C - O) ≤ (n - cnt l (t / 1440 + n) + cnt l (t / 1440)) * (C - O) := Int.mul_le_mul_of_nonneg_right (by omega) (by omega)
    rw [Int.add_mul, Int.one_mul] at k2
    split <;> omega
  | false =>
    rw [h1] at c1
    simp only [Bool.false_eq_true, if_false] at c1 ⊢
    have k2 : (m : Int) * (C - O) ≤ (n - cnt l (t / 1440 + n) + cnt l (t / 1440)) * (C - O) := Int.mul_le_mul_of_nonneg_right (by omega) (by omega)
    split <;> omega

/-- x is the least time from t on up to which m minutes are open. -/
def IsAft (O C : Int) (l : List Int) (t m x : Int) : Prop := t ≤ x ∧ opnB O C l t + m ≤ opnB O C l x ∧ ∀ y, t ≤ y → y < x → opnB O C l y < opnB O C l t + m
theorem IsAft.unique {O C : Int} {l : List Int} {t m x y : Int} (h : IsAft O C l t m x) (g : IsAft O C l t m y) : x = y := by
  rcases Int.lt_trichotomy x y with e | e | e
  · have := g.2.2 x h.1 e; have := h.2.1; omega
  · exact e
  · have := h.2.2 y g.1 e; have := g.2.1; omega
theorem IsAft.exact {O C : Int} {l : List Int} (hA : Asc l) (o0 : 0 ≤ O) (oc : O < C) (o1 : C ≤ 1440) {t m x : Int} (h0 : 0 ≤ m) (h : IsAft O C l t m x) : opnB O C l x = opnB O C l t + m := by
  by_cases e : x = t
  · subst e; have := h.2.1; omega
  · have h1 := h.2.2 (x - 1) (by have := h.1; omega) (by omega)
    have h2 := (opnB_succ (O := O) (C := C) hA o0 oc o1 (x - 1)).2
    rw [show x - 1 + 1 = x by omega] at h2
    have := h.2.1
    omega
open Classical in
noncomputable def aftV (O C : Int) (l : List Int) (t m : Int) : Int := if h : ∃ x, IsAft O C l t m x then h.choose else 0
theorem aftV_eq {O C : Int} {l : List Int} {t m x : Int} (h : IsAft O C l t m x) : aftV O C l t m = x := by
  unfold aftV
  rw [dif_pos ⟨x, h⟩]
  exact IsAft.unique (Exists.choose_spec (⟨x, h⟩ : ∃ x, IsAft O C l t m x)) h
/-- The least n at which a test that stays true is true. -/
theorem least_nat (p : Nat → Prop) : ∀ n, p n → ∃ k, k ≤ n ∧ p k ∧ ∀ j, j < k → ¬ p j
  | 0, h => ⟨0, Nat.le_refl _, h, fun j hj => absurd hj (Nat.not_lt_zero _)⟩
  | n + 1, h => by
    by_cases g : ∃ j, j ≤ n ∧ p j
    · obtain ⟨j, hj, hp⟩ := g
      obtain ⟨k, h1, h2, h3⟩ := least_nat (fun i => p (min i j)) n (by rw [Nat.min_eq_right hj]; exact hp)
      by_cases e : k ≤ j
      · rw [Nat.min_eq_left e] at h2
        exact ⟨k, by omega, h2, fun i hi => by have := h3 i hi; rwa [Nat.min_eq_left (by omega)] at this⟩
      · have := h3 j (by omega)
        rw [Nat.min_self] at this
        exact absurd hp this
    · exact ⟨n + 1, Nat.le_refl _, h, fun j hj hp => g ⟨j, by omega, hp⟩⟩
theorem aft_exists {O C : Int} {l : List Int} (hA : Asc l) (o0 : 0 ≤ O) (oc : O < C) (o1 : C ≤ 1440) (t : Int) (m : Nat) :
    ∃ k : Nat, IsAft O C l t m (t + k) ∧ (k : Int) ≤ 1440 * (m + l.length) := by
  have hr := opnB_reach hA o0 oc o1 t m
  obtain ⟨k, h1, h2, h3⟩ := least_nat (fun k => opnB O C l t + m ≤ opnB O C l (t + k)) (1440 * (m + l.length)) (by
    rw [show t + ((1440 * (m + l.length) : Nat) : Int) = t + 1440 * ((m : Int) + l.length) by omega]; exact hr)
  refine ⟨k, ⟨by omega, h2, fun y hy hlt => ?_⟩, by omega⟩
  have := h3 (y - t).toNat (by omega)
  rw [show t + ((y - t).toNat : Int) = y by omega] at this
  omega
theorem aft_of {O C : Int} {l : List Int} (hA : Asc l) (o0 : 0 ≤ O) (oc : O < C) (o1 : C ≤ 1440) {t : Int} {m n : Nat} (h1 : n ≤ 1440 * (m + l.length)) (hlo : ∀ j, j < n → opnB O C l (t + j) < opnB O C l t + m) (hhi : n < 1440 * (m + l.length) → opnB O C l t + m ≤ opnB O C l (t + n)) : IsAft O C l t m (t + n) := by
  refine ⟨by omega, ?_, fun y hy hlt => ?_⟩
  · by_cases e : n < 1440 * (m + l.length)
    · exact hhi e
    · have := opnB_reach hA o0 oc o1 t m
      rw [show t + (n : Int) = t + 1440 * ((m : Int) + l.length) by omega]; exact this
  · have := hlo (y - t).toNat (by omega)
    rwa [show t + ((y - t).toNat : Int) = y by omega] at this
theorem opnB_bd {O C : Int} {l : List Int} (hA : Asc l) (hp : ∀ j, j < l.length → 0 ≤ gi l j) (o0 : 0 ≤ O) (oc : O < C) (o1 : C ≤ 1440) {t : Int} (h : 0 ≤ t) : 0 ≤ opnB O C l t ∧ opnB O C l t ≤ t + 1440 := by
  have h1 := opnB_mono (O := O) (C := C) hA o0 oc o1 h
  have z : opnB O C l 0 = 0 := by
    unfold opnB preB
    have : cnt l 0 = 0 := cntK_zero _ hp
    rw [show (0 : Int) / 1440 = 0 by decide, show (0 : Int) % 1440 = 0 by decide, this, show (0 : Int) - 0 = 0 by decide, Int.zero_mul]
    split <;> omega
  refine ⟨by omega, ?_⟩
  have key : ∀ n : Nat, opnB O C l (0 + n) ≤ 0 + n := by
    intro n
    induction n with
    | zero => simp [z]
    | succ n ih => have := (opnB_succ (O := O) (C := C) hA o0 oc o1 (0 + n)).2; rw [show (0 : Int) + ((n + 1 : Nat) : Int) = 0 + n + 1 by omega]; omega
  have := key t.toNat
  rw [show (0 : Int) + (t.toNat : Int) = t by omega] at this
  omega
theorem preB_bd {O C : Int} {l : List Int} (hA : Asc l) (hp : ∀ j, j < l.length → 0 ≤ gi l j) (oc : O < C) (o1 : C ≤ 1440) (o0 : 0 ≤ O) {d : Int} (h : 0 ≤ d) : 0 ≤ d - cnt l d ∧ 0 ≤ preB O C l d ∧ preB O C l d ≤ 1440 * d := by
  have c := cnt_le hA hp d.toNat
  rw [show (d.toNat : Int) = d by omega] at c
  have c0 := (cnt_bd l d).1
  refine ⟨by omega, Int.mul_nonneg (by omega) (by omega), ?_⟩
  unfold preB
  have e1 : (d - cnt l d) * (C - O) ≤ d * (C - O) := Int.mul_le_mul_of_nonneg_right (by omega) (by omega)
  have e2 : d * (C - O) ≤ d * 1440 := Int.mul_le_mul_of_nonneg_left (by omega) h
  omega
end Go.Proofs.Ytgphkfonjfdifaa
