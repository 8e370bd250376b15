/-
  Plain mathematics of tables of coefficients: interpolation in two slopes, which never grows. By an AI agent.; Plain mathematics of ageing, of instruments and of boxes. By an AI agent.; Lists of ints, of pairs of ints, and rows of ints in memory; the walks of between and within. By an AI agent.; Whether one of n elements is such, and the first of them. By an AI agent.; Small functions of package rule and of its reference: within, isTime, isDir, isHour, isTopic, valueValid. By an AI agent.
-/
import Derived.Test.YtneafbhiencjlaaGreatDoorProg
import Derived.WalkKit
import Derived.WalkSpells
import Derived.WalkLawsBesides
import Derived.Handy
import Derived.Lib.Hide
import Derived.IntWalk
import Derived.Deep.QuietTactic
import Derived.BigQuiet
import Derived.Deep.RegionHeld3

namespace Go.Proofs.YtneafbhiencjlaaGreatDoor
set_option linter.unusedVariables false
set_option linter.unusedSimpArgs false
/-- The element at an index, 0 outside. -/
def gi (l : List Int) (i : Nat) : Int := l.getD i 0
def gr (r : List (List Int)) (i : Nat) : List Int := r.getD i []

def okS (l : List Int) (i : Nat) : Prop := 1 ≤ gi l i ∧ gi l i ≤ 1000000 ∧ (i = 0 ∨ gi l (i - 1) < gi l i)
def SlopesOk (l : List Int) : Prop := 2 ≤ l.length ∧ l.length ≤ 6 ∧ ∀ i, i < l.length → okS l i
def CellOk (r : List (List Int)) (i k : Nat) : Prop :=
  0 ≤ gi (gr r i) k ∧ gi (gr r i) k ≤ 100000 ∧ (k = 0 ∨ gi (gr r i) k ≤ gi (gr r i) (k - 1)) ∧ (i = 0 ∨ gi (gr r i) k ≤ gi (gr r (i - 1)) k)
def RowOk (e : List Int) (r : List (List Int)) (i : Nat) : Prop := (gr r i).length = e.length ∧ ∀ k, k < e.length → CellOk r i k
def TableOk (o e : List Int) (r : List (List Int)) : Prop := SlopesOk o ∧ SlopesOk e ∧ r.length = o.length ∧ ∀ i, i < r.length → RowOk e r i

def InCell (l : List Int) (x : Int) (i : Nat) : Prop := i + 1 < l.length ∧ gi l i ≤ x ∧ x ≤ gi l (i + 1)
/-- The coefficient within the cell i, k. -/
def num (o e : List Int) (r : List (List Int)) (i k : Nat) (x y : Int) : Int :=
  gi (gr r i) k * (gi o (i + 1) - x) * (gi e (k + 1) - y) + gi (gr r i) (k + 1) * (gi o (i + 1) - x) * (y - gi e k) +
  gi (gr r (i + 1)) k * (x - gi o i) * (gi e (k + 1) - y) + gi (gr r (i + 1)) (k + 1) * (x - gi o i) * (y - gi e k)
def den (o e : List Int) (i k : Nat) : Int := (gi o (i + 1) - gi o i) * (gi e (k + 1) - gi e k)
def coefAt (o e : List Int) (r : List (List Int)) (i k : Nat) (x y : Int) : Int := num o e r i k x y / den o e i k

open Classical in
noncomputable def cellOf (l : List Int) (x : Int) : Nat := if h : ∃ i, InCell l x i then Classical.choose h else 0
/-- A slope as it counts. -/
def clip (l : List Int) (x : Int) : Int := max x (gi l 0)
def above (l : List Int) (x : Int) : Prop := gi l (l.length - 1) < x
instance (l : List Int) (x : Int) : Decidable (above l x) := by unfold above; infer_instance
/-- The coefficient of the document. -/
noncomputable def coefV (o e : List Int) (r : List (List Int)) (x y : Int) : Int :=
  if above o x ∨ above e y then 0 else coefAt o e r (cellOf o (clip o x)) (cellOf e (clip e y)) (clip o x) (clip e y)
end Go.Proofs.YtneafbhiencjlaaGreatDoor

namespace Go.Proofs.YtneafbhiencjlaaGreatDoor
set_option linter.unusedVariables false
set_option linter.unusedSimpArgs false
/-- What remains of r after n years. -/
def agV (r keep : Int) : Nat → Int
  | 0 => r
  | n + 1 => agV r keep n * keep / 1000
/-- The first of n years at whose start less than least remains. -/
def dueIx (r keep least : Int) : Nat → Option Nat
  | 0 => none
  | n + 1 => match dueIx r keep least n with
    | some y => some y
    | none => if agV r keep n < least then some n else none
/-- Measures, readings, spans: pairs. -/
def gp (l : List (Int × Int)) (i : Nat) : Int × Int := l.getD i (0, 0)
def MeasOk (l : List (Int × Int)) (i : Nat) : Prop := 0 ≤ (gp l i).1 ∧ (gp l i).1 ≤ 100000 ∧ 0 ≤ (gp l i).2 ∧ (gp l i).2 ≤ 100000 ∧ (i = 0 ∨ (gp l (i - 1)).1 < (gp l i).1)
/-- The index of the last of the first k measures that is not later than the day. -/
def lastIx (l : List (Int × Int)) (day : Int) : Nat → Nat
  | 0 => 0
  | k + 1 => if (gp l k).1 ≤ day then k else lastIx l day k
/-! ### Instruments -/
/-! ### Boxes -/
/-- (b - a) x (c - b). -/
def turnV (ax ay bx by' cx cy : Int) : Int := (bx - ax) * (cy - by') - (by' - ay) * (cx - bx)
end Go.Proofs.YtneafbhiencjlaaGreatDoor

namespace Go.Proofs.YtneafbhiencjlaaGreatDoor
set_option linter.unusedVariables false
set_option linter.unusedSimpArgs false
open Go.RowKit

/-- least ≤ n ≤ most, as a Bool. -/
def btw (n a b : Int) : Bool := decide (a ≤ n) && decide (n ≤ b)
theorem btw_iff (n a b : Int) : btw n a b = true ↔ a ≤ n ∧ n ≤ b := by simp [btw]
theorem btw_false (n a b : Int) : btw n a b = false ↔ ¬ (a ≤ n ∧ n ≤ b) := by rw [← btw_iff]; simp
theorem btw_t {n a b : Int} (h1 : a ≤ n) (h2 : n ≤ b) : btw n a b = true := (btw_iff _ _ _).2 ⟨h1, h2⟩
theorem btw_f {n a b : Int} (h : ¬ (a ≤ n ∧ n ≤ b)) : btw n a b = false := (btw_false _ _ _).2 h

theorem block_lt {w : World} {b o : Nat} {v : Value} (h : w.cell? ⟨b, o, none⟩ = some v) : b < w.heap.size := by
  apply Nat.lt_of_not_le
  intro hle
  simp [World.cell?, Array.getElem?_eq_none hle] at h
theorem cell_below {w w' : World} {b o : Nat} {v : Value} (h : w.cell? ⟨b, o, none⟩ = some v) (hb : Below w.heap.size w w') : w'.cell? ⟨b, o, none⟩ = some v := (hb.cell (p := ⟨b, o, none⟩) (block_lt h)).trans h
def I64 (x : Int) : Prop := -9223372036854775808 ≤ x ∧ x ≤ 9223372036854775807
/-- A slice of ints. -/
def IntsS (w : World) (a : Option Addr) (l : List Int) : Prop :=
  l.length ≤ 9223372036854775807 ∧ (∀ i, i < l.length → I64 (gi l i)) ∧ ∃ blk off, (l ≠ [] → a = some ⟨blk, off, none⟩) ∧ ∀ i, i < l.length → w.cell? ⟨blk, off + i, none⟩ = some (.int .i64 (gi l i))
theorem IntsS.below {w w' : World} {a : Option Addr} {l : List Int} (h : IntsS w a l) (hb : Below w.heap.size w w') : IntsS w' a l := by
  obtain ⟨h0, h1, blk, off, h2, h3⟩ := h
  exact ⟨h0, h1, blk, off, h2, fun i hi => by rw [hb.cell (p := ⟨blk, off + i, none⟩) (block_lt (h3 i hi))]; exact h3 i hi⟩
/-- A slice of pairs of ints. -/
def PairsS (w : World) (a : Option Addr) (l : List (Int × Int)) : Prop :=
  l.length ≤ 9223372036854775807 ∧ (∀ i, i < l.length → I64 (gp l i).1 ∧ I64 (gp l i).2) ∧ ∃ blk off, (l ≠ [] → a = some ⟨blk, off, none⟩) ∧ ∀ i, i < l.length → w.cell? ⟨blk, off + i * 2, none⟩ = some (.int .i64 (gp l i).1) ∧ w.cell? ⟨blk, off + i * 2 + 1, none⟩ = some (.int .i64 (gp l i).2)
theorem PairsS.below {w w' : World} {a : Option Addr} {l : List (Int × Int)} (h : PairsS w a l) (hb : Below w.heap.size w w') : PairsS w' a l := by
  obtain ⟨h0, h1, blk, off, h2, h3⟩ := h
  exact ⟨h0, h1, blk, off, h2, fun i hi => by
    have hx := h3 i hi
    rw [hb.cell (p := ⟨blk, off + i * 2, none⟩) (block_lt hx.1), hb.cell (p := ⟨blk, off + i * 2 + 1, none⟩) (block_lt hx.2)]; exact hx⟩
/-- A slice of slices of ints. -/
def RowsS (w : World) (a : Option Addr) (r : List (List Int)) : Prop :=
  r.length ≤ 9223372036854775807 ∧ ∃ (blk off : Nat) (ad : Nat → Option Addr) (cp : Nat → Nat), (r ≠ [] → a = some ⟨blk, off, none⟩) ∧ ∀ i, i < r.length → w.cell? ⟨blk, off + i, none⟩ = some (.slice (ad i) (gr r i).length (cp i)) ∧ IntsS w (ad i) (gr r i) ∧ (gr r i).length ≤ cp i
theorem RowsS.below {w w' : World} {a : Option Addr} {r : List (List Int)} (h : RowsS w a r) (hb : Below w.heap.size w w') : RowsS w' a r := by
  obtain ⟨h0, blk, off, ad, cp, h2, h3⟩ := h
  exact ⟨h0, blk, off, ad, cp, h2, fun i hi => by
    have hx := h3 i hi
    rw [hb.cell (p := ⟨blk, off + i, none⟩) (block_lt hx.1)]; exact ⟨hx.1, hx.2.1.below hb, hx.2.2⟩⟩
/-- The three lists of a table. -/
def TableS (w : World) (ao ae ar : Option Addr) (o e : List Int) (r : List (List Int)) : Prop := IntsS w ao o ∧ IntsS w ae e ∧ RowsS w ar r
theorem TableS.below {w w' : World} {ao ae ar : Option Addr} {o e : List Int} {r : List (List Int)} (h : TableS w ao ae ar o e r) (hb : Below w.heap.size w w') : TableS w' ao ae ar o e r :=
  ⟨h.1.below hb, h.2.1.below hb, h.2.2.below hb⟩
end Go.Proofs.YtneafbhiencjlaaGreatDoor

namespace Go.Proofs.YtneafbhiencjlaaGreatDoor
set_option linter.unusedVariables false
set_option linter.unusedSimpArgs false
/-- Whether one of the first k elements is such. -/
def anyK (p : Nat → Bool) : Nat → Bool
  | 0 => false
  | k + 1 => anyK p k || p k
theorem anyK_false {p : Nat → Bool} : ∀ k, (∀ j, j < k → p j = false) → anyK p k = false
  | 0, _ => rfl
  | k + 1, h => by rw [anyK, anyK_false k (fun j hj => h j (by omega)), h k (by omega)]; rfl
theorem anyK_true {p : Nat → Bool} {j : Nat} (h : p j = true) : ∀ k, j < k → anyK p k = true
  | k + 1, hj => by
    rw [anyK]
    by_cases e : j = k
    · subst e; rw [h, Bool.or_true]
    · rw [anyK_true h k (by omega), Bool.true_or]
theorem anyK_iff {p : Nat → Bool} : ∀ k, anyK p k = false ↔ ∀ j, j < k → p j = false
  | 0 => by simp [anyK]
  | k + 1 => by
    rw [anyK, Bool.or_eq_false_iff, anyK_iff k]
    constructor
    · intro h j hj
      by_cases e : j = k
      · subst e; exact h.2
      · exact h.1 j (by omega)
    · intro h; exact ⟨fun j hj => h j (by omega), h k (by omega)⟩
/-- The place of the first of n elements that is such, or -1. -/
def idxK (p : Nat → Bool) : Nat → Int
  | 0 => -1
  | k + 1 => if idxK p k = -1 then (if p k then (k : Int) else -1) else idxK p k
theorem idxK_any (p : Nat → Bool) : ∀ k, decide (0 ≤ idxK p k) = anyK p k
  | 0 => by simp [idxK, anyK]
  | k + 1 => by
    have ih := idxK_any p k
    rw [idxK, anyK, ← ih]
    have hh : idxK p k = -1 ∨ 0 ≤ idxK p k := by
      clear ih
      induction k with
      | zero => left; rfl
      | succ k ih =>
        rw [idxK]
        rcases ih with h | h
        · rw [if_pos h]; split
          · right; omega
          · left; rfl
        · rw [if_neg (by omega)]; right; exact h
    rcases hh with h | h
    · rw [if_pos h, h]
      cases p k <;> simp
    · rw [if_neg (by omega)]
      simp [h]
theorem idxK_hit {p : Nat → Bool} {k : Nat} (h : p k = true) (hb : ∀ j, j < k → p j = false) : ∀ n, k < n → idxK p n = k
  | n + 1, hn => by
    rw [idxK]
    by_cases e : k = n
    · subst e
      have : idxK p k = -1 := by
        have := idxK_any p k
        rw [anyK_false k hb, decide_eq_false_iff_not] at this
        clear h hn
        induction k with
        | zero => rfl
        | succ k ih =>
          have i2 := ih (fun j hj => hb j (by omega)) (by
            intro h0
            have h1 := idxK_any p k
            rw [anyK_false k (fun j hj => hb j (by omega)), decide_eq_false_iff_not] at h1
            exact h1 h0)
          rw [idxK, i2, if_pos rfl, hb k (by omega)]; rfl
      rw [if_pos this, if_pos h]
    · rw [idxK_hit h hb n (by omega), if_neg (by omega)]
theorem idxK_miss {p : Nat → Bool} : ∀ n, (∀ j, j < n → p j = false) → idxK p n = -1
  | 0, _ => rfl
  | n + 1, h => by rw [idxK, idxK_miss n (fun j hj => h j (by omega)), if_pos rfl, h n (by omega)]; rfl

end Go.Proofs.YtneafbhiencjlaaGreatDoor

namespace Go.Proofs.YtneafbhiencjlaaGreatDoor
set_option linter.unusedVariables false
set_option linter.unusedSimpArgs false
open Go.RowKit

/-- The ends of a span of hours. -/
def timeB (f t : Int) : Bool := decide (0 ≤ f) && decide (f < t) && decide (t ≤ 10000001)
def dirB (d : Int) : Bool := d == 1 || d == -1
def topB (d : Int) : Bool := d == 1 || d == 2
/-- Are there signs of a kind with a value? -/
def valB (k v : Int) : Bool := if k = 1 ∨ k = 6 then btw v 10 200 else if k = 2 ∨ k = 3 ∨ k = 4 ∨ k = 5 then v == 0 else if k = 7 then btw v 1 100000 else if k = 8 then btw v 0 1000 else false
theorem within_r (a b n : Int) (w : World) : Calls Tryz.prog 59 #[.int .i64 a, .int .i64 b, .int .i64 n] w fun e w' => e = .returned (.bool (btw n a b)) ∧ w = w' := by
  by_cases h1 : a ≤ n
  · by_cases h2 : n ≤ b
    · rw [btw_t h1 h2]
      go_enter Tryz.func59, Tryz.ntmps59
      go_wp2
      go_ret
      exact ⟨rfl, rfl⟩
    · rw [btw_f (by omega)]
      go_enter Tryz.func59, Tryz.ntmps59
      go_wp2
      go_ret
      exact ⟨rfl, rfl⟩
  · rw [btw_f (by omega)]
    go_enter Tryz.func59, Tryz.ntmps59
    go_wp2
    go_ret
    exact ⟨rfl, rfl⟩
theorem refWithin_r (a b n : Int) (w : World) : Calls Tryz.prog 51 #[.int .i64 n, .int .i64 a, .int .i64 b] w fun e w' => e = .returned (.bool (btw n a b)) ∧ w = w' := by
  by_cases h1 : a ≤ n
  · by_cases h2 : n ≤ b
    · rw [btw_t h1 h2]
      go_enter Tryz.func51, Tryz.ntmps51
      go_wp2
      go_ret
      exact ⟨rfl, rfl⟩
    · rw [btw_f (by omega)]
      go_enter Tryz.func51, Tryz.ntmps51
      go_wp2
      go_ret
      exact ⟨rfl, rfl⟩
  · rw [btw_f (by omega)]
    go_enter Tryz.func51, Tryz.ntmps51
    go_wp2
    go_ret
    exact ⟨rfl, rfl⟩
theorem isTime_r (f t : Int) (w : World) : Calls Tryz.prog 89 #[.int .i64 f, .int .i64 t] w fun e w' => e = .returned (.bool (timeB f t)) ∧ w = w' := by
  unfold timeB
  by_cases h1 : 0 ≤ f
  · by_cases h2 : f < t
    · by_cases h3 : t ≤ 10000001
      · rw [decide_eq_true h1, decide_eq_true h2, decide_eq_true h3]
        go_enter Tryz.func89, Tryz.ntmps89
        go_wp2
        go_ret
        exact ⟨rfl, rfl⟩

      · rw [decide_eq_true h1, decide_eq_true h2, decide_eq_false h3]
        go_enter Tryz.func89, Tryz.ntmps89
        go_wp2
        go_ret
        exact ⟨rfl, rfl⟩

    · rw [decide_eq_true h1, decide_eq_false h2, Bool.true_and, Bool.false_and]
      go_enter Tryz.func89, Tryz.ntmps89
      go_wp2
      go_ret
      exact ⟨rfl, rfl⟩

  · rw [decide_eq_false h1, Bool.false_and, Bool.false_and]
    go_enter Tryz.func89, Tryz.ntmps89
    go_wp2
    go_ret
    exact ⟨rfl, rfl⟩

theorem refHours_r (f t : Int) (w : World) : Calls Tryz.prog 54 #[.int .i64 f, .int .i64 t] w fun e w' => e = .returned (.bool (timeB f t)) ∧ w = w' := by
  unfold timeB
  by_cases h1 : 0 ≤ f
  · by_cases h2 : f < t
    · by_cases h3 : t ≤ 10000001
      · rw [decide_eq_true h1, decide_eq_true h2, decide_eq_true h3]
        go_enter Tryz.func54, Tryz.ntmps54
        go_wp2
        go_ret
        exact ⟨rfl, rfl⟩

      · rw [decide_eq_true h1, decide_eq_true h2, decide_eq_false h3]
        go_enter Tryz.func54, Tryz.ntmps54
        go_wp2
        go_ret
        exact ⟨rfl, rfl⟩

    · rw [decide_eq_true h1, decide_eq_false h2, Bool.true_and, Bool.false_and]
      go_enter Tryz.func54, Tryz.ntmps54
      go_wp2
      go_ret
      exact ⟨rfl, rfl⟩

  · rw [decide_eq_false h1, Bool.false_and, Bool.false_and]
    go_enter Tryz.func54, Tryz.ntmps54
    go_wp2
    go_ret
    exact ⟨rfl, rfl⟩

theorem isDir_r (d : Int) (w : World) : Calls Tryz.prog 55 #[.int .i64 d] w fun e w' => e = .returned (.bool (dirB d)) ∧ w = w' := by
  by_cases h1 : d = 1
  · subst h1
    rw [show dirB 1 = true from rfl]
    go_enter Tryz.func55, Tryz.ntmps55
    go_wp2
    go_ret
    exact ⟨rfl, rfl⟩
  · by_cases h2 : d = (-1)
    · subst h2
      rw [show dirB (-1) = true from rfl]
      go_enter Tryz.func55, Tryz.ntmps55
      go_wp2
      go_ret
      exact ⟨rfl, rfl⟩
    · have hv : dirB d = false := by simp [dirB, h1, h2]
      rw [hv]
      have e1 : (d == 1) = false := by simpa using h1
      have e2 : (d == (-1)) = false := by simpa using h2
      clear h1 h2 hv
      go_enter Tryz.func55, Tryz.ntmps55
      go_wp2
      go_ret
      exact ⟨rfl, rfl⟩
theorem refDir_r (d : Int) (w : World) : Calls Tryz.prog 53 #[.int .i64 d] w fun e w' => e = .returned (.bool (dirB d)) ∧ w = w' := by
  by_cases h1 : d = 1
  · subst h1
    rw [show dirB 1 = true from rfl]
    go_enter Tryz.func53, Tryz.ntmps53
    go_wp2
    go_ret
    exact ⟨rfl, rfl⟩
  · by_cases h2 : d = (-1)
    · subst h2
      rw [show dirB (-1) = true from rfl]
      go_enter Tryz.func53, Tryz.ntmps53
      go_wp2
      go_ret
      exact ⟨rfl, rfl⟩
    · have hv : dirB d = false := by simp [dirB, h1, h2]
      rw [hv]
      have e1 : (d == 1) = false := by simpa using h1
      have e2 : (d == (-1)) = false := by simpa using h2
      clear h1 h2 hv
      go_enter Tryz.func53, Tryz.ntmps53
      go_wp2
      go_ret
      exact ⟨rfl, rfl⟩
theorem isTopic_r (d : Int) (w : World) : Calls Tryz.prog 56 #[.int .i64 d] w fun e w' => e = .returned (.bool (topB d)) ∧ w = w' := by
  by_cases h1 : d = 1
  · subst h1
    rw [show topB 1 = true from rfl]
    go_enter Tryz.func56, Tryz.ntmps56
    go_wp2
    go_ret
    exact ⟨rfl, rfl⟩
  · by_cases h2 : d = 2
    · subst h2
      rw [show topB 2 = true from rfl]
      go_enter Tryz.func56, Tryz.ntmps56
      go_wp2
      go_ret
      exact ⟨rfl, rfl⟩
    · have hv : topB d = false := by simp [topB, h1, h2]
      rw [hv]
      have e1 : (d == 1) = false := by simpa using h1
      have e2 : (d == 2) = false := by simpa using h2
      clear h1 h2 hv
      go_enter Tryz.func56, Tryz.ntmps56
      go_wp2
      go_ret
      exact ⟨rfl, rfl⟩
theorem isHour_r (h : Int) (w : World) : Calls Tryz.prog 25 #[.int .i64 h] w fun e w' => e = .returned (.bool (btw h 0 10000000)) ∧ w = w' := by
  have HW := Lib.hid (fun W => within_r 0 10000000 h W)
  generalize btw h 0 10000000 = b at *
  go_enter Tryz.func25, Tryz.ntmps25
  go_wp2_with (go_at_call 59; refine (HW.out _).mono ?_; rintro e w' ⟨rfl, rfl⟩)
  go_ret
  exact ⟨rfl, rfl⟩
theorem valueValid_r (k v : Int) (w : World) : Calls Tryz.prog 88 #[.int .i64 k, .int .i64 v] w fun e w' => e = .returned (.bool (valB k v)) ∧ w = w' := by
  have HW := Lib.hid (fun a b W => within_r a b v W)
  by_cases h1 : k = 1
  · subst h1
    rw [show valB 1 v = btw v 10 200 by simp [valB]]
    go_enter Tryz.func88, Tryz.ntmps88
    go_wp2_with (go_at_call 59; refine (HW.out _ _ _).mono ?_; rintro e w' ⟨rfl, rfl⟩)
    go_ret
    exact ⟨rfl, rfl⟩
  by_cases h2 : k = 2
  · subst h2
    rw [show valB 2 v = (v == 0) by simp [valB]]
    go_enter Tryz.func88, Tryz.ntmps88
    go_wp2_with (go_at_call 59; refine (HW.out _ _ _).mono ?_; rintro e w' ⟨rfl, rfl⟩)
    go_ret
    exact ⟨rfl, rfl⟩
  by_cases h3 : k = 3
  · subst h3
    rw [show valB 3 v = (v == 0) by simp [valB]]
    go_enter Tryz.func88, Tryz.ntmps88
    go_wp2_with (go_at_call 59; refine (HW.out _ _ _).mono ?_; rintro e w' ⟨rfl, rfl⟩)
    go_ret
    exact ⟨rfl, rfl⟩
  by_cases h4 : k = 4
  · subst h4
    rw [show valB 4 v = (v == 0) by simp [valB]]
    go_enter Tryz.func88, Tryz.ntmps88
    go_wp2_with (go_at_call 59; refine (HW.out _ _ _).mono ?_; rintro e w' ⟨rfl, rfl⟩)
    go_ret
    exact ⟨rfl, rfl⟩
  by_cases h5 : k = 5
  · subst h5
    rw [show valB 5 v = (v == 0) by simp [valB]]
    go_enter Tryz.func88, Tryz.ntmps88
    go_wp2_with (go_at_call 59; refine (HW.out _ _ _).mono ?_; rintro e w' ⟨rfl, rfl⟩)
    go_ret
    exact ⟨rfl, rfl⟩
  by_cases h6 : k = 6
  · subst h6
    rw [show valB 6 v = btw v 10 200 by simp [valB]]
    go_enter Tryz.func88, Tryz.ntmps88
    go_wp2_with (go_at_call 59; refine (HW.out _ _ _).mono ?_; rintro e w' ⟨rfl, rfl⟩)
    go_ret
    exact ⟨rfl, rfl⟩
  by_cases h7 : k = 7
  · subst h7
    rw [show valB 7 v = btw v 1 100000 by simp [valB]]
    go_enter Tryz.func88, Tryz.ntmps88
    go_wp2_with (go_at_call 59; refine (HW.out _ _ _).mono ?_; rintro e w' ⟨rfl, rfl⟩)
    go_ret
    exact ⟨rfl, rfl⟩
  by_cases h8 : k = 8
  · subst h8
    rw [show valB 8 v = btw v 0 1000 by simp [valB]]
    go_enter Tryz.func88, Tryz.ntmps88
    go_wp2_with (go_at_call 59; refine (HW.out _ _ _).mono ?_; rintro e w' ⟨rfl, rfl⟩)
    go_ret
    exact ⟨rfl, rfl⟩
  rw [show valB k v = false by simp [valB, h1, h2, h3, h4, h5, h6, h7, h8]]
  have e1 : (k == 1) = false := by simpa using h1
  have e2 : (k == 2) = false := by simpa using h2
  have e3 : (k == 3) = false := by simpa using h3
  have e4 : (k == 4) = false := by simpa using h4
  have e5 : (k == 5) = false := by simpa using h5
  have e6 : (k == 6) = false := by simpa using h6
  have e7 : (k == 7) = false := by simpa using h7
  have e8 : (k == 8) = false := by simpa using h8
  clear HW h1 h2 h3 h4 h5 h6 h7 h8
  go_enter Tryz.func88, Tryz.ntmps88
  go_wp2
  go_ret
  exact ⟨rfl, rfl⟩
theorem refValue_r (k v : Int) (w : World) : Calls Tryz.prog 52 #[.int .i64 k, .int .i64 v] w fun e w' => e = .returned (.bool (valB k v)) ∧ w = w' := by
  have HW := Lib.hid (fun a b W => refWithin_r a b v W)
  by_cases h1 : k = 1
  · subst h1
    rw [show valB 1 v = btw v 10 200 by simp [valB]]
    go_enter Tryz.func52, Tryz.ntmps52
    go_wp2_with (go_at_call 51; refine (HW.out _ _ _).mono ?_; rintro e w' ⟨rfl, rfl⟩)
    go_ret
    exact ⟨rfl, rfl⟩
  by_cases h2 : k = 2
  · subst h2
    rw [show valB 2 v = (v == 0) by simp [valB]]
    go_enter Tryz.func52, Tryz.ntmps52
    go_wp2_with (go_at_call 51; refine (HW.out _ _ _).mono ?_; rintro e w' ⟨rfl, rfl⟩)
    go_ret
    exact ⟨rfl, rfl⟩
  by_cases h3 : k = 3
  · subst h3
    rw [show valB 3 v = (v == 0) by simp [valB]]
    go_enter Tryz.func52, Tryz.ntmps52
    go_wp2_with (go_at_call 51; refine (HW.out _ _ _).mono ?_; rintro e w' ⟨rfl, rfl⟩)
    go_ret
    exact ⟨rfl, rfl⟩
  by_cases h4 : k = 4
  · subst h4
    rw [show valB 4 v = (v == 0) by simp [valB]]
    go_enter Tryz.func52, Tryz.ntmps52
    go_wp2_with (go_at_call 51; refine (HW.out _ _ _).mono ?_; rintro e w' ⟨rfl, rfl⟩)
    go_ret
    exact ⟨rfl, rfl⟩
  by_cases h5 : k = 5
  · subst h5
    rw [show valB 5 v = (v == 0) by simp [valB]]
    go_enter Tryz.func52, Tryz.ntmps52
    go_wp2_with (go_at_call 51; refine (HW.out _ _ _).mono ?_; rintro e w' ⟨rfl, rfl⟩)
    go_ret
    exact ⟨rfl, rfl⟩
  by_cases h6 : k = 6
  · subst h6
    rw [show valB 6 v = btw v 10 200 by simp [valB]]
    go_enter Tryz.func52, Tryz.ntmps52
    go_wp2_with (go_at_call 51; refine (HW.out _ _ _).mono ?_; rintro e w' ⟨rfl, rfl⟩)
    go_ret
    exact ⟨rfl, rfl⟩
  by_cases h7 : k = 7
  · subst h7
    rw [show valB 7 v = btw v 1 100000 by simp [valB]]
    go_enter Tryz.func52, Tryz.ntmps52
    go_wp2_with (go_at_call 51; refine (HW.out _ _ _).mono ?_; rintro e w' ⟨rfl, rfl⟩)
    go_ret
    exact ⟨rfl, rfl⟩
  by_cases h8 : k = 8
  · subst h8
    rw [show valB 8 v = btw v 0 1000 by simp [valB]]
    go_enter Tryz.func52, Tryz.ntmps52
    go_wp2_with (go_at_call 51; refine (HW.out _ _ _).mono ?_; rintro e w' ⟨rfl, rfl⟩)
    go_ret
    exact ⟨rfl, rfl⟩
  rw [show valB k v = false by simp [valB, h1, h2, h3, h4, h5, h6, h7, h8]]
  have e1 : (k == 1) = false := by simpa using h1
  have e2 : (k == 2) = false := by simpa using h2
  have e3 : (k == 3) = false := by simpa using h3
  have e4 : (k == 4) = false := by simpa using h4
  have e5 : (k == 5) = false := by simpa using h5
  have e6 : (k == 6) = false := by simpa using h6
  have e7 : (k == 7) = false := by simpa using h7
  have e8 : (k == 8) = false := by simpa using h8
  clear HW h1 h2 h3 h4 h5 h6 h7 h8
  go_enter Tryz.func52, Tryz.ntmps52
  go_wp2
  go_ret
  exact ⟨rfl, rfl⟩
end Go.Proofs.YtneafbhiencjlaaGreatDoor
