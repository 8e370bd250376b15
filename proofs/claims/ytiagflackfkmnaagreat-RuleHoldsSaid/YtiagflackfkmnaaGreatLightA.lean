/-
  Lists of ints, of pairs of ints, and rows of ints in memory; the walks of between and within. By an AI agent.
-/
import Derived.Test.YtiagflackfkmnaaGreatProg
import Derived.WalkKit
import Derived.WalkSpells
import Derived.WalkLawsBesides
import Derived.Handy
import Derived.Lib.Hide
import Derived.IntWalk
import Derived.Deep.QuietTactic
import Derived.BigQuiet
import Derived.Test.YtiagflackfkmnaaGreatLightM
import Derived.Test.YtiagflackfkmnaaGreatLightN
namespace Go.Proofs.YtiagflackfkmnaaGreat
set_option linter.unusedVariables false
set_option linter.unusedSimpArgs false
open Go.RowKit

/-- least ≤ n ≤ most, as a Bool. -/
def btw (n a b : Int) : Bool := decide (a ≤ n) && decide (n ≤ b)
theorem btw_iff (n a b : Int) : btw n a b = true ↔ a ≤ n ∧ n ≤ b := by simp [btw]
theorem btw_false (n a b : Int) : btw n a b = false ↔ ¬ (a ≤ n ∧ n ≤ b) := by rw [← btw_iff]; simp
theorem btw_t {n a b : Int} (h1 : a ≤ n) (h2 : n ≤ b) : btw n a b = true := (btw_iff _ _ _).2 ⟨h1, h2⟩
theorem btw_f {n a b : Int} (h : ¬ (a ≤ n ∧ n ≤ b)) : btw n a b = false := (btw_false _ _ _).2 h

theorem block_lt {w : World} {b o : Nat} {v : Value} (h : w.cell? ⟨b, o, none⟩ = some v) : b < w.heap.size := by
  apply Nat.lt_of_not_le
  intro hle
  simp [World.cell?, Array.getElem?_eq_none hle] at h
theorem bcell {W w1 : World} (hb : Below W.heap.size W w1) : (∀ b o, b < W.heap.size → w1.cell? ⟨b, o, none⟩ = W.cell? ⟨b, o, none⟩) ∧ (∀ b o, b < W.heap.size → w1.frozen? ⟨b, o, none⟩ = W.frozen? ⟨b, o, none⟩) :=
  ⟨fun b o h => hb.cell (p := ⟨b, o, none⟩) h, fun b o h => hb.frozen (p := ⟨b, o, none⟩) h⟩
theorem cell_below {w w' : World} {b o : Nat} {v : Value} (h : w.cell? ⟨b, o, none⟩ = some v) (hb : Below w.heap.size w w') : w'.cell? ⟨b, o, none⟩ = some v := (hb.cell (p := ⟨b, o, none⟩) (block_lt h)).trans h
theorem box_below {w w' : World} {o : Obj} (h : Below (w.alloc o).heap.size (w.alloc o) w') : Below w.heap.size w w' :=
  ((Below.refl _ _).alloc (Nat.le_refl _) _).trans (h.mono (by simp))

def I64 (x : Int) : Prop := -9223372036854775808 ≤ x ∧ x ≤ 9223372036854775807
/-- A slice of ints. -/
def IntsS (w : World) (a : Option Addr) (l : List Int) : Prop :=
  l.length ≤ 9223372036854775807 ∧ (∀ i, i < l.length → I64 (gi l i)) ∧ ∃ blk off, (l ≠ [] → a = some ⟨blk, off, none⟩) ∧ ∀ i, i < l.length → w.cell? ⟨blk, off + i, none⟩ = some (.int .i64 (gi l i))
theorem IntsS.below {w w' : World} {a : Option Addr} {l : List Int} (h : IntsS w a l) (hb : Below w.heap.size w w') : IntsS w' a l := by
  obtain ⟨h0, h1, blk, off, h2, h3⟩ := h
  exact ⟨h0, h1, blk, off, h2, fun i hi => by rw [hb.cell (p := ⟨blk, off + i, none⟩) (block_lt (h3 i hi))]; exact h3 i hi⟩
/-- A slice of pairs of ints. -/
def PairsS (w : World) (a : Option Addr) (l : List (Int × Int)) : Prop :=
  l.length ≤ 9223372036854775807 ∧ (∀ i, i < l.length → I64 (gp l i).1 ∧ I64 (gp l i).2) ∧ ∃ blk off, (l ≠ [] → a = some ⟨blk, off, none⟩) ∧ ∀ i, i < l.length → w.cell? ⟨blk, off + i * 2, none⟩ = some (.int .i64 (gp l i).1) ∧ w.cell? ⟨blk, off + i * 2 + 1, none⟩ = some (.int .i64 (gp l i).2)
theorem PairsS.below {w w' : World} {a : Option Addr} {l : List (Int × Int)} (h : PairsS w a l) (hb : Below w.heap.size w w') : PairsS w' a l := by
  obtain ⟨h0, h1, blk, off, h2, h3⟩ := h
  exact ⟨h0, h1, blk, off, h2, fun i hi => by
    have hx := h3 i hi
    rw [hb.cell (p := ⟨blk, off + i * 2, none⟩) (block_lt hx.1), hb.cell (p := ⟨blk, off + i * 2 + 1, none⟩) (block_lt hx.2)]; exact hx⟩
/-- A slice of slices of ints. -/
def RowsS (w : World) (a : Option Addr) (r : List (List Int)) : Prop :=
  r.length ≤ 9223372036854775807 ∧ ∃ (blk off : Nat) (ad : Nat → Option Addr) (cp : Nat → Nat), (r ≠ [] → a = some ⟨blk, off, none⟩) ∧ ∀ i, i < r.length → w.cell? ⟨blk, off + i, none⟩ = some (.slice (ad i) (gr r i).length (cp i)) ∧ IntsS w (ad i) (gr r i) ∧ (gr r i).length ≤ cp i
theorem RowsS.below {w w' : World} {a : Option Addr} {r : List (List Int)} (h : RowsS w a r) (hb : Below w.heap.size w w') : RowsS w' a r := by
  obtain ⟨h0, blk, off, ad, cp, h2, h3⟩ := h
  exact ⟨h0, blk, off, ad, cp, h2, fun i hi => by
    have hx := h3 i hi
    rw [hb.cell (p := ⟨blk, off + i, none⟩) (block_lt hx.1)]; exact ⟨hx.1, hx.2.1.below hb, hx.2.2⟩⟩
/-- The three lists of a table. -/
def TableS (w : World) (ao ae ar : Option Addr) (o e : List Int) (r : List (List Int)) : Prop := IntsS w ao o ∧ IntsS w ae e ∧ RowsS w ar r
theorem TableS.below {w w' : World} {ao ae ar : Option Addr} {o e : List Int} {r : List (List Int)} (h : TableS w ao ae ar o e r) (hb : Below w.heap.size w w') : TableS w' ao ae ar o e r :=
  ⟨h.1.below hb, h.2.1.below hb, h.2.2.below hb⟩
end Go.Proofs.YtiagflackfkmnaaGreat
