/-
  Structs of ints in memory; IndexFunc and ContainsFunc of them; within of package road. By an AI agent.
-/
import Derived.Test.YthiaefhejdfobaaGreatLightA
import Derived.Test.YthiaefhejdfobaaGreatAnyK
import Derived.Test.YthiaefhejdfobaaGreatRoadSp
import Derived.Deep.RegionHeld3
namespace Go.Proofs.YthiaefhejdfobaaGreat
set_option linter.unusedVariables false
set_option linter.unusedSimpArgs false
open Go.RowKit

theorem pos_ne {n i : Nat} {α : Type} {l : List α} (hi : i < l.length) : l ≠ [] := by rintro rfl; simp at hi
theorem btw_cases (n a b : Int) : btw n a b = true ∨ btw n a b = false := by cases btw n a b <;> simp
/-- A slice of ints, of whatever size. -/
def IntsC (w : World) (a : Option Addr) (l : List (Int)) : Prop :=
  l.length ≤ 9223372036854775807 ∧ ∃ blk off, (l ≠ [] → a = some ⟨blk, off, none⟩) ∧ ∀ i, i < l.length → w.cell? ⟨blk, off + i, none⟩ = some (.int .i64 (gi l i))
theorem IntsC.below {w w' : World} {a : Option Addr} {l : List (Int)} (h : IntsC w a l) (hb : Below w.heap.size w w') : IntsC w' a l := by
  obtain ⟨h0, blk, off, h2, h3⟩ := h
  exact ⟨h0, blk, off, h2, fun i hi => cell_below (h3 i hi) hb⟩
/-- A slice of three ints each. -/
def TripS (w : World) (a : Option Addr) (l : List (Sw)) : Prop :=
  l.length ≤ 9223372036854775807 ∧ (∀ i, i < l.length → I64 (gw l i).1 ∧ I64 (gw l i).2.1 ∧ I64 (gw l i).2.2) ∧ ∃ blk off, (l ≠ [] → a = some ⟨blk, off, none⟩) ∧ ∀ i, i < l.length → w.cell? ⟨blk, off + i * 3, none⟩ = some (.int .i64 (gw l i).1) ∧ w.cell? ⟨blk, off + i * 3 + 1, none⟩ = some (.int .i64 (gw l i).2.1) ∧ w.cell? ⟨blk, off + i * 3 + 2, none⟩ = some (.int .i64 (gw l i).2.2)
theorem TripS.below {w w' : World} {a : Option Addr} {l : List (Sw)} (h : TripS w a l) (hb : Below w.heap.size w w') : TripS w' a l := by
  obtain ⟨h0, h1, blk, off, h2, h3⟩ := h
  exact ⟨h0, h1, blk, off, h2, fun i hi => by
    have hx := h3 i hi
    exact ⟨cell_below hx.1 hb, cell_below hx.2.1 hb, cell_below hx.2.2 hb⟩⟩
/-- A slice of four ints each. -/
def QuadS (w : World) (a : Option Addr) (l : List (Chg)) : Prop :=
  l.length ≤ 9223372036854775807 ∧ (∀ i, i < l.length → I64 (gc l i).1 ∧ I64 (gc l i).2.1 ∧ I64 (gc l i).2.2.1 ∧ I64 (gc l i).2.2.2) ∧ ∃ blk off, (l ≠ [] → a = some ⟨blk, off, none⟩) ∧ ∀ i, i < l.length → w.cell? ⟨blk, off + i * 4, none⟩ = some (.int .i64 (gc l i).1) ∧ w.cell? ⟨blk, off + i * 4 + 1, none⟩ = some (.int .i64 (gc l i).2.1) ∧ w.cell? ⟨blk, off + i * 4 + 2, none⟩ = some (.int .i64 (gc l i).2.2.1) ∧ w.cell? ⟨blk, off + i * 4 + 3, none⟩ = some (.int .i64 (gc l i).2.2.2)
theorem QuadS.below {w w' : World} {a : Option Addr} {l : List (Chg)} (h : QuadS w a l) (hb : Below w.heap.size w w') : QuadS w' a l := by
  obtain ⟨h0, h1, blk, off, h2, h3⟩ := h
  exact ⟨h0, h1, blk, off, h2, fun i hi => by
    have hx := h3 i hi
    exact ⟨cell_below hx.1 hb, cell_below hx.2.1 hb, cell_below hx.2.2.1 hb, cell_below hx.2.2.2 hb⟩⟩
/-- Whether all of a list lie from a to b. -/
def winB (a b : Int) (l : List Int) : Bool := l.all fun x => btw x a b
theorem winB_any (a b : Int) (l : List Int) : winB a b l = !(anyK (fun j => !(btw (gi l j) a b)) l.length) := by
  unfold winB
  cases h : anyK (fun j => !(btw (gi l j) a b)) l.length with
  | false =>
    rw [anyK_iff] at h
    rw [Bool.not_false, List.all_eq_true]
    intro x hx
    obtain ⟨k, hk, e⟩ := List.getElem_of_mem hx
    have := h k hk
    unfold gi at this
    rw [List.getD_eq_getElem?_getD, List.getElem?_eq_getElem hk, Option.getD_some, e] at this
    simpa using this
  | true =>
    rw [Bool.not_true, ← Bool.not_eq_true, List.all_eq_true]
    intro g
    rw [(anyK_iff _).2] at h
    · cases h
    · intro k hk
      have := g (gi l k) (by unfold gi; rw [List.getD_eq_getElem?_getD, List.getElem?_eq_getElem hk]; exact List.getElem_mem hk)
      simp [this]
end Go.Proofs.YthiaefhejdfobaaGreat
