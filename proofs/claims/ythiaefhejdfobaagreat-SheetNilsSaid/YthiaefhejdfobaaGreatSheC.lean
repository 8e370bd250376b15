/-
  free and Clear of the reference of package sheet; hit of its laws. By an AI agent.
-/
import Derived.Test.YthiaefhejdfobaaGreatSheB
import Derived.Deep.RegionHeld3
import Derived.BigQuiet
namespace Go.Proofs.YthiaefhejdfobaaGreat
set_option linter.unusedVariables false
set_option linter.unusedSimpArgs false
open Go.RowKit

theorem freeB_at {need p : Int} {l : List (Int × Int)} {k : Nat} (h : k < l.length) : freeB need (l.drop k) p = (!(hitF need p (gp l k)) && freeB need (l.drop (k + 1)) p) := by
  rw [drop_gp h]; rfl
theorem freeB_end {need p : Int} {l : List (Int × Int)} : freeB need (l.drop l.length) p = true := by simp [freeB]
theorem hitL_at {x : Int} {l : List (Int × Int)} {k : Nat} (h : k < l.length) : hitL (l.drop k) x = ((decide ((gp l k).1 ≤ x) && decide (x < (gp l k).2)) || hitL (l.drop (k + 1)) x) := by
  rw [drop_gp h]; rfl
theorem hitL_end {x : Int} {l : List (Int × Int)} : hitL (l.drop l.length) x = false := by simp [hitL]
theorem bestK_at {L need : Int} {l : List (Int × Int)} {k : Nat} {s : Int × Bool} (h : k < l.length) : bestK L need l (l.drop k) s = bestK L need l (l.drop (k + 1)) (if 0 < (gp l k).2 ∧ (gp l k).2 ≤ L - need ∧ freeB need l (gp l k).2 = true ∧ (s.2 = false ∨ (gp l k).2 < s.1) then ((gp l k).2, true) else s) := by
  rw [drop_gp h]; rfl
theorem bestK_end {L need : Int} {l : List (Int × Int)} {s : Int × Bool} : bestK L need l (l.drop l.length) s = s := by simp [bestK]
end Go.Proofs.YthiaefhejdfobaaGreat
