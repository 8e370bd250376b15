/-
  The walk of Same at two faces of one kind. By an AI agent.
-/
import Derived.Test.YtbogmdelceikgaaGreatDoorFaceF
import Derived.Handy
namespace Go.Proofs.YtbogmdelceikgaaGreatDoor
open Go.RowKit

/-- A face's four cells. -/
def FaceBox (w : World) (b : Nat) (sh sz h : Int) (v : Value) : Prop :=
  w.cell? ⟨b, 0, none⟩ = some (.int .i64 sh) ∧ w.cell? ⟨b, 1, none⟩ = some (.int .i64 sz) ∧ w.cell? ⟨b, 2, none⟩ = some (.int .i64 h) ∧ w.cell? ⟨b, 3, none⟩ = some v
theorem FaceBox.below {w w' : World} {b B : Nat} {sh sz h : Int} {v : Value} (hf : FaceBox w b sh sz h v) (hb : Below B w w') (hl : b < B) : FaceBox w' b sh sz h v := by
  have hx : ∀ o, w'.cell? ⟨b, o, none⟩ = w.cell? ⟨b, o, none⟩ := fun o => hb.cell (p := ⟨b, o, none⟩) hl
  unfold FaceBox
  rw [hx, hx, hx, hx]
  exact hf

end Go.Proofs.YtbogmdelceikgaaGreatDoor
