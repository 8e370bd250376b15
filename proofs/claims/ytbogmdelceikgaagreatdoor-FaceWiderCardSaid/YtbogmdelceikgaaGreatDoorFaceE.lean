/-
  The walk of the reference's item: it answers itB. By an AI agent.
-/
import Derived.Test.YtbogmdelceikgaaGreatDoorFaceD
import Derived.Deep.QuietTactic
import Derived.BigQuiet
namespace Go.Proofs.YtbogmdelceikgaaGreatDoor
open Go.RowKit

theorem below_drewN' {B : Nat} {w w' : World} (h : Below B w w') (n : Nat) : Below B w (w'.drewN n) := below_drewN h n

end Go.Proofs.YtbogmdelceikgaaGreatDoor
