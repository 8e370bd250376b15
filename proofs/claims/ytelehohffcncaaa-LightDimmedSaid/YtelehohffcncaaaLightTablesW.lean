/-
  The walk of the law LightTables: it answers true. By an AI agent.
-/
import Derived.Test.YtelehohffcncaaaLightCoefficientsW
import Derived.Deep.RegionHeld3
namespace Go.Proofs.Ytelehohffcncaaa
set_option linter.unusedVariables false
set_option linter.unusedSimpArgs false
open Go.RowKit

theorem box2_below {w w' : World} {o1 o2 : Obj} (h : Below ((w.alloc o1).alloc o2).heap.size ((w.alloc o1).alloc o2) w') : Below w.heap.size w w' := box_below (box_below h)
theorem box2_start {w : World} {o1 o2 : Obj} : Below w.heap.size w ((w.alloc o1).alloc o2) := box2_below (Below.refl _ _)

end Go.Proofs.Ytelehohffcncaaa
