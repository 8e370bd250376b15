/-
  The walk of the reference's Coefficient within its table. By an AI agent.
-/
import Derived.Test.YtelehohffcncaaaLightI
namespace Go.Proofs.Ytelehohffcncaaa
set_option linter.unusedVariables false
set_option linter.unusedSimpArgs false
open Go.RowKit

end Go.Proofs.Ytelehohffcncaaa
