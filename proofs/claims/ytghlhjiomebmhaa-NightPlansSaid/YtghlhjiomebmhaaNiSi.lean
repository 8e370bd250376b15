/-
  indexes at the closure of Shortage. By an AI agent.
-/
import Derived.Test.YtghlhjiomebmhaaNiSh
import Derived.Deep.RegionHeld3
import Derived.Deep.AppendLies
import Derived.BigQuiet
namespace Go.Proofs.Ytghlhjiomebmhaa
set_option linter.unusedVariables false
set_option linter.unusedSimpArgs false
open Go.RowKit

end Go.Proofs.Ytghlhjiomebmhaa
