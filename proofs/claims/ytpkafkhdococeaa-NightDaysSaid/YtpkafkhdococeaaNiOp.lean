/-
  Arguments of package night, opened. By an AI agent.
-/
import Derived.Test.YtpkafkhdococeaaNightDaysW
namespace Go.Proofs.Ytpkafkhdococeaa
end Go.Proofs.Ytpkafkhdococeaa
