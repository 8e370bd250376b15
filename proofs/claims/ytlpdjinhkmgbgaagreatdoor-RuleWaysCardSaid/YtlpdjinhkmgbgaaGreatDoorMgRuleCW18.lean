/-
  What is proved: for every line, signs, edicts, hour, direction, topic and metre the law RuleCompares (P7.4) returns true: the gaps between what holds and what must hold, one way after another. Conditions: none beyond the row's own (the listed variable starts as the program's text lays it). By an AI agent.
-/
import Derived.Test.YtlpdjinhkmgbgaaGreatDoorMgRuleCW17


namespace Go.Proofs.YtlpdjinhkmgbgaaGreatDoor
end Go.Proofs.YtlpdjinhkmgbgaaGreatDoor
