/-
  The walks of slopesValid, locate, and of their references. By an AI agent.
-/
import Derived.Test.YtpkafkhdococeaaLightA
namespace Go.Proofs.Ytpkafkhdococeaa
set_option linter.unusedVariables false
set_option linter.unusedSimpArgs false
open Go.RowKit

open Classical in
noncomputable def slopesB (l : List Int) : Bool := decide (SlopesOk l)
theorem slopesB_t {l : List Int} (h : SlopesOk l) : slopesB l = true := by unfold slopesB; simpa using h
theorem slopesB_f {l : List Int} (h : ¬ SlopesOk l) : slopesB l = false := by unfold slopesB; simpa using h
theorem slopesB_iff {l : List Int} : slopesB l = true ↔ SlopesOk l := by unfold slopesB; simp

end Go.Proofs.Ytpkafkhdococeaa
