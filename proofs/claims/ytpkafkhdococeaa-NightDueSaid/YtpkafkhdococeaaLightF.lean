/-
  The walks of ValidTable and Coefficient. By an AI agent.
-/
import Derived.Test.YtpkafkhdococeaaLightE
namespace Go.Proofs.Ytpkafkhdococeaa
set_option linter.unusedVariables false
set_option linter.unusedSimpArgs false
open Go.RowKit

open Classical in
noncomputable def tableB (o e : List Int) (r : List (List Int)) : Bool := decide (TableOk o e r)
theorem tableB_t {o e : List Int} {r : List (List Int)} (h : TableOk o e r) : tableB o e r = true := by unfold tableB; simpa using h
theorem tableB_f {o e : List Int} {r : List (List Int)} (h : ¬ TableOk o e r) : tableB o e r = false := by unfold tableB; simpa using h
theorem tableB_iff {o e : List Int} {r : List (List Int)} : tableB o e r = true ↔ TableOk o e r := by unfold tableB; simp
theorem cellOk_f {o e : List Int} {r : List (List Int)} {i k : Nat} (hi : i < r.length) (hk : k < e.length) (h : ¬ CellOk r i k) : tableB o e r = false := tableB_f fun hT => h ((hT.2.2.2 i hi).2 k hk)

end Go.Proofs.Ytpkafkhdococeaa
