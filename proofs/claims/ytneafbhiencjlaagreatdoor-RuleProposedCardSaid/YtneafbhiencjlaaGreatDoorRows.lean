/-
  NARROWER THAN 'FOR EVERY INPUT', by the rows' own cells (each row's printed sentence says how): RuleProposed: laid · RuleProposes: laid · RuleCompares: laid.
  DERIVED. THE GIVEN ROWS OF THIS SEAT. 3 by the template 'for every input the law returns true; each argument reads behind the call as it read before'; 0 by the template 'total and deterministic' (their statements: YtneafbhiencjlaaGreatDoorTotals.lean).
  GIVEN WITH THE SEED: the statements are not yours to turn. If you find one false, say at which input.
  Laid BY PROGRAM, IN A SANDBOX (cutbox-rows.mjs): the forced cells as the released guide's own fill.sh prints them over the translation 9b3d56425aa47808… (all of the seat's roots in one cut). By AI agents, Wed Nov 11 2026. No macro, syntax, notation, axiom, sorry.
-/
import Derived.Test.YtneafbhiencjlaaGreatDoorChecked
import GoSem.Claim
import GoSem.ClaimJoined
import GoSem.ClaimMapViews
import Derived.JoinedTies
import Derived.KernelRfl
namespace Go.Proofs.YtneafbhiencjlaaGreatDoor
/- THE CELL 'sum', in the pinned program and in every row, IS THE sha256 OF THE DUMP (.gsa) THAT YtneafbhiencjlaaGreatDoorProg.lean LOADS. Nothing in Lean hashes anything: it is a label: what it is worth is what the hold of that sum in a sandbox is worth. -/
noncomputable def Tryz.pinned : Pinned := { name := "ytneafbhiencjlaagreatdoor", sum := "9b3d56425aa47808a3204e7b6bab1f7d680303f2d614ad0c3b5685d4546cc151", checked := Tryz.checked }
namespace Rows
def none {H : Type} : Left H := { results := [], args := [] }

/- WHAT THE LISTED PACKAGE-LEVEL VARIABLES READ AS WHEN THE CALL BEGINS. Each datum BY PROGRAM (the guide's laid-datum.mjs) off the statement by which the dump's own 'gosem.cut.vars' lays the variable. In a bare row this is a premise. The card (YtneafbhiencjlaaGreatDoorCards.lean) ties it to the program's text. -/
def laid_blazon_rule_ways {H : Type} : DataW H := .agg [.agg [.lit (.int .i64 1), .lit (.int .i64 1)], .agg [.lit (.int .i64 1), .lit (.int .i64 (-1))], .agg [.lit (.int .i64 2), .lit (.int .i64 1)], .agg [.lit (.int .i64 2), .lit (.int .i64 (-1))]]

/-- 'blazonlaw07.RuleProposed': WHATEVER THE INPUT: true; the input reads as it did. -/
def ruleProposedSpec : ChangeSpec := { name := "ruleProposed", fn := fun _ => fun
  | [d] => { results := [.lit (.bool true)], args := [d] }
  | _ => none }
def ruleProposedRow : OpenClaim := { program := "ytneafbhiencjlaagreatdoor", sum := "9b3d56425aa47808a3204e7b6bab1f7d680303f2d614ad0c3b5685d4546cc151", func := "blazon/blazonlaw07.RuleProposed", spec := "ruleProposed", unfollowed := true, recurses := true, named := ["blazon/rule.ways"], apart := false, laid := [("blazon/rule.ways", laid_blazon_rule_ways)] }
def RuleProposedSaid : Prop := ruleProposedRow.holds Tryz.pinned (OpenSpec.ofChange ruleProposedSpec)

/-- ITS FALSE NEIGHBOUR: 'it returns false'. Refute it at one input. -/
def ruleProposedWrong : ChangeSpec := { name := "ruleProposed", fn := fun _ => fun
  | [d] => { results := [.lit (.bool false)], args := [d] }
  | _ => none }
def RuleProposedWrongFalsely : Prop := ruleProposedRow.holds Tryz.pinned (OpenSpec.ofChange ruleProposedWrong)

/-- 'blazonlaw07.RuleProposes': WHATEVER THE INPUT: true; the input reads as it did. -/
def ruleProposesSpec : ChangeSpec := { name := "ruleProposes", fn := fun _ => fun
  | [d] => { results := [.lit (.bool true)], args := [d] }
  | _ => none }
def ruleProposesRow : OpenClaim := { program := "ytneafbhiencjlaagreatdoor", sum := "9b3d56425aa47808a3204e7b6bab1f7d680303f2d614ad0c3b5685d4546cc151", func := "blazon/blazonlaw07.RuleProposes", spec := "ruleProposes", unfollowed := true, recurses := true, named := ["blazon/rule.ways"], apart := false, laid := [("blazon/rule.ways", laid_blazon_rule_ways)] }
def RuleProposesSaid : Prop := ruleProposesRow.holds Tryz.pinned (OpenSpec.ofChange ruleProposesSpec)

/-- ITS FALSE NEIGHBOUR: 'it returns false'. Refute it at one input. -/
def ruleProposesWrong : ChangeSpec := { name := "ruleProposes", fn := fun _ => fun
  | [d] => { results := [.lit (.bool false)], args := [d] }
  | _ => none }
def RuleProposesWrongFalsely : Prop := ruleProposesRow.holds Tryz.pinned (OpenSpec.ofChange ruleProposesWrong)

/-- 'blazonlaw07.RuleCompares': WHATEVER THE INPUT: true; the input reads as it did. -/
def ruleComparesSpec : ChangeSpec := { name := "ruleCompares", fn := fun _ => fun
  | [d] => { results := [.lit (.bool true)], args := [d] }
  | _ => none }
def ruleComparesRow : OpenClaim := { program := "ytneafbhiencjlaagreatdoor", sum := "9b3d56425aa47808a3204e7b6bab1f7d680303f2d614ad0c3b5685d4546cc151", func := "blazon/blazonlaw07.RuleCompares", spec := "ruleCompares", unfollowed := true, recurses := true, named := ["blazon/rule.ways"], apart := false, laid := [("blazon/rule.ways", laid_blazon_rule_ways)] }
def RuleComparesSaid : Prop := ruleComparesRow.holds Tryz.pinned (OpenSpec.ofChange ruleComparesSpec)

/-- ITS FALSE NEIGHBOUR: 'it returns false'. Refute it at one input. -/
def ruleComparesWrong : ChangeSpec := { name := "ruleCompares", fn := fun _ => fun
  | [d] => { results := [.lit (.bool false)], args := [d] }
  | _ => none }
def RuleComparesWrongFalsely : Prop := ruleComparesRow.holds Tryz.pinned (OpenSpec.ofChange ruleComparesWrong)

/- THE SECOND FORM. 'bulk': how many values and letters a reading holds, each counted each time it is reached (what is shared counts as often as it is met; a slice's spare places count too). A statement '..UptoSaid' is the law's where the arguments, and the package variables that the reading takes, are together of bulk at most 1048576: NARROWER than '..Said'. Prove '..Said' where nothing that the law and all that it calls make is longer than what came in: it says more and counts as full. Else prove '..UptoSaid'. A law counts once. -/
mutual
def uptoBulk {H : Type} : DataW H → Nat
  | .lit (.string bytes) => bytes.length + 1
  | .lit _ => 1
  | .nil => 1
  | .ptr d => uptoBulk d + 1
  | .slice elems spare => uptoBulkAll elems + uptoBulkAll spare + 1
  | .agg parts => uptoBulkAll parts + 1
  | .iface _ d => uptoBulk d + 1
  | .map entries => uptoBulkEntries entries + 1
  | .held _ => 1
def uptoBulkAll {H : Type} : List (DataW H) → Nat
  | [] => 0
  | d :: r => uptoBulk d + uptoBulkAll r
def uptoBulkEntries {H : Type} : List (Lit × DataW H) → Nat
  | [] => 0
  | x :: r => uptoBulkEntry x + uptoBulkEntries r
def uptoBulkEntry {H : Type} : Lit × DataW H → Nat
  | (.string bytes, d) => bytes.length + uptoBulk d + 1
  | (_, d) => uptoBulk d + 1
 end
def uptoSmall : (H : Type) → List (DataW H) → Bool := fun _ ds => decide (uptoBulkAll ds ≤ 1048576)
def OpenSpec.upto (s : _root_.Go.ChangeSpec) : _root_.Go.OpenSpec := { _root_.Go.OpenSpec.ofChange s with cond := some uptoSmall }

/-- 'blazonlaw07.RuleProposed', WHERE WHAT IT READS IS OF BULK AT MOST 1048576: true; the input reads as it did. -/
def ruleProposedUptoRow : OpenClaim := { program := "ytneafbhiencjlaagreatdoor", sum := "9b3d56425aa47808a3204e7b6bab1f7d680303f2d614ad0c3b5685d4546cc151", func := "blazon/blazonlaw07.RuleProposed", spec := "ruleProposed", unfollowed := true, recurses := true, named := ["blazon/rule.ways"], apart := false, laid := [("blazon/rule.ways", laid_blazon_rule_ways)], narrowed := true }
def RuleProposedUptoSaid : Prop := ruleProposedUptoRow.holds Tryz.pinned (OpenSpec.upto ruleProposedSpec)

/-- 'blazonlaw07.RuleProposes', WHERE WHAT IT READS IS OF BULK AT MOST 1048576: true; the input reads as it did. -/
def ruleProposesUptoRow : OpenClaim := { program := "ytneafbhiencjlaagreatdoor", sum := "9b3d56425aa47808a3204e7b6bab1f7d680303f2d614ad0c3b5685d4546cc151", func := "blazon/blazonlaw07.RuleProposes", spec := "ruleProposes", unfollowed := true, recurses := true, named := ["blazon/rule.ways"], apart := false, laid := [("blazon/rule.ways", laid_blazon_rule_ways)], narrowed := true }
def RuleProposesUptoSaid : Prop := ruleProposesUptoRow.holds Tryz.pinned (OpenSpec.upto ruleProposesSpec)

/-- 'blazonlaw07.RuleCompares', WHERE WHAT IT READS IS OF BULK AT MOST 1048576: true; the input reads as it did. -/
def ruleComparesUptoRow : OpenClaim := { program := "ytneafbhiencjlaagreatdoor", sum := "9b3d56425aa47808a3204e7b6bab1f7d680303f2d614ad0c3b5685d4546cc151", func := "blazon/blazonlaw07.RuleCompares", spec := "ruleCompares", unfollowed := true, recurses := true, named := ["blazon/rule.ways"], apart := false, laid := [("blazon/rule.ways", laid_blazon_rule_ways)], narrowed := true }
def RuleComparesUptoSaid : Prop := ruleComparesUptoRow.holds Tryz.pinned (OpenSpec.upto ruleComparesSpec)

end Rows
end Go.Proofs.YtneafbhiencjlaaGreatDoor
