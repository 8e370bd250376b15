/-
  DERIVED. GIVEN WITH THE SEED: THE CARDS: each row of YtlpdjinhkmgbgaaGreatDoorRows.lean that lists a variable, with what it lists TIED to the program's text (the seventh form; the later family's looks); each row that meets fmt, with fmt's text TOLD by the authors' own Lean function (tested against real Go, not proved from fmt's source: count such statements apart). THE CARD IS WHAT COUNTS. Prove the row's statement (the work); the ties are given (YtlpdjinhkmgbgaaGreatDoorTie.lean); close each card by the builder's one call (the guide's Derived/Test/ToyasCard.lean, 'card_holds'). Laid BY PROGRAM, IN A SANDBOX (cutbox-door.mjs). By AI agents, Wed Nov 11 2026. No macro, syntax, notation, axiom, sorry.
-/
import Derived.Test.YtlpdjinhkmgbgaaGreatDoorRows
import GoSem.ClaimSeven
namespace Go.Proofs.YtlpdjinhkmgbgaaGreatDoor
namespace Rows

/-- THE TIED CARD OF 'blazonlaw07.RuleCompares'. -/
def ruleComparesCard : Claim7 := { stood := { row := ruleComparesRow, standIns := [], harness := (true, "64a50f5c391a0c36e456eff0c151c27be8cf3e6f6b047b5feb702e7bed072aba"), looks := false }, kinds := [], alts := [], laidByText := true, laidKinds := [.data], laidTests := true, laidLooks := .later }
def RuleComparesCardSaid : Prop := Claim7.holds Tryz.pinned (.plain (OpenSpec.ofChange ruleComparesSpec)) ruleComparesCard

/-- THE TIED CARD OF 'blazonlaw07.RuleProposes'. -/
def ruleProposesCard : Claim7 := { stood := { row := ruleProposesRow, standIns := [], harness := (true, "64a50f5c391a0c36e456eff0c151c27be8cf3e6f6b047b5feb702e7bed072aba"), looks := false }, kinds := [], alts := [], laidByText := true, laidKinds := [.data], laidTests := true, laidLooks := .later }
def RuleProposesCardSaid : Prop := Claim7.holds Tryz.pinned (.plain (OpenSpec.ofChange ruleProposesSpec)) ruleProposesCard

/-- THE TIED CARD OF 'blazonlaw07.RuleWays'. -/
def ruleWaysCard : Claim7 := { stood := { row := ruleWaysRow, standIns := [], harness := (true, "64a50f5c391a0c36e456eff0c151c27be8cf3e6f6b047b5feb702e7bed072aba"), looks := false }, kinds := [], alts := [], laidByText := true, laidKinds := [.data], laidTests := true, laidLooks := .later }
def RuleWaysCardSaid : Prop := Claim7.holds Tryz.pinned (.plain (OpenSpec.ofChange ruleWaysSpec)) ruleWaysCard

/-- THE TIED CARD OF 'blazonlaw07.RuleProposed'. -/
def ruleProposedCard : Claim7 := { stood := { row := ruleProposedRow, standIns := [], harness := (true, "64a50f5c391a0c36e456eff0c151c27be8cf3e6f6b047b5feb702e7bed072aba"), looks := false }, kinds := [], alts := [], laidByText := true, laidKinds := [.data], laidTests := true, laidLooks := .later }
def RuleProposedCardSaid : Prop := Claim7.holds Tryz.pinned (.plain (OpenSpec.ofChange ruleProposedSpec)) ruleProposedCard

/-- THE SECOND FORM's CARD OF 'blazonlaw07.RuleCompares'. -/
def ruleComparesUptoCard : Claim7 := { stood := { row := ruleComparesUptoRow, standIns := [], harness := (true, "64a50f5c391a0c36e456eff0c151c27be8cf3e6f6b047b5feb702e7bed072aba"), looks := false }, kinds := [], alts := [], laidByText := true, laidKinds := [.data], laidTests := true, laidLooks := .later }
def RuleComparesUptoCardSaid : Prop := Claim7.holds Tryz.pinned (.plain (OpenSpec.upto ruleComparesSpec)) ruleComparesUptoCard

/-- THE SECOND FORM's CARD OF 'blazonlaw07.RuleProposes'. -/
def ruleProposesUptoCard : Claim7 := { stood := { row := ruleProposesUptoRow, standIns := [], harness := (true, "64a50f5c391a0c36e456eff0c151c27be8cf3e6f6b047b5feb702e7bed072aba"), looks := false }, kinds := [], alts := [], laidByText := true, laidKinds := [.data], laidTests := true, laidLooks := .later }
def RuleProposesUptoCardSaid : Prop := Claim7.holds Tryz.pinned (.plain (OpenSpec.upto ruleProposesSpec)) ruleProposesUptoCard

/-- THE SECOND FORM's CARD OF 'blazonlaw07.RuleWays'. -/
def ruleWaysUptoCard : Claim7 := { stood := { row := ruleWaysUptoRow, standIns := [], harness := (true, "64a50f5c391a0c36e456eff0c151c27be8cf3e6f6b047b5feb702e7bed072aba"), looks := false }, kinds := [], alts := [], laidByText := true, laidKinds := [.data], laidTests := true, laidLooks := .later }
def RuleWaysUptoCardSaid : Prop := Claim7.holds Tryz.pinned (.plain (OpenSpec.upto ruleWaysSpec)) ruleWaysUptoCard

/-- THE SECOND FORM's CARD OF 'blazonlaw07.RuleProposed'. -/
def ruleProposedUptoCard : Claim7 := { stood := { row := ruleProposedUptoRow, standIns := [], harness := (true, "64a50f5c391a0c36e456eff0c151c27be8cf3e6f6b047b5feb702e7bed072aba"), looks := false }, kinds := [], alts := [], laidByText := true, laidKinds := [.data], laidTests := true, laidLooks := .later }
def RuleProposedUptoCardSaid : Prop := Claim7.holds Tryz.pinned (.plain (OpenSpec.upto ruleProposedSpec)) ruleProposedUptoCard
end Rows
end Go.Proofs.YtlpdjinhkmgbgaaGreatDoor
