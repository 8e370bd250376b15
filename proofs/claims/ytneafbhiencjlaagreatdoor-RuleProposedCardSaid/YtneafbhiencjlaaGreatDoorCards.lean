/-
  DERIVED. GIVEN WITH THE SEED: THE CARDS: each row of YtneafbhiencjlaaGreatDoorRows.lean that lists a variable, with what it lists TIED to the program's text (the seventh form; the later family's looks); each row that meets fmt, with fmt's text TOLD by the authors' own Lean function (tested against real Go, not proved from fmt's source: count such statements apart). THE CARD IS WHAT COUNTS. Prove the row's statement (the work); the ties are given (YtneafbhiencjlaaGreatDoorTie.lean); close each card by the builder's one call (the guide's Derived/Test/ToyasCard.lean, 'card_holds'). Laid BY PROGRAM, IN A SANDBOX (cutbox-door.mjs). By AI agents, Wed Nov 11 2026. No macro, syntax, notation, axiom, sorry.
-/
import Derived.Test.YtneafbhiencjlaaGreatDoorRows
import GoSem.ClaimSeven
namespace Go.Proofs.YtneafbhiencjlaaGreatDoor
namespace Rows

/-- THE TIED CARD OF 'blazonlaw07.RuleProposed'. -/
def ruleProposedCard : Claim7 := { stood := { row := ruleProposedRow, standIns := [], harness := (true, "1649ff568256a4ce5b443a4059f37b4c88aeee2c2a9a654d933a76d37424ef24"), looks := false }, kinds := [], alts := [], laidByText := true, laidKinds := [.data], laidTests := true, laidLooks := .later }
def RuleProposedCardSaid : Prop := Claim7.holds Tryz.pinned (.plain (OpenSpec.ofChange ruleProposedSpec)) ruleProposedCard

/-- THE TIED CARD OF 'blazonlaw07.RuleProposes'. -/
def ruleProposesCard : Claim7 := { stood := { row := ruleProposesRow, standIns := [], harness := (true, "1649ff568256a4ce5b443a4059f37b4c88aeee2c2a9a654d933a76d37424ef24"), looks := false }, kinds := [], alts := [], laidByText := true, laidKinds := [.data], laidTests := true, laidLooks := .later }
def RuleProposesCardSaid : Prop := Claim7.holds Tryz.pinned (.plain (OpenSpec.ofChange ruleProposesSpec)) ruleProposesCard

/-- THE TIED CARD OF 'blazonlaw07.RuleCompares'. -/
def ruleComparesCard : Claim7 := { stood := { row := ruleComparesRow, standIns := [], harness := (true, "1649ff568256a4ce5b443a4059f37b4c88aeee2c2a9a654d933a76d37424ef24"), looks := false }, kinds := [], alts := [], laidByText := true, laidKinds := [.data], laidTests := true, laidLooks := .later }
def RuleComparesCardSaid : Prop := Claim7.holds Tryz.pinned (.plain (OpenSpec.ofChange ruleComparesSpec)) ruleComparesCard

/-- THE SECOND FORM's CARD OF 'blazonlaw07.RuleProposed'. -/
def ruleProposedUptoCard : Claim7 := { stood := { row := ruleProposedUptoRow, standIns := [], harness := (true, "1649ff568256a4ce5b443a4059f37b4c88aeee2c2a9a654d933a76d37424ef24"), looks := false }, kinds := [], alts := [], laidByText := true, laidKinds := [.data], laidTests := true, laidLooks := .later }
def RuleProposedUptoCardSaid : Prop := Claim7.holds Tryz.pinned (.plain (OpenSpec.upto ruleProposedSpec)) ruleProposedUptoCard

/-- THE SECOND FORM's CARD OF 'blazonlaw07.RuleProposes'. -/
def ruleProposesUptoCard : Claim7 := { stood := { row := ruleProposesUptoRow, standIns := [], harness := (true, "1649ff568256a4ce5b443a4059f37b4c88aeee2c2a9a654d933a76d37424ef24"), looks := false }, kinds := [], alts := [], laidByText := true, laidKinds := [.data], laidTests := true, laidLooks := .later }
def RuleProposesUptoCardSaid : Prop := Claim7.holds Tryz.pinned (.plain (OpenSpec.upto ruleProposesSpec)) ruleProposesUptoCard

/-- THE SECOND FORM's CARD OF 'blazonlaw07.RuleCompares'. -/
def ruleComparesUptoCard : Claim7 := { stood := { row := ruleComparesUptoRow, standIns := [], harness := (true, "1649ff568256a4ce5b443a4059f37b4c88aeee2c2a9a654d933a76d37424ef24"), looks := false }, kinds := [], alts := [], laidByText := true, laidKinds := [.data], laidTests := true, laidLooks := .later }
def RuleComparesUptoCardSaid : Prop := Claim7.holds Tryz.pinned (.plain (OpenSpec.upto ruleComparesSpec)) ruleComparesUptoCard
end Rows
end Go.Proofs.YtneafbhiencjlaaGreatDoor
