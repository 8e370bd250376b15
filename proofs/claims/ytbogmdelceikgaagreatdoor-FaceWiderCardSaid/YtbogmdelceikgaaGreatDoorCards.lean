/-
  DERIVED. GIVEN WITH THE SEED: THE CARDS: each row of YtbogmdelceikgaaGreatDoorRows.lean that lists a variable, with what it lists TIED to the program's text (the seventh form; the later family's looks); each row that meets fmt, with fmt's text TOLD by the authors' own Lean function (tested against real Go, not proved from fmt's source: count such statements apart). THE CARD IS WHAT COUNTS. Prove the row's statement (the work); the ties are given (YtbogmdelceikgaaGreatDoorTie.lean); close each card by the builder's one call (the guide's Derived/Test/ToyasCard.lean, 'card_holds'). Laid BY PROGRAM, IN A SANDBOX (cutbox-door.mjs). By AI agents, Wed Nov 11 2026. No macro, syntax, notation, axiom, sorry.
-/
import Derived.Test.YtbogmdelceikgaaGreatDoorRows
import GoSem.ClaimSeven
namespace Go.Proofs.YtbogmdelceikgaaGreatDoor
namespace Rows

/-- THE TIED CARD OF 'blazonlaw01.FaceWider'. -/
def faceWiderCard : Claim7 := { stood := { row := faceWiderRow, standIns := [], harness := (true, "820f6b092565c6a181d0bbdf3177f8c11cd384bba39e1c725891bf93748a0c22"), looks := true }, kinds := [], alts := [], laidByText := true, laidKinds := [.data, .data, .data, .data, .sentinel, .sentinel, .data, .data, .data, .data, .pinned], laidTests := true, laidLooks := .later }
def FaceWiderCardSaid : Prop := Claim7.holds Tryz.pinned (.plain (OpenSpec.ofChange faceWiderSpec)) faceWiderCard

/-- THE SECOND FORM's CARD OF 'blazonlaw01.FaceWider'. -/
def faceWiderUptoCard : Claim7 := { stood := { row := faceWiderUptoRow, standIns := [], harness := (true, "820f6b092565c6a181d0bbdf3177f8c11cd384bba39e1c725891bf93748a0c22"), looks := true }, kinds := [], alts := [], laidByText := true, laidKinds := [.data, .data, .data, .data, .sentinel, .sentinel, .data, .data, .data, .data, .pinned], laidTests := true, laidLooks := .later }
def FaceWiderUptoCardSaid : Prop := Claim7.holds Tryz.pinned (.plain (OpenSpec.upto faceWiderSpec)) faceWiderUptoCard
end Rows
end Go.Proofs.YtbogmdelceikgaaGreatDoor
