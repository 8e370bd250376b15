/-
  DERIVED. GIVEN WITH THE SEED: THE CARDS: each row of YtgpobcfbafiaaabGreatDoorRows.lean that lists a variable, with what it lists TIED to the program's text (the seventh form; the later family's looks); each row that meets fmt, with fmt's text TOLD by the authors' own Lean function (tested against real Go, not proved from fmt's source: count such statements apart). THE CARD IS WHAT COUNTS. Prove the row's statement (the work); the ties are given (YtgpobcfbafiaaabGreatDoorTie.lean); close each card by the builder's one call (the guide's Derived/Test/ToyasCard.lean, 'card_holds'). Laid BY PROGRAM, IN A SANDBOX (cutbox-door.mjs). By AI agents, Wed Nov 11 2026. No macro, syntax, notation, axiom, sorry.
-/
import Derived.Test.YtgpobcfbafiaaabGreatDoorRows
import GoSem.ClaimSeven
namespace Go.Proofs.YtgpobcfbafiaaabGreatDoor
namespace Rows

/-- THE TIED CARD OF 'blazonlaw01.FaceAreas'. -/
def faceAreasCard : Claim7 := { stood := { row := faceAreasRow, standIns := [], harness := (true, "f402238e2a91fbc285a797e36d678df1b8326bc2779db6a7748cf8bd904c5cb8"), looks := true }, kinds := [], alts := [], laidByText := true, laidKinds := [.data, .data, .data, .data, .sentinel, .sentinel, .data, .data, .data, .data, .pinned], laidTests := true, laidLooks := .later }
def FaceAreasCardSaid : Prop := Claim7.holds Tryz.pinned (.plain (OpenSpec.ofChange faceAreasSpec)) faceAreasCard

/-- THE TIED CARD OF 'blazonlaw01.FaceCovers'. -/
def faceCoversCard : Claim7 := { stood := { row := faceCoversRow, standIns := [], harness := (true, "f402238e2a91fbc285a797e36d678df1b8326bc2779db6a7748cf8bd904c5cb8"), looks := true }, kinds := [], alts := [], laidByText := true, laidKinds := [.data, .data, .data, .data, .sentinel, .sentinel, .data, .data, .data, .data, .pinned], laidTests := true, laidLooks := .later }
def FaceCoversCardSaid : Prop := Claim7.holds Tryz.pinned (.plain (OpenSpec.ofChange faceCoversSpec)) faceCoversCard

/-- THE TIED CARD OF 'blazonlaw01.FaceMirrors'. -/
def faceMirrorsCard : Claim7 := { stood := { row := faceMirrorsRow, standIns := [], harness := (true, "f402238e2a91fbc285a797e36d678df1b8326bc2779db6a7748cf8bd904c5cb8"), looks := true }, kinds := [], alts := [], laidByText := true, laidKinds := [.data, .data, .data, .data, .sentinel, .sentinel, .data, .data, .data, .data, .pinned], laidTests := true, laidLooks := .later }
def FaceMirrorsCardSaid : Prop := Claim7.holds Tryz.pinned (.plain (OpenSpec.ofChange faceMirrorsSpec)) faceMirrorsCard

/-- THE TIED CARD OF 'blazonlaw01.FaceWider'. -/
def faceWiderCard : Claim7 := { stood := { row := faceWiderRow, standIns := [], harness := (true, "f402238e2a91fbc285a797e36d678df1b8326bc2779db6a7748cf8bd904c5cb8"), looks := true }, kinds := [], alts := [], laidByText := true, laidKinds := [.data, .data, .data, .data, .sentinel, .sentinel, .data, .data, .data, .data, .pinned], laidTests := true, laidLooks := .later }
def FaceWiderCardSaid : Prop := Claim7.holds Tryz.pinned (.plain (OpenSpec.ofChange faceWiderSpec)) faceWiderCard

/-- THE TIED CARD OF 'blazonlaw01.FaceStrips'. -/
def faceStripsCard : Claim7 := { stood := { row := faceStripsRow, standIns := [], harness := (true, "f402238e2a91fbc285a797e36d678df1b8326bc2779db6a7748cf8bd904c5cb8"), looks := true }, kinds := [], alts := [], laidByText := true, laidKinds := [.data, .data, .data, .data, .sentinel, .sentinel, .data, .data, .data, .data, .pinned], laidTests := true, laidLooks := .later }
def FaceStripsCardSaid : Prop := Claim7.holds Tryz.pinned (.plain (OpenSpec.ofChange faceStripsSpec)) faceStripsCard

/-- THE SECOND FORM's CARD OF 'blazonlaw01.FaceAreas'. -/
def faceAreasUptoCard : Claim7 := { stood := { row := faceAreasUptoRow, standIns := [], harness := (true, "f402238e2a91fbc285a797e36d678df1b8326bc2779db6a7748cf8bd904c5cb8"), looks := true }, kinds := [], alts := [], laidByText := true, laidKinds := [.data, .data, .data, .data, .sentinel, .sentinel, .data, .data, .data, .data, .pinned], laidTests := true, laidLooks := .later }
def FaceAreasUptoCardSaid : Prop := Claim7.holds Tryz.pinned (.plain (OpenSpec.upto faceAreasSpec)) faceAreasUptoCard

/-- THE SECOND FORM's CARD OF 'blazonlaw01.FaceCovers'. -/
def faceCoversUptoCard : Claim7 := { stood := { row := faceCoversUptoRow, standIns := [], harness := (true, "f402238e2a91fbc285a797e36d678df1b8326bc2779db6a7748cf8bd904c5cb8"), looks := true }, kinds := [], alts := [], laidByText := true, laidKinds := [.data, .data, .data, .data, .sentinel, .sentinel, .data, .data, .data, .data, .pinned], laidTests := true, laidLooks := .later }
def FaceCoversUptoCardSaid : Prop := Claim7.holds Tryz.pinned (.plain (OpenSpec.upto faceCoversSpec)) faceCoversUptoCard

/-- THE SECOND FORM's CARD OF 'blazonlaw01.FaceMirrors'. -/
def faceMirrorsUptoCard : Claim7 := { stood := { row := faceMirrorsUptoRow, standIns := [], harness := (true, "f402238e2a91fbc285a797e36d678df1b8326bc2779db6a7748cf8bd904c5cb8"), looks := true }, kinds := [], alts := [], laidByText := true, laidKinds := [.data, .data, .data, .data, .sentinel, .sentinel, .data, .data, .data, .data, .pinned], laidTests := true, laidLooks := .later }
def FaceMirrorsUptoCardSaid : Prop := Claim7.holds Tryz.pinned (.plain (OpenSpec.upto faceMirrorsSpec)) faceMirrorsUptoCard

/-- THE SECOND FORM's CARD OF 'blazonlaw01.FaceWider'. -/
def faceWiderUptoCard : Claim7 := { stood := { row := faceWiderUptoRow, standIns := [], harness := (true, "f402238e2a91fbc285a797e36d678df1b8326bc2779db6a7748cf8bd904c5cb8"), looks := true }, kinds := [], alts := [], laidByText := true, laidKinds := [.data, .data, .data, .data, .sentinel, .sentinel, .data, .data, .data, .data, .pinned], laidTests := true, laidLooks := .later }
def FaceWiderUptoCardSaid : Prop := Claim7.holds Tryz.pinned (.plain (OpenSpec.upto faceWiderSpec)) faceWiderUptoCard

/-- THE SECOND FORM's CARD OF 'blazonlaw01.FaceStrips'. -/
def faceStripsUptoCard : Claim7 := { stood := { row := faceStripsUptoRow, standIns := [], harness := (true, "f402238e2a91fbc285a797e36d678df1b8326bc2779db6a7748cf8bd904c5cb8"), looks := true }, kinds := [], alts := [], laidByText := true, laidKinds := [.data, .data, .data, .data, .sentinel, .sentinel, .data, .data, .data, .data, .pinned], laidTests := true, laidLooks := .later }
def FaceStripsUptoCardSaid : Prop := Claim7.holds Tryz.pinned (.plain (OpenSpec.upto faceStripsSpec)) faceStripsUptoCard
end Rows
end Go.Proofs.YtgpobcfbafiaaabGreatDoor
