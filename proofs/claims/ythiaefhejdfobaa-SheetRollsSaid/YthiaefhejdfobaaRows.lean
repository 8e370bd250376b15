/-
  No cell of these rows narrows 'for every input' (looked for: loops, veiled, ifaces, maps, wideKeys, modest, calm, conditions, laid).
  DERIVED. THE GIVEN ROWS OF THIS SEAT. 3 by the template 'for every input the law returns true; each argument reads behind the call as it read before'; 0 by the template 'total and deterministic' (their statements: YthiaefhejdfobaaTotals.lean).
  GIVEN WITH THE SEED: the statements are not yours to turn. If you find one false, say at which input.
  Laid BY PROGRAM, IN A SANDBOX (cutbox-rows.mjs): the forced cells as the released guide's own fill.sh prints them over the translation 3c8559caeb7c2525… (all of the seat's roots in one cut). By AI agents, Wed Nov 11 2026. No macro, syntax, notation, axiom, sorry.
-/
import Derived.Test.YthiaefhejdfobaaChecked
import GoSem.Claim
import GoSem.ClaimJoined
import GoSem.ClaimMapViews
import Derived.JoinedTies
import Derived.KernelRfl
namespace Go.Proofs.Ythiaefhejdfobaa
/- THE CELL 'sum', in the pinned program and in every row, IS THE sha256 OF THE DUMP (.gsa) THAT YthiaefhejdfobaaProg.lean LOADS. Nothing in Lean hashes anything: it is a label: what it is worth is what the hold of that sum in a sandbox is worth. -/
noncomputable def Try.pinned : Pinned := { name := "ythiaefhejdfobaa", sum := "3c8559caeb7c25257b587437973d619753c908e6118ae4746914583c54379453", checked := Try.checked }
namespace Rows
def none {H : Type} : Left H := { results := [], args := [] }

/-- 'blazonlaw02.SheetRolls': WHATEVER THE INPUT: true; the input reads as it did. -/
def sheetRollsSpec : ChangeSpec := { name := "sheetRolls", fn := fun _ => fun
  | [d1, d2] => { results := [.lit (.bool true)], args := [d1, d2] }
  | _ => none }
def sheetRollsRow : OpenClaim := { program := "ythiaefhejdfobaa", sum := "3c8559caeb7c25257b587437973d619753c908e6118ae4746914583c54379453", func := "blazon/blazonlaw02.SheetRolls", spec := "sheetRolls", unfollowed := true, recurses := true, apart := false }
def SheetRollsSaid : Prop := sheetRollsRow.holds Try.pinned (OpenSpec.ofChange sheetRollsSpec)

/-- ITS FALSE NEIGHBOUR: 'it returns false'. Refute it at one input. -/
def sheetRollsWrong : ChangeSpec := { name := "sheetRolls", fn := fun _ => fun
  | [d1, d2] => { results := [.lit (.bool false)], args := [d1, d2] }
  | _ => none }
def SheetRollsWrongFalsely : Prop := sheetRollsRow.holds Try.pinned (OpenSpec.ofChange sheetRollsWrong)

/-- 'blazonlaw02.SheetClears': WHATEVER THE INPUT: true; the input reads as it did. -/
def sheetClearsSpec : ChangeSpec := { name := "sheetClears", fn := fun _ => fun
  | [d1, d2, d3] => { results := [.lit (.bool true)], args := [d1, d2, d3] }
  | _ => none }
def sheetClearsRow : OpenClaim := { program := "ythiaefhejdfobaa", sum := "3c8559caeb7c25257b587437973d619753c908e6118ae4746914583c54379453", func := "blazon/blazonlaw02.SheetClears", spec := "sheetClears", unfollowed := true, recurses := true, apart := false }
def SheetClearsSaid : Prop := sheetClearsRow.holds Try.pinned (OpenSpec.ofChange sheetClearsSpec)

/-- ITS FALSE NEIGHBOUR: 'it returns false'. Refute it at one input. -/
def sheetClearsWrong : ChangeSpec := { name := "sheetClears", fn := fun _ => fun
  | [d1, d2, d3] => { results := [.lit (.bool false)], args := [d1, d2, d3] }
  | _ => none }
def SheetClearsWrongFalsely : Prop := sheetClearsRow.holds Try.pinned (OpenSpec.ofChange sheetClearsWrong)

/-- 'blazonlaw02.SheetLeast': WHATEVER THE INPUT: true; the input reads as it did. -/
def sheetLeastSpec : ChangeSpec := { name := "sheetLeast", fn := fun _ => fun
  | [d1, d2, d3] => { results := [.lit (.bool true)], args := [d1, d2, d3] }
  | _ => none }
def sheetLeastRow : OpenClaim := { program := "ythiaefhejdfobaa", sum := "3c8559caeb7c25257b587437973d619753c908e6118ae4746914583c54379453", func := "blazon/blazonlaw02.SheetLeast", spec := "sheetLeast", unfollowed := true, recurses := true, apart := false }
def SheetLeastSaid : Prop := sheetLeastRow.holds Try.pinned (OpenSpec.ofChange sheetLeastSpec)

/-- ITS FALSE NEIGHBOUR: 'it returns false'. Refute it at one input. -/
def sheetLeastWrong : ChangeSpec := { name := "sheetLeast", fn := fun _ => fun
  | [d1, d2, d3] => { results := [.lit (.bool false)], args := [d1, d2, d3] }
  | _ => none }
def SheetLeastWrongFalsely : Prop := sheetLeastRow.holds Try.pinned (OpenSpec.ofChange sheetLeastWrong)

/- THE SECOND FORM. 'bulk': how many values and letters a reading holds, each counted each time it is reached (what is shared counts as often as it is met; a slice's spare places count too). A statement '..UptoSaid' is the law's where the arguments, and the package variables that the reading takes, are together of bulk at most 1048576: NARROWER than '..Said'. Prove '..Said' where nothing that the law and all that it calls make is longer than what came in: it says more and counts as full. Else prove '..UptoSaid'. A law counts once. -/
mutual
def uptoBulk {H : Type} : DataW H → Nat
  | .lit (.string bytes) => bytes.length + 1
  | .lit _ => 1
  | .nil => 1
  | .ptr d => uptoBulk d + 1
  | .slice elems spare => uptoBulkAll elems + uptoBulkAll spare + 1
  | .agg parts => uptoBulkAll parts + 1
  | .iface _ d => uptoBulk d + 1
  | .map entries => uptoBulkEntries entries + 1
  | .held _ => 1
def uptoBulkAll {H : Type} : List (DataW H) → Nat
  | [] => 0
  | d :: r => uptoBulk d + uptoBulkAll r
def uptoBulkEntries {H : Type} : List (Lit × DataW H) → Nat
  | [] => 0
  | x :: r => uptoBulkEntry x + uptoBulkEntries r
def uptoBulkEntry {H : Type} : Lit × DataW H → Nat
  | (.string bytes, d) => bytes.length + uptoBulk d + 1
  | (_, d) => uptoBulk d + 1
 end
def uptoSmall : (H : Type) → List (DataW H) → Bool := fun _ ds => decide (uptoBulkAll ds ≤ 1048576)
def OpenSpec.upto (s : _root_.Go.ChangeSpec) : _root_.Go.OpenSpec := { _root_.Go.OpenSpec.ofChange s with cond := some uptoSmall }

/-- 'blazonlaw02.SheetRolls', WHERE WHAT IT READS IS OF BULK AT MOST 1048576: true; the input reads as it did. -/
def sheetRollsUptoRow : OpenClaim := { program := "ythiaefhejdfobaa", sum := "3c8559caeb7c25257b587437973d619753c908e6118ae4746914583c54379453", func := "blazon/blazonlaw02.SheetRolls", spec := "sheetRolls", unfollowed := true, recurses := true, apart := false, narrowed := true }
def SheetRollsUptoSaid : Prop := sheetRollsUptoRow.holds Try.pinned (OpenSpec.upto sheetRollsSpec)

/-- 'blazonlaw02.SheetClears', WHERE WHAT IT READS IS OF BULK AT MOST 1048576: true; the input reads as it did. -/
def sheetClearsUptoRow : OpenClaim := { program := "ythiaefhejdfobaa", sum := "3c8559caeb7c25257b587437973d619753c908e6118ae4746914583c54379453", func := "blazon/blazonlaw02.SheetClears", spec := "sheetClears", unfollowed := true, recurses := true, apart := false, narrowed := true }
def SheetClearsUptoSaid : Prop := sheetClearsUptoRow.holds Try.pinned (OpenSpec.upto sheetClearsSpec)

/-- 'blazonlaw02.SheetLeast', WHERE WHAT IT READS IS OF BULK AT MOST 1048576: true; the input reads as it did. -/
def sheetLeastUptoRow : OpenClaim := { program := "ythiaefhejdfobaa", sum := "3c8559caeb7c25257b587437973d619753c908e6118ae4746914583c54379453", func := "blazon/blazonlaw02.SheetLeast", spec := "sheetLeast", unfollowed := true, recurses := true, apart := false, narrowed := true }
def SheetLeastUptoSaid : Prop := sheetLeastUptoRow.holds Try.pinned (OpenSpec.upto sheetLeastSpec)

end Rows
end Go.Proofs.Ythiaefhejdfobaa
