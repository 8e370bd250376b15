/-
  No cell of these rows narrows 'for every input' (looked for: loops, veiled, ifaces, maps, wideKeys, modest, calm, conditions, laid).
  DERIVED. THE GIVEN ROWS OF THIS SEAT. 5 by the template 'for every input the law returns true; each argument reads behind the call as it read before'; 0 by the template 'total and deterministic' (their statements: YtdiabpcpcilclaaTotals.lean).
  GIVEN WITH THE SEED: the statements are not yours to turn. If you find one false, say at which input.
  Laid BY PROGRAM, IN A SANDBOX (cutbox-rows.mjs): the forced cells as the released guide's own fill.sh prints them over the translation dcc4c329c6abdfa2… (all of the seat's roots in one cut). By AI agents, Wed Nov 11 2026. No macro, syntax, notation, axiom, sorry.
-/
import Derived.Test.YtdiabpcpcilclaaChecked
import GoSem.Claim
import GoSem.ClaimJoined
import GoSem.ClaimMapViews
import Derived.JoinedTies
import Derived.KernelRfl
namespace Go.Proofs.Ytdiabpcpcilclaa
/- THE CELL 'sum', in the pinned program and in every row, IS THE sha256 OF THE DUMP (.gsa) THAT YtdiabpcpcilclaaProg.lean LOADS. Nothing in Lean hashes anything: it is a label: what it is worth is what the hold of that sum in a sandbox is worth. -/
noncomputable def Try.pinned : Pinned := { name := "ytdiabpcpcilclaa", sum := "dcc4c329c6abdfa2de5bcfc06a709affb443415d0877e6330d610365770c4d89", checked := Try.checked }
namespace Rows
def none {H : Type} : Left H := { results := [], args := [] }

/-- 'blazonlaw06.RoadKept': WHATEVER THE INPUT: true; the input reads as it did. -/
def roadKeptSpec : ChangeSpec := { name := "roadKept", fn := fun _ => fun
  | [d1, d2, d3] => { results := [.lit (.bool true)], args := [d1, d2, d3] }
  | _ => none }
def roadKeptRow : OpenClaim := { program := "ytdiabpcpcilclaa", sum := "dcc4c329c6abdfa2de5bcfc06a709affb443415d0877e6330d610365770c4d89", func := "blazon/blazonlaw06.RoadKept", spec := "roadKept", unfollowed := true, recurses := true, apart := false }
def RoadKeptSaid : Prop := roadKeptRow.holds Try.pinned (OpenSpec.ofChange roadKeptSpec)

/-- ITS FALSE NEIGHBOUR: 'it returns false'. Refute it at one input. -/
def roadKeptWrong : ChangeSpec := { name := "roadKept", fn := fun _ => fun
  | [d1, d2, d3] => { results := [.lit (.bool false)], args := [d1, d2, d3] }
  | _ => none }
def RoadKeptWrongFalsely : Prop := roadKeptRow.holds Try.pinned (OpenSpec.ofChange roadKeptWrong)

/-- 'blazonlaw06.RoadUnions': WHATEVER THE INPUT: true; the input reads as it did. -/
def roadUnionsSpec : ChangeSpec := { name := "roadUnions", fn := fun _ => fun
  | [d1, d2] => { results := [.lit (.bool true)], args := [d1, d2] }
  | _ => none }
def roadUnionsRow : OpenClaim := { program := "ytdiabpcpcilclaa", sum := "dcc4c329c6abdfa2de5bcfc06a709affb443415d0877e6330d610365770c4d89", func := "blazon/blazonlaw06.RoadUnions", spec := "roadUnions", unfollowed := true, recurses := true, apart := false }
def RoadUnionsSaid : Prop := roadUnionsRow.holds Try.pinned (OpenSpec.ofChange roadUnionsSpec)

/-- ITS FALSE NEIGHBOUR: 'it returns false'. Refute it at one input. -/
def roadUnionsWrong : ChangeSpec := { name := "roadUnions", fn := fun _ => fun
  | [d1, d2] => { results := [.lit (.bool false)], args := [d1, d2] }
  | _ => none }
def RoadUnionsWrongFalsely : Prop := roadUnionsRow.holds Try.pinned (OpenSpec.ofChange roadUnionsWrong)

/-- 'blazonlaw06.RoadSets': WHATEVER THE INPUT: true; the input reads as it did. -/
def roadSetsSpec : ChangeSpec := { name := "roadSets", fn := fun _ => fun
  | [d1, d2, d3] => { results := [.lit (.bool true)], args := [d1, d2, d3] }
  | _ => none }
def roadSetsRow : OpenClaim := { program := "ytdiabpcpcilclaa", sum := "dcc4c329c6abdfa2de5bcfc06a709affb443415d0877e6330d610365770c4d89", func := "blazon/blazonlaw06.RoadSets", spec := "roadSets", unfollowed := true, recurses := true, apart := false }
def RoadSetsSaid : Prop := roadSetsRow.holds Try.pinned (OpenSpec.ofChange roadSetsSpec)

/-- ITS FALSE NEIGHBOUR: 'it returns false'. Refute it at one input. -/
def roadSetsWrong : ChangeSpec := { name := "roadSets", fn := fun _ => fun
  | [d1, d2, d3] => { results := [.lit (.bool false)], args := [d1, d2, d3] }
  | _ => none }
def RoadSetsWrongFalsely : Prop := roadSetsRow.holds Try.pinned (OpenSpec.ofChange roadSetsWrong)

/-- 'blazonlaw06.RoadCrowds': WHATEVER THE INPUT: true; the input reads as it did. -/
def roadCrowdsSpec : ChangeSpec := { name := "roadCrowds", fn := fun _ => fun
  | [d1, d2] => { results := [.lit (.bool true)], args := [d1, d2] }
  | _ => none }
def roadCrowdsRow : OpenClaim := { program := "ytdiabpcpcilclaa", sum := "dcc4c329c6abdfa2de5bcfc06a709affb443415d0877e6330d610365770c4d89", func := "blazon/blazonlaw06.RoadCrowds", spec := "roadCrowds", unfollowed := true, recurses := true, apart := false }
def RoadCrowdsSaid : Prop := roadCrowdsRow.holds Try.pinned (OpenSpec.ofChange roadCrowdsSpec)

/-- ITS FALSE NEIGHBOUR: 'it returns false'. Refute it at one input. -/
def roadCrowdsWrong : ChangeSpec := { name := "roadCrowds", fn := fun _ => fun
  | [d1, d2] => { results := [.lit (.bool false)], args := [d1, d2] }
  | _ => none }
def RoadCrowdsWrongFalsely : Prop := roadCrowdsRow.holds Try.pinned (OpenSpec.ofChange roadCrowdsWrong)

/-- 'blazontop.TopCarried': WHATEVER THE INPUT: true; the input reads as it did. -/
def topCarriedSpec : ChangeSpec := { name := "topCarried", fn := fun _ => fun
  | [d] => { results := [.lit (.bool true)], args := [d] }
  | _ => none }
def topCarriedRow : OpenClaim := { program := "ytdiabpcpcilclaa", sum := "dcc4c329c6abdfa2de5bcfc06a709affb443415d0877e6330d610365770c4d89", func := "blazon/blazontop.TopCarried", spec := "topCarried", unfollowed := true, recurses := true, apart := false }
def TopCarriedSaid : Prop := topCarriedRow.holds Try.pinned (OpenSpec.ofChange topCarriedSpec)

/-- ITS FALSE NEIGHBOUR: 'it returns false'. Refute it at one input. -/
def topCarriedWrong : ChangeSpec := { name := "topCarried", fn := fun _ => fun
  | [d] => { results := [.lit (.bool false)], args := [d] }
  | _ => none }
def TopCarriedWrongFalsely : Prop := topCarriedRow.holds Try.pinned (OpenSpec.ofChange topCarriedWrong)

/- THE SECOND FORM. 'bulk': how many values and letters a reading holds, each counted each time it is reached (what is shared counts as often as it is met; a slice's spare places count too). A statement '..UptoSaid' is the law's where the arguments, and the package variables that the reading takes, are together of bulk at most 1048576: NARROWER than '..Said'. Prove '..Said' where nothing that the law and all that it calls make is longer than what came in: it says more and counts as full. Else prove '..UptoSaid'. A law counts once. -/
mutual
def uptoBulk {H : Type} : DataW H → Nat
  | .lit (.string bytes) => bytes.length + 1
  | .lit _ => 1
  | .nil => 1
  | .ptr d => uptoBulk d + 1
  | .slice elems spare => uptoBulkAll elems + uptoBulkAll spare + 1
  | .agg parts => uptoBulkAll parts + 1
  | .iface _ d => uptoBulk d + 1
  | .map entries => uptoBulkEntries entries + 1
  | .held _ => 1
def uptoBulkAll {H : Type} : List (DataW H) → Nat
  | [] => 0
  | d :: r => uptoBulk d + uptoBulkAll r
def uptoBulkEntries {H : Type} : List (Lit × DataW H) → Nat
  | [] => 0
  | x :: r => uptoBulkEntry x + uptoBulkEntries r
def uptoBulkEntry {H : Type} : Lit × DataW H → Nat
  | (.string bytes, d) => bytes.length + uptoBulk d + 1
  | (_, d) => uptoBulk d + 1
 end
def uptoSmall : (H : Type) → List (DataW H) → Bool := fun _ ds => decide (uptoBulkAll ds ≤ 1048576)
def OpenSpec.upto (s : _root_.Go.ChangeSpec) : _root_.Go.OpenSpec := { _root_.Go.OpenSpec.ofChange s with cond := some uptoSmall }

/-- 'blazonlaw06.RoadKept', WHERE WHAT IT READS IS OF BULK AT MOST 1048576: true; the input reads as it did. -/
def roadKeptUptoRow : OpenClaim := { program := "ytdiabpcpcilclaa", sum := "dcc4c329c6abdfa2de5bcfc06a709affb443415d0877e6330d610365770c4d89", func := "blazon/blazonlaw06.RoadKept", spec := "roadKept", unfollowed := true, recurses := true, apart := false, narrowed := true }
def RoadKeptUptoSaid : Prop := roadKeptUptoRow.holds Try.pinned (OpenSpec.upto roadKeptSpec)

/-- 'blazonlaw06.RoadUnions', WHERE WHAT IT READS IS OF BULK AT MOST 1048576: true; the input reads as it did. -/
def roadUnionsUptoRow : OpenClaim := { program := "ytdiabpcpcilclaa", sum := "dcc4c329c6abdfa2de5bcfc06a709affb443415d0877e6330d610365770c4d89", func := "blazon/blazonlaw06.RoadUnions", spec := "roadUnions", unfollowed := true, recurses := true, apart := false, narrowed := true }
def RoadUnionsUptoSaid : Prop := roadUnionsUptoRow.holds Try.pinned (OpenSpec.upto roadUnionsSpec)

/-- 'blazonlaw06.RoadSets', WHERE WHAT IT READS IS OF BULK AT MOST 1048576: true; the input reads as it did. -/
def roadSetsUptoRow : OpenClaim := { program := "ytdiabpcpcilclaa", sum := "dcc4c329c6abdfa2de5bcfc06a709affb443415d0877e6330d610365770c4d89", func := "blazon/blazonlaw06.RoadSets", spec := "roadSets", unfollowed := true, recurses := true, apart := false, narrowed := true }
def RoadSetsUptoSaid : Prop := roadSetsUptoRow.holds Try.pinned (OpenSpec.upto roadSetsSpec)

/-- 'blazonlaw06.RoadCrowds', WHERE WHAT IT READS IS OF BULK AT MOST 1048576: true; the input reads as it did. -/
def roadCrowdsUptoRow : OpenClaim := { program := "ytdiabpcpcilclaa", sum := "dcc4c329c6abdfa2de5bcfc06a709affb443415d0877e6330d610365770c4d89", func := "blazon/blazonlaw06.RoadCrowds", spec := "roadCrowds", unfollowed := true, recurses := true, apart := false, narrowed := true }
def RoadCrowdsUptoSaid : Prop := roadCrowdsUptoRow.holds Try.pinned (OpenSpec.upto roadCrowdsSpec)

/-- 'blazontop.TopCarried', WHERE WHAT IT READS IS OF BULK AT MOST 1048576: true; the input reads as it did. -/
def topCarriedUptoRow : OpenClaim := { program := "ytdiabpcpcilclaa", sum := "dcc4c329c6abdfa2de5bcfc06a709affb443415d0877e6330d610365770c4d89", func := "blazon/blazontop.TopCarried", spec := "topCarried", unfollowed := true, recurses := true, apart := false, narrowed := true }
def TopCarriedUptoSaid : Prop := topCarriedUptoRow.holds Try.pinned (OpenSpec.upto topCarriedSpec)

end Rows
end Go.Proofs.Ytdiabpcpcilclaa
