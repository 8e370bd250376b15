/-
  No cell of these rows narrows 'for every input' (looked for: loops, veiled, ifaces, maps, wideKeys, modest, calm, conditions, laid).
  DERIVED. THE GIVEN ROWS OF THIS SEAT. 4 by the template 'for every input the law returns true; each argument reads behind the call as it read before'; 0 by the template 'total and deterministic' (their statements: YtghlhjiomebmhaaTotals.lean).
  GIVEN WITH THE SEED: the statements are not yours to turn. If you find one false, say at which input.
  Laid BY PROGRAM, IN A SANDBOX (cutbox-rows.mjs): the forced cells as the released guide's own fill.sh prints them over the translation e6637fdfb98ec499… (all of the seat's roots in one cut). By AI agents, Wed Nov 11 2026. No macro, syntax, notation, axiom, sorry.
-/
import Derived.Test.YtghlhjiomebmhaaChecked
import GoSem.Claim
import GoSem.ClaimJoined
import GoSem.ClaimMapViews
import Derived.JoinedTies
import Derived.KernelRfl
namespace Go.Proofs.Ytghlhjiomebmhaa
/- THE CELL 'sum', in the pinned program and in every row, IS THE sha256 OF THE DUMP (.gsa) THAT YtghlhjiomebmhaaProg.lean LOADS. Nothing in Lean hashes anything: it is a label: what it is worth is what the hold of that sum in a sandbox is worth. -/
noncomputable def Try.pinned : Pinned := { name := "ytghlhjiomebmhaa", sum := "e6637fdfb98ec4999ea3f91529489ed3c273cab427c54fa9a3fbdd501f61c636", checked := Try.checked }
namespace Rows
def none {H : Type} : Left H := { results := [], args := [] }

/-- 'blazonlaw08.NightRight': WHATEVER THE INPUT: true; the input reads as it did. -/
def nightRightSpec : ChangeSpec := { name := "nightRight", fn := fun _ => fun
  | [d1, d2] => { results := [.lit (.bool true)], args := [d1, d2] }
  | _ => none }
def nightRightRow : OpenClaim := { program := "ytghlhjiomebmhaa", sum := "e6637fdfb98ec4999ea3f91529489ed3c273cab427c54fa9a3fbdd501f61c636", func := "blazon/blazonlaw08.NightRight", spec := "nightRight", unfollowed := true, recurses := true, apart := false }
def NightRightSaid : Prop := nightRightRow.holds Try.pinned (OpenSpec.ofChange nightRightSpec)

/-- ITS FALSE NEIGHBOUR: 'it returns false'. Refute it at one input. -/
def nightRightWrong : ChangeSpec := { name := "nightRight", fn := fun _ => fun
  | [d1, d2] => { results := [.lit (.bool false)], args := [d1, d2] }
  | _ => none }
def NightRightWrongFalsely : Prop := nightRightRow.holds Try.pinned (OpenSpec.ofChange nightRightWrong)

/-- 'blazonlaw08.NightTours': WHATEVER THE INPUT: true; the input reads as it did. -/
def nightToursSpec : ChangeSpec := { name := "nightTours", fn := fun _ => fun
  | [d1, d2] => { results := [.lit (.bool true)], args := [d1, d2] }
  | _ => none }
def nightToursRow : OpenClaim := { program := "ytghlhjiomebmhaa", sum := "e6637fdfb98ec4999ea3f91529489ed3c273cab427c54fa9a3fbdd501f61c636", func := "blazon/blazonlaw08.NightTours", spec := "nightTours", unfollowed := true, recurses := true, apart := false }
def NightToursSaid : Prop := nightToursRow.holds Try.pinned (OpenSpec.ofChange nightToursSpec)

/-- ITS FALSE NEIGHBOUR: 'it returns false'. Refute it at one input. -/
def nightToursWrong : ChangeSpec := { name := "nightTours", fn := fun _ => fun
  | [d1, d2] => { results := [.lit (.bool false)], args := [d1, d2] }
  | _ => none }
def NightToursWrongFalsely : Prop := nightToursRow.holds Try.pinned (OpenSpec.ofChange nightToursWrong)

/-- 'blazonlaw08.NightBest': WHATEVER THE INPUT: true; the input reads as it did. -/
def nightBestSpec : ChangeSpec := { name := "nightBest", fn := fun _ => fun
  | [d] => { results := [.lit (.bool true)], args := [d] }
  | _ => none }
def nightBestRow : OpenClaim := { program := "ytghlhjiomebmhaa", sum := "e6637fdfb98ec4999ea3f91529489ed3c273cab427c54fa9a3fbdd501f61c636", func := "blazon/blazonlaw08.NightBest", spec := "nightBest", unfollowed := true, recurses := true, apart := false }
def NightBestSaid : Prop := nightBestRow.holds Try.pinned (OpenSpec.ofChange nightBestSpec)

/-- ITS FALSE NEIGHBOUR: 'it returns false'. Refute it at one input. -/
def nightBestWrong : ChangeSpec := { name := "nightBest", fn := fun _ => fun
  | [d] => { results := [.lit (.bool false)], args := [d] }
  | _ => none }
def NightBestWrongFalsely : Prop := nightBestRow.holds Try.pinned (OpenSpec.ofChange nightBestWrong)

/-- 'blazonlaw08.NightPlans': WHATEVER THE INPUT: true; the input reads as it did. -/
def nightPlansSpec : ChangeSpec := { name := "nightPlans", fn := fun _ => fun
  | [d] => { results := [.lit (.bool true)], args := [d] }
  | _ => none }
def nightPlansRow : OpenClaim := { program := "ytghlhjiomebmhaa", sum := "e6637fdfb98ec4999ea3f91529489ed3c273cab427c54fa9a3fbdd501f61c636", func := "blazon/blazonlaw08.NightPlans", spec := "nightPlans", unfollowed := true, recurses := true, apart := false }
def NightPlansSaid : Prop := nightPlansRow.holds Try.pinned (OpenSpec.ofChange nightPlansSpec)

/-- ITS FALSE NEIGHBOUR: 'it returns false'. Refute it at one input. -/
def nightPlansWrong : ChangeSpec := { name := "nightPlans", fn := fun _ => fun
  | [d] => { results := [.lit (.bool false)], args := [d] }
  | _ => none }
def NightPlansWrongFalsely : Prop := nightPlansRow.holds Try.pinned (OpenSpec.ofChange nightPlansWrong)

/- THE SECOND FORM. 'bulk': how many values and letters a reading holds, each counted each time it is reached (what is shared counts as often as it is met; a slice's spare places count too). A statement '..UptoSaid' is the law's where the arguments, and the package variables that the reading takes, are together of bulk at most 1048576: NARROWER than '..Said'. Prove '..Said' where nothing that the law and all that it calls make is longer than what came in: it says more and counts as full. Else prove '..UptoSaid'. A law counts once. -/
mutual
def uptoBulk {H : Type} : DataW H → Nat
  | .lit (.string bytes) => bytes.length + 1
  | .lit _ => 1
  | .nil => 1
  | .ptr d => uptoBulk d + 1
  | .slice elems spare => uptoBulkAll elems + uptoBulkAll spare + 1
  | .agg parts => uptoBulkAll parts + 1
  | .iface _ d => uptoBulk d + 1
  | .map entries => uptoBulkEntries entries + 1
  | .held _ => 1
def uptoBulkAll {H : Type} : List (DataW H) → Nat
  | [] => 0
  | d :: r => uptoBulk d + uptoBulkAll r
def uptoBulkEntries {H : Type} : List (Lit × DataW H) → Nat
  | [] => 0
  | x :: r => uptoBulkEntry x + uptoBulkEntries r
def uptoBulkEntry {H : Type} : Lit × DataW H → Nat
  | (.string bytes, d) => bytes.length + uptoBulk d + 1
  | (_, d) => uptoBulk d + 1
 end
def uptoSmall : (H : Type) → List (DataW H) → Bool := fun _ ds => decide (uptoBulkAll ds ≤ 1048576)
def OpenSpec.upto (s : _root_.Go.ChangeSpec) : _root_.Go.OpenSpec := { _root_.Go.OpenSpec.ofChange s with cond := some uptoSmall }

/-- 'blazonlaw08.NightRight', WHERE WHAT IT READS IS OF BULK AT MOST 1048576: true; the input reads as it did. -/
def nightRightUptoRow : OpenClaim := { program := "ytghlhjiomebmhaa", sum := "e6637fdfb98ec4999ea3f91529489ed3c273cab427c54fa9a3fbdd501f61c636", func := "blazon/blazonlaw08.NightRight", spec := "nightRight", unfollowed := true, recurses := true, apart := false, narrowed := true }
def NightRightUptoSaid : Prop := nightRightUptoRow.holds Try.pinned (OpenSpec.upto nightRightSpec)

/-- 'blazonlaw08.NightTours', WHERE WHAT IT READS IS OF BULK AT MOST 1048576: true; the input reads as it did. -/
def nightToursUptoRow : OpenClaim := { program := "ytghlhjiomebmhaa", sum := "e6637fdfb98ec4999ea3f91529489ed3c273cab427c54fa9a3fbdd501f61c636", func := "blazon/blazonlaw08.NightTours", spec := "nightTours", unfollowed := true, recurses := true, apart := false, narrowed := true }
def NightToursUptoSaid : Prop := nightToursUptoRow.holds Try.pinned (OpenSpec.upto nightToursSpec)

/-- 'blazonlaw08.NightBest', WHERE WHAT IT READS IS OF BULK AT MOST 1048576: true; the input reads as it did. -/
def nightBestUptoRow : OpenClaim := { program := "ytghlhjiomebmhaa", sum := "e6637fdfb98ec4999ea3f91529489ed3c273cab427c54fa9a3fbdd501f61c636", func := "blazon/blazonlaw08.NightBest", spec := "nightBest", unfollowed := true, recurses := true, apart := false, narrowed := true }
def NightBestUptoSaid : Prop := nightBestUptoRow.holds Try.pinned (OpenSpec.upto nightBestSpec)

/-- 'blazonlaw08.NightPlans', WHERE WHAT IT READS IS OF BULK AT MOST 1048576: true; the input reads as it did. -/
def nightPlansUptoRow : OpenClaim := { program := "ytghlhjiomebmhaa", sum := "e6637fdfb98ec4999ea3f91529489ed3c273cab427c54fa9a3fbdd501f61c636", func := "blazon/blazonlaw08.NightPlans", spec := "nightPlans", unfollowed := true, recurses := true, apart := false, narrowed := true }
def NightPlansUptoSaid : Prop := nightPlansUptoRow.holds Try.pinned (OpenSpec.upto nightPlansSpec)

end Rows
end Go.Proofs.Ytghlhjiomebmhaa
