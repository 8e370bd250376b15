/-
  No cell of these rows narrows 'for every input' (looked for: loops, veiled, ifaces, maps, wideKeys, modest, calm, conditions, laid).
  DERIVED. THE GIVEN ROWS OF THIS SEAT. 8 by the template 'for every input the law returns true; each argument reads behind the call as it read before'; 0 by the template 'total and deterministic' (their statements: YtgphkfonjfdifaaTotals.lean).
  GIVEN WITH THE SEED: the statements are not yours to turn. If you find one false, say at which input.
  Laid BY PROGRAM, IN A SANDBOX (cutbox-rows.mjs): the forced cells as the released guide's own fill.sh prints them over the translation eeded5854861a6d8… (all of the seat's roots in one cut). By AI agents, Wed Nov 11 2026. No macro, syntax, notation, axiom, sorry.
-/
import Derived.Test.YtgphkfonjfdifaaChecked
import GoSem.Claim
import GoSem.ClaimJoined
import GoSem.ClaimMapViews
import Derived.JoinedTies
import Derived.KernelRfl
namespace Go.Proofs.Ytgphkfonjfdifaa
/- THE CELL 'sum', in the pinned program and in every row, IS THE sha256 OF THE DUMP (.gsa) THAT YtgphkfonjfdifaaProg.lean LOADS. Nothing in Lean hashes anything: it is a label: what it is worth is what the hold of that sum in a sandbox is worth. -/
noncomputable def Try.pinned : Pinned := { name := "ytgphkfonjfdifaa", sum := "eeded5854861a6d861a4c989e1e7ca0dd7762aab45333e5eb39d8a60ec5e1042", checked := Try.checked }
namespace Rows
def none {H : Type} : Left H := { results := [], args := [] }

/-- 'blazonlaw05.ShopJudges': WHATEVER THE INPUT: true; the input reads as it did. -/
def shopJudgesSpec : ChangeSpec := { name := "shopJudges", fn := fun _ => fun
  | [d1, d2] => { results := [.lit (.bool true)], args := [d1, d2] }
  | _ => none }
def shopJudgesRow : OpenClaim := { program := "ytgphkfonjfdifaa", sum := "eeded5854861a6d861a4c989e1e7ca0dd7762aab45333e5eb39d8a60ec5e1042", func := "blazon/blazonlaw05.ShopJudges", spec := "shopJudges", unfollowed := true, recurses := true, apart := false }
def ShopJudgesSaid : Prop := shopJudgesRow.holds Try.pinned (OpenSpec.ofChange shopJudgesSpec)

/-- ITS FALSE NEIGHBOUR: 'it returns false'. Refute it at one input. -/
def shopJudgesWrong : ChangeSpec := { name := "shopJudges", fn := fun _ => fun
  | [d1, d2] => { results := [.lit (.bool false)], args := [d1, d2] }
  | _ => none }
def ShopJudgesWrongFalsely : Prop := shopJudgesRow.holds Try.pinned (OpenSpec.ofChange shopJudgesWrong)

/-- 'blazonlaw05.ShopOrders': WHATEVER THE INPUT: true; the input reads as it did. -/
def shopOrdersSpec : ChangeSpec := { name := "shopOrders", fn := fun _ => fun
  | [d1, d2, d3] => { results := [.lit (.bool true)], args := [d1, d2, d3] }
  | _ => none }
def shopOrdersRow : OpenClaim := { program := "ytgphkfonjfdifaa", sum := "eeded5854861a6d861a4c989e1e7ca0dd7762aab45333e5eb39d8a60ec5e1042", func := "blazon/blazonlaw05.ShopOrders", spec := "shopOrders", unfollowed := true, recurses := true, apart := false }
def ShopOrdersSaid : Prop := shopOrdersRow.holds Try.pinned (OpenSpec.ofChange shopOrdersSpec)

/-- ITS FALSE NEIGHBOUR: 'it returns false'. Refute it at one input. -/
def shopOrdersWrong : ChangeSpec := { name := "shopOrders", fn := fun _ => fun
  | [d1, d2, d3] => { results := [.lit (.bool false)], args := [d1, d2, d3] }
  | _ => none }
def ShopOrdersWrongFalsely : Prop := shopOrdersRow.holds Try.pinned (OpenSpec.ofChange shopOrdersWrong)

/-- 'blazonlaw05.ShopDispatches': WHATEVER THE INPUT: true; the input reads as it did. -/
def shopDispatchesSpec : ChangeSpec := { name := "shopDispatches", fn := fun _ => fun
  | [d] => { results := [.lit (.bool true)], args := [d] }
  | _ => none }
def shopDispatchesRow : OpenClaim := { program := "ytgphkfonjfdifaa", sum := "eeded5854861a6d861a4c989e1e7ca0dd7762aab45333e5eb39d8a60ec5e1042", func := "blazon/blazonlaw05.ShopDispatches", spec := "shopDispatches", unfollowed := true, recurses := true, apart := false }
def ShopDispatchesSaid : Prop := shopDispatchesRow.holds Try.pinned (OpenSpec.ofChange shopDispatchesSpec)

/-- ITS FALSE NEIGHBOUR: 'it returns false'. Refute it at one input. -/
def shopDispatchesWrong : ChangeSpec := { name := "shopDispatches", fn := fun _ => fun
  | [d] => { results := [.lit (.bool false)], args := [d] }
  | _ => none }
def ShopDispatchesWrongFalsely : Prop := shopDispatchesRow.holds Try.pinned (OpenSpec.ofChange shopDispatchesWrong)

/-- 'blazonlaw05.ShopPulls': WHATEVER THE INPUT: true; the input reads as it did. -/
def shopPullsSpec : ChangeSpec := { name := "shopPulls", fn := fun _ => fun
  | [d1, d2] => { results := [.lit (.bool true)], args := [d1, d2] }
  | _ => none }
def shopPullsRow : OpenClaim := { program := "ytgphkfonjfdifaa", sum := "eeded5854861a6d861a4c989e1e7ca0dd7762aab45333e5eb39d8a60ec5e1042", func := "blazon/blazonlaw05.ShopPulls", spec := "shopPulls", unfollowed := true, recurses := true, apart := false }
def ShopPullsSaid : Prop := shopPullsRow.holds Try.pinned (OpenSpec.ofChange shopPullsSpec)

/-- ITS FALSE NEIGHBOUR: 'it returns false'. Refute it at one input. -/
def shopPullsWrong : ChangeSpec := { name := "shopPulls", fn := fun _ => fun
  | [d1, d2] => { results := [.lit (.bool false)], args := [d1, d2] }
  | _ => none }
def ShopPullsWrongFalsely : Prop := shopPullsRow.holds Try.pinned (OpenSpec.ofChange shopPullsWrong)

/-- 'blazonlaw05.ShopRight': WHATEVER THE INPUT: true; the input reads as it did. -/
def shopRightSpec : ChangeSpec := { name := "shopRight", fn := fun _ => fun
  | [d1, d2] => { results := [.lit (.bool true)], args := [d1, d2] }
  | _ => none }
def shopRightRow : OpenClaim := { program := "ytgphkfonjfdifaa", sum := "eeded5854861a6d861a4c989e1e7ca0dd7762aab45333e5eb39d8a60ec5e1042", func := "blazon/blazonlaw05.ShopRight", spec := "shopRight", unfollowed := true, recurses := true, apart := false }
def ShopRightSaid : Prop := shopRightRow.holds Try.pinned (OpenSpec.ofChange shopRightSpec)

/-- ITS FALSE NEIGHBOUR: 'it returns false'. Refute it at one input. -/
def shopRightWrong : ChangeSpec := { name := "shopRight", fn := fun _ => fun
  | [d1, d2] => { results := [.lit (.bool false)], args := [d1, d2] }
  | _ => none }
def ShopRightWrongFalsely : Prop := shopRightRow.holds Try.pinned (OpenSpec.ofChange shopRightWrong)

/-- 'blazonlaw05.ShopBounds': WHATEVER THE INPUT: true; the input reads as it did. -/
def shopBoundsSpec : ChangeSpec := { name := "shopBounds", fn := fun _ => fun
  | [d1, d2] => { results := [.lit (.bool true)], args := [d1, d2] }
  | _ => none }
def shopBoundsRow : OpenClaim := { program := "ytgphkfonjfdifaa", sum := "eeded5854861a6d861a4c989e1e7ca0dd7762aab45333e5eb39d8a60ec5e1042", func := "blazon/blazonlaw05.ShopBounds", spec := "shopBounds", unfollowed := true, recurses := true, apart := false }
def ShopBoundsSaid : Prop := shopBoundsRow.holds Try.pinned (OpenSpec.ofChange shopBoundsSpec)

/-- ITS FALSE NEIGHBOUR: 'it returns false'. Refute it at one input. -/
def shopBoundsWrong : ChangeSpec := { name := "shopBounds", fn := fun _ => fun
  | [d1, d2] => { results := [.lit (.bool false)], args := [d1, d2] }
  | _ => none }
def ShopBoundsWrongFalsely : Prop := shopBoundsRow.holds Try.pinned (OpenSpec.ofChange shopBoundsWrong)

/-- 'blazonlaw05.ShopAlone': WHATEVER THE INPUT: true; the input reads as it did. -/
def shopAloneSpec : ChangeSpec := { name := "shopAlone", fn := fun _ => fun
  | [d1, d2] => { results := [.lit (.bool true)], args := [d1, d2] }
  | _ => none }
def shopAloneRow : OpenClaim := { program := "ytgphkfonjfdifaa", sum := "eeded5854861a6d861a4c989e1e7ca0dd7762aab45333e5eb39d8a60ec5e1042", func := "blazon/blazonlaw05.ShopAlone", spec := "shopAlone", unfollowed := true, recurses := true, apart := false }
def ShopAloneSaid : Prop := shopAloneRow.holds Try.pinned (OpenSpec.ofChange shopAloneSpec)

/-- ITS FALSE NEIGHBOUR: 'it returns false'. Refute it at one input. -/
def shopAloneWrong : ChangeSpec := { name := "shopAlone", fn := fun _ => fun
  | [d1, d2] => { results := [.lit (.bool false)], args := [d1, d2] }
  | _ => none }
def ShopAloneWrongFalsely : Prop := shopAloneRow.holds Try.pinned (OpenSpec.ofChange shopAloneWrong)

/-- 'blazonlaw05.ShopEarlier': WHATEVER THE INPUT: true; the input reads as it did. -/
def shopEarlierSpec : ChangeSpec := { name := "shopEarlier", fn := fun _ => fun
  | [d1, d2] => { results := [.lit (.bool true)], args := [d1, d2] }
  | _ => none }
def shopEarlierRow : OpenClaim := { program := "ytgphkfonjfdifaa", sum := "eeded5854861a6d861a4c989e1e7ca0dd7762aab45333e5eb39d8a60ec5e1042", func := "blazon/blazonlaw05.ShopEarlier", spec := "shopEarlier", unfollowed := true, recurses := true, apart := false }
def ShopEarlierSaid : Prop := shopEarlierRow.holds Try.pinned (OpenSpec.ofChange shopEarlierSpec)

/-- ITS FALSE NEIGHBOUR: 'it returns false'. Refute it at one input. -/
def shopEarlierWrong : ChangeSpec := { name := "shopEarlier", fn := fun _ => fun
  | [d1, d2] => { results := [.lit (.bool false)], args := [d1, d2] }
  | _ => none }
def ShopEarlierWrongFalsely : Prop := shopEarlierRow.holds Try.pinned (OpenSpec.ofChange shopEarlierWrong)

/- THE SECOND FORM. 'bulk': how many values and letters a reading holds, each counted each time it is reached (what is shared counts as often as it is met; a slice's spare places count too). A statement '..UptoSaid' is the law's where the arguments, and the package variables that the reading takes, are together of bulk at most 1048576: NARROWER than '..Said'. Prove '..Said' where nothing that the law and all that it calls make is longer than what came in: it says more and counts as full. Else prove '..UptoSaid'. A law counts once. -/
mutual
def uptoBulk {H : Type} : DataW H → Nat
  | .lit (.string bytes) => bytes.length + 1
  | .lit _ => 1
  | .nil => 1
  | .ptr d => uptoBulk d + 1
  | .slice elems spare => uptoBulkAll elems + uptoBulkAll spare + 1
  | .agg parts => uptoBulkAll parts + 1
  | .iface _ d => uptoBulk d + 1
  | .map entries => uptoBulkEntries entries + 1
  | .held _ => 1
def uptoBulkAll {H : Type} : List (DataW H) → Nat
  | [] => 0
  | d :: r => uptoBulk d + uptoBulkAll r
def uptoBulkEntries {H : Type} : List (Lit × DataW H) → Nat
  | [] => 0
  | x :: r => uptoBulkEntry x + uptoBulkEntries r
def uptoBulkEntry {H : Type} : Lit × DataW H → Nat
  | (.string bytes, d) => bytes.length + uptoBulk d + 1
  | (_, d) => uptoBulk d + 1
 end
def uptoSmall : (H : Type) → List (DataW H) → Bool := fun _ ds => decide (uptoBulkAll ds ≤ 1048576)
def OpenSpec.upto (s : _root_.Go.ChangeSpec) : _root_.Go.OpenSpec := { _root_.Go.OpenSpec.ofChange s with cond := some uptoSmall }

/-- 'blazonlaw05.ShopJudges', WHERE WHAT IT READS IS OF BULK AT MOST 1048576: true; the input reads as it did. -/
def shopJudgesUptoRow : OpenClaim := { program := "ytgphkfonjfdifaa", sum := "eeded5854861a6d861a4c989e1e7ca0dd7762aab45333e5eb39d8a60ec5e1042", func := "blazon/blazonlaw05.ShopJudges", spec := "shopJudges", unfollowed := true, recurses := true, apart := false, narrowed := true }
def ShopJudgesUptoSaid : Prop := shopJudgesUptoRow.holds Try.pinned (OpenSpec.upto shopJudgesSpec)

/-- 'blazonlaw05.ShopOrders', WHERE WHAT IT READS IS OF BULK AT MOST 1048576: true; the input reads as it did. -/
def shopOrdersUptoRow : OpenClaim := { program := "ytgphkfonjfdifaa", sum := "eeded5854861a6d861a4c989e1e7ca0dd7762aab45333e5eb39d8a60ec5e1042", func := "blazon/blazonlaw05.ShopOrders", spec := "shopOrders", unfollowed := true, recurses := true, apart := false, narrowed := true }
def ShopOrdersUptoSaid : Prop := shopOrdersUptoRow.holds Try.pinned (OpenSpec.upto shopOrdersSpec)

/-- 'blazonlaw05.ShopDispatches', WHERE WHAT IT READS IS OF BULK AT MOST 1048576: true; the input reads as it did. -/
def shopDispatchesUptoRow : OpenClaim := { program := "ytgphkfonjfdifaa", sum := "eeded5854861a6d861a4c989e1e7ca0dd7762aab45333e5eb39d8a60ec5e1042", func := "blazon/blazonlaw05.ShopDispatches", spec := "shopDispatches", unfollowed := true, recurses := true, apart := false, narrowed := true }
def ShopDispatchesUptoSaid : Prop := shopDispatchesUptoRow.holds Try.pinned (OpenSpec.upto shopDispatchesSpec)

/-- 'blazonlaw05.ShopPulls', WHERE WHAT IT READS IS OF BULK AT MOST 1048576: true; the input reads as it did. -/
def shopPullsUptoRow : OpenClaim := { program := "ytgphkfonjfdifaa", sum := "eeded5854861a6d861a4c989e1e7ca0dd7762aab45333e5eb39d8a60ec5e1042", func := "blazon/blazonlaw05.ShopPulls", spec := "shopPulls", unfollowed := true, recurses := true, apart := false, narrowed := true }
def ShopPullsUptoSaid : Prop := shopPullsUptoRow.holds Try.pinned (OpenSpec.upto shopPullsSpec)

/-- 'blazonlaw05.ShopRight', WHERE WHAT IT READS IS OF BULK AT MOST 1048576: true; the input reads as it did. -/
def shopRightUptoRow : OpenClaim := { program := "ytgphkfonjfdifaa", sum := "eeded5854861a6d861a4c989e1e7ca0dd7762aab45333e5eb39d8a60ec5e1042", func := "blazon/blazonlaw05.ShopRight", spec := "shopRight", unfollowed := true, recurses := true, apart := false, narrowed := true }
def ShopRightUptoSaid : Prop := shopRightUptoRow.holds Try.pinned (OpenSpec.upto shopRightSpec)

/-- 'blazonlaw05.ShopBounds', WHERE WHAT IT READS IS OF BULK AT MOST 1048576: true; the input reads as it did. -/
def shopBoundsUptoRow : OpenClaim := { program := "ytgphkfonjfdifaa", sum := "eeded5854861a6d861a4c989e1e7ca0dd7762aab45333e5eb39d8a60ec5e1042", func := "blazon/blazonlaw05.ShopBounds", spec := "shopBounds", unfollowed := true, recurses := true, apart := false, narrowed := true }
def ShopBoundsUptoSaid : Prop := shopBoundsUptoRow.holds Try.pinned (OpenSpec.upto shopBoundsSpec)

/-- 'blazonlaw05.ShopAlone', WHERE WHAT IT READS IS OF BULK AT MOST 1048576: true; the input reads as it did. -/
def shopAloneUptoRow : OpenClaim := { program := "ytgphkfonjfdifaa", sum := "eeded5854861a6d861a4c989e1e7ca0dd7762aab45333e5eb39d8a60ec5e1042", func := "blazon/blazonlaw05.ShopAlone", spec := "shopAlone", unfollowed := true, recurses := true, apart := false, narrowed := true }
def ShopAloneUptoSaid : Prop := shopAloneUptoRow.holds Try.pinned (OpenSpec.upto shopAloneSpec)

/-- 'blazonlaw05.ShopEarlier', WHERE WHAT IT READS IS OF BULK AT MOST 1048576: true; the input reads as it did. -/
def shopEarlierUptoRow : OpenClaim := { program := "ytgphkfonjfdifaa", sum := "eeded5854861a6d861a4c989e1e7ca0dd7762aab45333e5eb39d8a60ec5e1042", func := "blazon/blazonlaw05.ShopEarlier", spec := "shopEarlier", unfollowed := true, recurses := true, apart := false, narrowed := true }
def ShopEarlierUptoSaid : Prop := shopEarlierUptoRow.holds Try.pinned (OpenSpec.upto shopEarlierSpec)

end Rows
end Go.Proofs.Ytgphkfonjfdifaa
