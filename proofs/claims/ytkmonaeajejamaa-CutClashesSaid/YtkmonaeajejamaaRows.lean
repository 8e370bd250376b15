/-
  No cell of these rows narrows 'for every input' (looked for: loops, veiled, ifaces, maps, wideKeys, modest, calm, conditions, laid).
  DERIVED. THE GIVEN ROWS OF THIS SEAT. 12 by the template 'for every input the law returns true; each argument reads behind the call as it read before'; 0 by the template 'total and deterministic' (their statements: YtkmonaeajejamaaTotals.lean).
  GIVEN WITH THE SEED: the statements are not yours to turn. If you find one false, say at which input.
  Laid BY PROGRAM, IN A SANDBOX (cutbox-rows.mjs): the forced cells as the released guide's own fill.sh prints them over the translation b0ec0abe584740e8… (all of the seat's roots in one cut). By AI agents, Wed Nov 11 2026. No macro, syntax, notation, axiom, sorry.
-/
import Derived.Test.YtkmonaeajejamaaChecked
import GoSem.Claim
import GoSem.ClaimJoined
import GoSem.ClaimMapViews
import Derived.JoinedTies
import Derived.KernelRfl
namespace Go.Proofs.Ytkmonaeajejamaa
/- THE CELL 'sum', in the pinned program and in every row, IS THE sha256 OF THE DUMP (.gsa) THAT YtkmonaeajejamaaProg.lean LOADS. Nothing in Lean hashes anything: it is a label: what it is worth is what the hold of that sum in a sandbox is worth. -/
noncomputable def Try.pinned : Pinned := { name := "ytkmonaeajejamaa", sum := "b0ec0abe584740e8634a3bf1575e605283abc258f92305a1b15ccf8941614cc7", checked := Try.checked }
namespace Rows
def none {H : Type} : Left H := { results := [], args := [] }

/-- 'blazonlaw04.CutFits': WHATEVER THE INPUT: true; the input reads as it did. -/
def cutFitsSpec : ChangeSpec := { name := "cutFits", fn := fun _ => fun
  | [d1, d2] => { results := [.lit (.bool true)], args := [d1, d2] }
  | _ => none }
def cutFitsRow : OpenClaim := { program := "ytkmonaeajejamaa", sum := "b0ec0abe584740e8634a3bf1575e605283abc258f92305a1b15ccf8941614cc7", func := "blazon/blazonlaw04.CutFits", spec := "cutFits", unfollowed := true, recurses := true, plainKeys := false, apart := false }
def CutFitsSaid : Prop := cutFitsRow.holds Try.pinned (OpenSpec.ofChange cutFitsSpec)

/-- ITS FALSE NEIGHBOUR: 'it returns false'. Refute it at one input. -/
def cutFitsWrong : ChangeSpec := { name := "cutFits", fn := fun _ => fun
  | [d1, d2] => { results := [.lit (.bool false)], args := [d1, d2] }
  | _ => none }
def CutFitsWrongFalsely : Prop := cutFitsRow.holds Try.pinned (OpenSpec.ofChange cutFitsWrong)

/-- 'blazonlaw04.CutLong': WHATEVER THE INPUT: true; the input reads as it did. -/
def cutLongSpec : ChangeSpec := { name := "cutLong", fn := fun _ => fun
  | [d1, d2, d3] => { results := [.lit (.bool true)], args := [d1, d2, d3] }
  | _ => none }
def cutLongRow : OpenClaim := { program := "ytkmonaeajejamaa", sum := "b0ec0abe584740e8634a3bf1575e605283abc258f92305a1b15ccf8941614cc7", func := "blazon/blazonlaw04.CutLong", spec := "cutLong", unfollowed := true, recurses := true, plainKeys := false, apart := false }
def CutLongSaid : Prop := cutLongRow.holds Try.pinned (OpenSpec.ofChange cutLongSpec)

/-- ITS FALSE NEIGHBOUR: 'it returns false'. Refute it at one input. -/
def cutLongWrong : ChangeSpec := { name := "cutLong", fn := fun _ => fun
  | [d1, d2, d3] => { results := [.lit (.bool false)], args := [d1, d2, d3] }
  | _ => none }
def CutLongWrongFalsely : Prop := cutLongRow.holds Try.pinned (OpenSpec.ofChange cutLongWrong)

/-- 'blazonlaw04.CutPrices': WHATEVER THE INPUT: true; the input reads as it did. -/
def cutPricesSpec : ChangeSpec := { name := "cutPrices", fn := fun _ => fun
  | [d1, d2] => { results := [.lit (.bool true)], args := [d1, d2] }
  | _ => none }
def cutPricesRow : OpenClaim := { program := "ytkmonaeajejamaa", sum := "b0ec0abe584740e8634a3bf1575e605283abc258f92305a1b15ccf8941614cc7", func := "blazon/blazonlaw04.CutPrices", spec := "cutPrices", unfollowed := true, recurses := true, plainKeys := false, apart := false }
def CutPricesSaid : Prop := cutPricesRow.holds Try.pinned (OpenSpec.ofChange cutPricesSpec)

/-- ITS FALSE NEIGHBOUR: 'it returns false'. Refute it at one input. -/
def cutPricesWrong : ChangeSpec := { name := "cutPrices", fn := fun _ => fun
  | [d1, d2] => { results := [.lit (.bool false)], args := [d1, d2] }
  | _ => none }
def CutPricesWrongFalsely : Prop := cutPricesRow.holds Try.pinned (OpenSpec.ofChange cutPricesWrong)

/-- 'blazonlaw04.CutGreedy': WHATEVER THE INPUT: true; the input reads as it did. -/
def cutGreedySpec : ChangeSpec := { name := "cutGreedy", fn := fun _ => fun
  | [d] => { results := [.lit (.bool true)], args := [d] }
  | _ => none }
def cutGreedyRow : OpenClaim := { program := "ytkmonaeajejamaa", sum := "b0ec0abe584740e8634a3bf1575e605283abc258f92305a1b15ccf8941614cc7", func := "blazon/blazonlaw04.CutGreedy", spec := "cutGreedy", unfollowed := true, recurses := true, plainKeys := false, apart := false }
def CutGreedySaid : Prop := cutGreedyRow.holds Try.pinned (OpenSpec.ofChange cutGreedySpec)

/-- ITS FALSE NEIGHBOUR: 'it returns false'. Refute it at one input. -/
def cutGreedyWrong : ChangeSpec := { name := "cutGreedy", fn := fun _ => fun
  | [d] => { results := [.lit (.bool false)], args := [d] }
  | _ => none }
def CutGreedyWrongFalsely : Prop := cutGreedyRow.holds Try.pinned (OpenSpec.ofChange cutGreedyWrong)

/-- 'blazonlaw04.CutLeast': WHATEVER THE INPUT: true; the input reads as it did. -/
def cutLeastSpec : ChangeSpec := { name := "cutLeast", fn := fun _ => fun
  | [d] => { results := [.lit (.bool true)], args := [d] }
  | _ => none }
def cutLeastRow : OpenClaim := { program := "ytkmonaeajejamaa", sum := "b0ec0abe584740e8634a3bf1575e605283abc258f92305a1b15ccf8941614cc7", func := "blazon/blazonlaw04.CutLeast", spec := "cutLeast", unfollowed := true, recurses := true, plainKeys := false, apart := false }
def CutLeastSaid : Prop := cutLeastRow.holds Try.pinned (OpenSpec.ofChange cutLeastSpec)

/-- ITS FALSE NEIGHBOUR: 'it returns false'. Refute it at one input. -/
def cutLeastWrong : ChangeSpec := { name := "cutLeast", fn := fun _ => fun
  | [d] => { results := [.lit (.bool false)], args := [d] }
  | _ => none }
def CutLeastWrongFalsely : Prop := cutLeastRow.holds Try.pinned (OpenSpec.ofChange cutLeastWrong)

/-- 'blazonlaw04.CutMore': WHATEVER THE INPUT: true; the input reads as it did. -/
def cutMoreSpec : ChangeSpec := { name := "cutMore", fn := fun _ => fun
  | [d1, d2] => { results := [.lit (.bool true)], args := [d1, d2] }
  | _ => none }
def cutMoreRow : OpenClaim := { program := "ytkmonaeajejamaa", sum := "b0ec0abe584740e8634a3bf1575e605283abc258f92305a1b15ccf8941614cc7", func := "blazon/blazonlaw04.CutMore", spec := "cutMore", unfollowed := true, recurses := true, plainKeys := false, apart := false }
def CutMoreSaid : Prop := cutMoreRow.holds Try.pinned (OpenSpec.ofChange cutMoreSpec)

/-- ITS FALSE NEIGHBOUR: 'it returns false'. Refute it at one input. -/
def cutMoreWrong : ChangeSpec := { name := "cutMore", fn := fun _ => fun
  | [d1, d2] => { results := [.lit (.bool false)], args := [d1, d2] }
  | _ => none }
def CutMoreWrongFalsely : Prop := cutMoreRow.holds Try.pinned (OpenSpec.ofChange cutMoreWrong)

/-- 'blazonlaw04.CutCanonical': WHATEVER THE INPUT: true; the input reads as it did. -/
def cutCanonicalSpec : ChangeSpec := { name := "cutCanonical", fn := fun _ => fun
  | [d1, d2, d3] => { results := [.lit (.bool true)], args := [d1, d2, d3] }
  | _ => none }
def cutCanonicalRow : OpenClaim := { program := "ytkmonaeajejamaa", sum := "b0ec0abe584740e8634a3bf1575e605283abc258f92305a1b15ccf8941614cc7", func := "blazon/blazonlaw04.CutCanonical", spec := "cutCanonical", unfollowed := true, recurses := true, plainKeys := false, apart := false }
def CutCanonicalSaid : Prop := cutCanonicalRow.holds Try.pinned (OpenSpec.ofChange cutCanonicalSpec)

/-- ITS FALSE NEIGHBOUR: 'it returns false'. Refute it at one input. -/
def cutCanonicalWrong : ChangeSpec := { name := "cutCanonical", fn := fun _ => fun
  | [d1, d2, d3] => { results := [.lit (.bool false)], args := [d1, d2, d3] }
  | _ => none }
def CutCanonicalWrongFalsely : Prop := cutCanonicalRow.holds Try.pinned (OpenSpec.ofChange cutCanonicalWrong)

/-- 'blazonlaw04.CutPlaces': WHATEVER THE INPUT: true; the input reads as it did. -/
def cutPlacesSpec : ChangeSpec := { name := "cutPlaces", fn := fun _ => fun
  | [d] => { results := [.lit (.bool true)], args := [d] }
  | _ => none }
def cutPlacesRow : OpenClaim := { program := "ytkmonaeajejamaa", sum := "b0ec0abe584740e8634a3bf1575e605283abc258f92305a1b15ccf8941614cc7", func := "blazon/blazonlaw04.CutPlaces", spec := "cutPlaces", unfollowed := true, recurses := true, plainKeys := false, apart := false }
def CutPlacesSaid : Prop := cutPlacesRow.holds Try.pinned (OpenSpec.ofChange cutPlacesSpec)

/-- ITS FALSE NEIGHBOUR: 'it returns false'. Refute it at one input. -/
def cutPlacesWrong : ChangeSpec := { name := "cutPlaces", fn := fun _ => fun
  | [d] => { results := [.lit (.bool false)], args := [d] }
  | _ => none }
def CutPlacesWrongFalsely : Prop := cutPlacesRow.holds Try.pinned (OpenSpec.ofChange cutPlacesWrong)

/-- 'blazonlaw04.CutApart': WHATEVER THE INPUT: true; the input reads as it did. -/
def cutApartSpec : ChangeSpec := { name := "cutApart", fn := fun _ => fun
  | [d] => { results := [.lit (.bool true)], args := [d] }
  | _ => none }
def cutApartRow : OpenClaim := { program := "ytkmonaeajejamaa", sum := "b0ec0abe584740e8634a3bf1575e605283abc258f92305a1b15ccf8941614cc7", func := "blazon/blazonlaw04.CutApart", spec := "cutApart", unfollowed := true, recurses := true, plainKeys := false, apart := false }
def CutApartSaid : Prop := cutApartRow.holds Try.pinned (OpenSpec.ofChange cutApartSpec)

/-- ITS FALSE NEIGHBOUR: 'it returns false'. Refute it at one input. -/
def cutApartWrong : ChangeSpec := { name := "cutApart", fn := fun _ => fun
  | [d] => { results := [.lit (.bool false)], args := [d] }
  | _ => none }
def CutApartWrongFalsely : Prop := cutApartRow.holds Try.pinned (OpenSpec.ofChange cutApartWrong)

/-- 'blazonlaw04.CutUsed': WHATEVER THE INPUT: true; the input reads as it did. -/
def cutUsedSpec : ChangeSpec := { name := "cutUsed", fn := fun _ => fun
  | [d1, d2] => { results := [.lit (.bool true)], args := [d1, d2] }
  | _ => none }
def cutUsedRow : OpenClaim := { program := "ytkmonaeajejamaa", sum := "b0ec0abe584740e8634a3bf1575e605283abc258f92305a1b15ccf8941614cc7", func := "blazon/blazonlaw04.CutUsed", spec := "cutUsed", unfollowed := true, recurses := true, plainKeys := false, apart := false }
def CutUsedSaid : Prop := cutUsedRow.holds Try.pinned (OpenSpec.ofChange cutUsedSpec)

/-- ITS FALSE NEIGHBOUR: 'it returns false'. Refute it at one input. -/
def cutUsedWrong : ChangeSpec := { name := "cutUsed", fn := fun _ => fun
  | [d1, d2] => { results := [.lit (.bool false)], args := [d1, d2] }
  | _ => none }
def CutUsedWrongFalsely : Prop := cutUsedRow.holds Try.pinned (OpenSpec.ofChange cutUsedWrong)

/-- 'blazonlaw04.CutClashes': WHATEVER THE INPUT: true; the input reads as it did. -/
def cutClashesSpec : ChangeSpec := { name := "cutClashes", fn := fun _ => fun
  | [d1, d2] => { results := [.lit (.bool true)], args := [d1, d2] }
  | _ => none }
def cutClashesRow : OpenClaim := { program := "ytkmonaeajejamaa", sum := "b0ec0abe584740e8634a3bf1575e605283abc258f92305a1b15ccf8941614cc7", func := "blazon/blazonlaw04.CutClashes", spec := "cutClashes", unfollowed := true, recurses := true, plainKeys := false, apart := false }
def CutClashesSaid : Prop := cutClashesRow.holds Try.pinned (OpenSpec.ofChange cutClashesSpec)

/-- ITS FALSE NEIGHBOUR: 'it returns false'. Refute it at one input. -/
def cutClashesWrong : ChangeSpec := { name := "cutClashes", fn := fun _ => fun
  | [d1, d2] => { results := [.lit (.bool false)], args := [d1, d2] }
  | _ => none }
def CutClashesWrongFalsely : Prop := cutClashesRow.holds Try.pinned (OpenSpec.ofChange cutClashesWrong)

/-- 'blazontop.TopBound': WHATEVER THE INPUT: true; the input reads as it did. -/
def topBoundSpec : ChangeSpec := { name := "topBound", fn := fun _ => fun
  | [d] => { results := [.lit (.bool true)], args := [d] }
  | _ => none }
def topBoundRow : OpenClaim := { program := "ytkmonaeajejamaa", sum := "b0ec0abe584740e8634a3bf1575e605283abc258f92305a1b15ccf8941614cc7", func := "blazon/blazontop.TopBound", spec := "topBound", unfollowed := true, recurses := true, plainKeys := false, apart := false }
def TopBoundSaid : Prop := topBoundRow.holds Try.pinned (OpenSpec.ofChange topBoundSpec)

/-- ITS FALSE NEIGHBOUR: 'it returns false'. Refute it at one input. -/
def topBoundWrong : ChangeSpec := { name := "topBound", fn := fun _ => fun
  | [d] => { results := [.lit (.bool false)], args := [d] }
  | _ => none }
def TopBoundWrongFalsely : Prop := topBoundRow.holds Try.pinned (OpenSpec.ofChange topBoundWrong)

/- THE SECOND FORM. 'bulk': how many values and letters a reading holds, each counted each time it is reached (what is shared counts as often as it is met; a slice's spare places count too). A statement '..UptoSaid' is the law's where the arguments, and the package variables that the reading takes, are together of bulk at most 1048576: NARROWER than '..Said'. Prove '..Said' where nothing that the law and all that it calls make is longer than what came in: it says more and counts as full. Else prove '..UptoSaid'. A law counts once. -/
mutual
def uptoBulk {H : Type} : DataW H → Nat
  | .lit (.string bytes) => bytes.length + 1
  | .lit _ => 1
  | .nil => 1
  | .ptr d => uptoBulk d + 1
  | .slice elems spare => uptoBulkAll elems + uptoBulkAll spare + 1
  | .agg parts => uptoBulkAll parts + 1
  | .iface _ d => uptoBulk d + 1
  | .map entries => uptoBulkEntries entries + 1
  | .held _ => 1
def uptoBulkAll {H : Type} : List (DataW H) → Nat
  | [] => 0
  | d :: r => uptoBulk d + uptoBulkAll r
def uptoBulkEntries {H : Type} : List (Lit × DataW H) → Nat
  | [] => 0
  | x :: r => uptoBulkEntry x + uptoBulkEntries r
def uptoBulkEntry {H : Type} : Lit × DataW H → Nat
  | (.string bytes, d) => bytes.length + uptoBulk d + 1
  | (_, d) => uptoBulk d + 1
 end
def uptoSmall : (H : Type) → List (DataW H) → Bool := fun _ ds => decide (uptoBulkAll ds ≤ 1048576)
def OpenSpec.upto (s : _root_.Go.ChangeSpec) : _root_.Go.OpenSpec := { _root_.Go.OpenSpec.ofChange s with cond := some uptoSmall }

/-- 'blazonlaw04.CutFits', WHERE WHAT IT READS IS OF BULK AT MOST 1048576: true; the input reads as it did. -/
def cutFitsUptoRow : OpenClaim := { program := "ytkmonaeajejamaa", sum := "b0ec0abe584740e8634a3bf1575e605283abc258f92305a1b15ccf8941614cc7", func := "blazon/blazonlaw04.CutFits", spec := "cutFits", unfollowed := true, recurses := true, plainKeys := false, apart := false, narrowed := true }
def CutFitsUptoSaid : Prop := cutFitsUptoRow.holds Try.pinned (OpenSpec.upto cutFitsSpec)

/-- 'blazonlaw04.CutLong', WHERE WHAT IT READS IS OF BULK AT MOST 1048576: true; the input reads as it did. -/
def cutLongUptoRow : OpenClaim := { program := "ytkmonaeajejamaa", sum := "b0ec0abe584740e8634a3bf1575e605283abc258f92305a1b15ccf8941614cc7", func := "blazon/blazonlaw04.CutLong", spec := "cutLong", unfollowed := true, recurses := true, plainKeys := false, apart := false, narrowed := true }
def CutLongUptoSaid : Prop := cutLongUptoRow.holds Try.pinned (OpenSpec.upto cutLongSpec)

/-- 'blazonlaw04.CutPrices', WHERE WHAT IT READS IS OF BULK AT MOST 1048576: true; the input reads as it did. -/
def cutPricesUptoRow : OpenClaim := { program := "ytkmonaeajejamaa", sum := "b0ec0abe584740e8634a3bf1575e605283abc258f92305a1b15ccf8941614cc7", func := "blazon/blazonlaw04.CutPrices", spec := "cutPrices", unfollowed := true, recurses := true, plainKeys := false, apart := false, narrowed := true }
def CutPricesUptoSaid : Prop := cutPricesUptoRow.holds Try.pinned (OpenSpec.upto cutPricesSpec)

/-- 'blazonlaw04.CutGreedy', WHERE WHAT IT READS IS OF BULK AT MOST 1048576: true; the input reads as it did. -/
def cutGreedyUptoRow : OpenClaim := { program := "ytkmonaeajejamaa", sum := "b0ec0abe584740e8634a3bf1575e605283abc258f92305a1b15ccf8941614cc7", func := "blazon/blazonlaw04.CutGreedy", spec := "cutGreedy", unfollowed := true, recurses := true, plainKeys := false, apart := false, narrowed := true }
def CutGreedyUptoSaid : Prop := cutGreedyUptoRow.holds Try.pinned (OpenSpec.upto cutGreedySpec)

/-- 'blazonlaw04.CutLeast', WHERE WHAT IT READS IS OF BULK AT MOST 1048576: true; the input reads as it did. -/
def cutLeastUptoRow : OpenClaim := { program := "ytkmonaeajejamaa", sum := "b0ec0abe584740e8634a3bf1575e605283abc258f92305a1b15ccf8941614cc7", func := "blazon/blazonlaw04.CutLeast", spec := "cutLeast", unfollowed := true, recurses := true, plainKeys := false, apart := false, narrowed := true }
def CutLeastUptoSaid : Prop := cutLeastUptoRow.holds Try.pinned (OpenSpec.upto cutLeastSpec)

/-- 'blazonlaw04.CutMore', WHERE WHAT IT READS IS OF BULK AT MOST 1048576: true; the input reads as it did. -/
def cutMoreUptoRow : OpenClaim := { program := "ytkmonaeajejamaa", sum := "b0ec0abe584740e8634a3bf1575e605283abc258f92305a1b15ccf8941614cc7", func := "blazon/blazonlaw04.CutMore", spec := "cutMore", unfollowed := true, recurses := true, plainKeys := false, apart := false, narrowed := true }
def CutMoreUptoSaid : Prop := cutMoreUptoRow.holds Try.pinned (OpenSpec.upto cutMoreSpec)

/-- 'blazonlaw04.CutCanonical', WHERE WHAT IT READS IS OF BULK AT MOST 1048576: true; the input reads as it did. -/
def cutCanonicalUptoRow : OpenClaim := { program := "ytkmonaeajejamaa", sum := "b0ec0abe584740e8634a3bf1575e605283abc258f92305a1b15ccf8941614cc7", func := "blazon/blazonlaw04.CutCanonical", spec := "cutCanonical", unfollowed := true, recurses := true, plainKeys := false, apart := false, narrowed := true }
def CutCanonicalUptoSaid : Prop := cutCanonicalUptoRow.holds Try.pinned (OpenSpec.upto cutCanonicalSpec)

/-- 'blazonlaw04.CutPlaces', WHERE WHAT IT READS IS OF BULK AT MOST 1048576: true; the input reads as it did. -/
def cutPlacesUptoRow : OpenClaim := { program := "ytkmonaeajejamaa", sum := "b0ec0abe584740e8634a3bf1575e605283abc258f92305a1b15ccf8941614cc7", func := "blazon/blazonlaw04.CutPlaces", spec := "cutPlaces", unfollowed := true, recurses := true, plainKeys := false, apart := false, narrowed := true }
def CutPlacesUptoSaid : Prop := cutPlacesUptoRow.holds Try.pinned (OpenSpec.upto cutPlacesSpec)

/-- 'blazonlaw04.CutApart', WHERE WHAT IT READS IS OF BULK AT MOST 1048576: true; the input reads as it did. -/
def cutApartUptoRow : OpenClaim := { program := "ytkmonaeajejamaa", sum := "b0ec0abe584740e8634a3bf1575e605283abc258f92305a1b15ccf8941614cc7", func := "blazon/blazonlaw04.CutApart", spec := "cutApart", unfollowed := true, recurses := true, plainKeys := false, apart := false, narrowed := true }
def CutApartUptoSaid : Prop := cutApartUptoRow.holds Try.pinned (OpenSpec.upto cutApartSpec)

/-- 'blazonlaw04.CutUsed', WHERE WHAT IT READS IS OF BULK AT MOST 1048576: true; the input reads as it did. -/
def cutUsedUptoRow : OpenClaim := { program := "ytkmonaeajejamaa", sum := "b0ec0abe584740e8634a3bf1575e605283abc258f92305a1b15ccf8941614cc7", func := "blazon/blazonlaw04.CutUsed", spec := "cutUsed", unfollowed := true, recurses := true, plainKeys := false, apart := false, narrowed := true }
def CutUsedUptoSaid : Prop := cutUsedUptoRow.holds Try.pinned (OpenSpec.upto cutUsedSpec)

/-- 'blazonlaw04.CutClashes', WHERE WHAT IT READS IS OF BULK AT MOST 1048576: true; the input reads as it did. -/
def cutClashesUptoRow : OpenClaim := { program := "ytkmonaeajejamaa", sum := "b0ec0abe584740e8634a3bf1575e605283abc258f92305a1b15ccf8941614cc7", func := "blazon/blazonlaw04.CutClashes", spec := "cutClashes", unfollowed := true, recurses := true, plainKeys := false, apart := false, narrowed := true }
def CutClashesUptoSaid : Prop := cutClashesUptoRow.holds Try.pinned (OpenSpec.upto cutClashesSpec)

/-- 'blazontop.TopBound', WHERE WHAT IT READS IS OF BULK AT MOST 1048576: true; the input reads as it did. -/
def topBoundUptoRow : OpenClaim := { program := "ytkmonaeajejamaa", sum := "b0ec0abe584740e8634a3bf1575e605283abc258f92305a1b15ccf8941614cc7", func := "blazon/blazontop.TopBound", spec := "topBound", unfollowed := true, recurses := true, plainKeys := false, apart := false, narrowed := true }
def TopBoundUptoSaid : Prop := topBoundUptoRow.holds Try.pinned (OpenSpec.upto topBoundSpec)

end Rows
end Go.Proofs.Ytkmonaeajejamaa
