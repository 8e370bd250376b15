/-
  The walk of the law CutPrices: it answers true. By an AI agent.
-/
import Derived.Test.YtkmonaeajejamaaCutH
import Derived.Test.YtkmonaeajejamaaCutQ
namespace Go.Proofs.Ytkmonaeajejamaa
set_option linter.unusedVariables false
set_option linter.unusedSimpArgs false
open Go.RowKit

set_option maxRecDepth 100000 in
set_option maxHeartbeats 4000000 in
theorem cutPrices_any (L K : Int) (aa : Option Addr) (l : List (Int × Int)) (ca : Nat) (ap : Option Addr) (q : List Int) (cq : Nat) (w : World) (hA : PairsS w aa l) (hQ : IntsS w ap q) :
    Calls Try.prog 5 #[.agg #[.int .i64 L, .int .i64 K, .slice aa l.length ca], .slice ap q.length cq] w fun E w' => E = .returned (.bool true) ∧ Below w.heap.size w w' := by
  have hlA := hA.1
  have hlQ := hQ.1
  have HW : Hid (∀ W, Calls Try.prog 15 #[.agg #[.int .i64 L, .int .i64 K, .slice aa l.length ca], .slice none 0 0] W fun e w' => SB e ∧ Below W.heap.size W w') := Lib.hid fun W => wideNil_any L K aa l ca W hlA
  have HD := Lib.hid (fun W (hW : Below w.heap.size w W) => Dearest_any L K aa l ca ap q cq W (hA.below hW) (hQ.below hW))
  have HR := Lib.hid (fun W (hW : Below w.heap.size w W) => refDearest_any L K aa l ca ap q cq W (hA.below hW) (hQ.below hW))
  have HB := Lib.hid (fun W (hW : Below w.heap.size w W) => Bound_any L K aa l ca ap q cq W (hA.below hW) (hQ.below hW))
  have HC := Lib.hid (fun W (hW : Below w.heap.size w W) => refBound_any L K aa l ca ap q cq W (hA.below hW) (hQ.below hW))
  have H1 := Lib.hid awake_any
  have hS := InBox.start w L K (.slice aa l.length ca) 24
  clear hA hQ
  generalize drV L K l q = dv at *
  generalize bdV L K l q = bv at *
  generalize prcE L K l q = pe at *
  go_enter Try.func5, Try.ntmps5
  go_wp2_with fail
  refine (HW.out _).mono ?_
  rintro E w1 ⟨⟨b, rfl⟩, hb1⟩
  obtain ⟨hB, p0, p1, p2⟩ := hS.on hb1
  by_cases hsh : b = true ∨ (30 : Int) < q.length
  · rcases (show b = true ∨ (b = false ∧ (30 : Int) < q.length) by cases b <;> simp_all) with rfl | ⟨rfl, hq⟩
    · clear hsh
      go_wp2_with fail
      refine (H1.out _).mono ?_
      rintro E w9 ⟨rfl, hb9⟩
      go_wp2_with fail
      go_ret
      exact ⟨rfl, hB.trans (hb9.mono hB.size)⟩
    · clear hsh
      go_wp2_with fail
      refine (H1.out _).mono ?_
      rintro E w9 ⟨rfl, hb9⟩
      go_wp2_with fail
      go_ret
      exact ⟨rfl, hB.trans (hb9.mono hB.size)⟩
  · have hq : ¬ (30 : Int) < q.length := fun h => hsh (.inr h)
    obtain rfl : b = false := by simpa using fun h => hsh (.inl h)
    clear hsh
    go_wp2_with fail
    refine (HD.out _ hB).mono ?_
    rintro E w2 ⟨rfl, hb2⟩
    obtain ⟨hB, p0, p1, p2⟩ := InBox.on ⟨hB, p0, p1, p2⟩ hb2
    go_wp2_with fail
    refine (HR.out _ hB).mono ?_
    rintro E w3 ⟨rfl, hb3⟩
    obtain ⟨hB, p0, p1, p2⟩ := InBox.on ⟨hB, p0, p1, p2⟩ hb3
    go_wp2_with fail
    refine (HB.out _ hB).mono ?_
    rintro E w4 ⟨rfl, hb4⟩
    obtain ⟨hB, p0, p1, p2⟩ := InBox.on ⟨hB, p0, p1, p2⟩ hb4
    go_wp2_with fail
    refine (HC.out _ hB).mono ?_
    rintro E w5 ⟨rfl, hb5⟩
    obtain ⟨hB, p0, p1, p2⟩ := InBox.on ⟨hB, p0, p1, p2⟩ hb5
    go_wp2_with fail
    refine (H1.out _).mono ?_
    rintro E w9 ⟨rfl, hb9⟩
    go_wp2_with fail
    go_ret
    exact ⟨rfl, hB.trans (hb9.mono hB.size)⟩
end Go.Proofs.Ytkmonaeajejamaa
