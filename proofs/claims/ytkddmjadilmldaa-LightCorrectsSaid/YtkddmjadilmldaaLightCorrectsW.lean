/-
  The walk of the law LightCorrects: it answers true. By an AI agent.
-/
import Derived.Test.YtkddmjadilmldaaLightCd
namespace Go.Proofs.Ytkddmjadilmldaa
set_option linter.unusedVariables false
set_option linter.unusedSimpArgs false
open Go.RowKit

set_option maxRecDepth 100000 in
set_option maxHeartbeats 4000000 in
theorem lightCorrects_any (aa : Option Addr) (l : List (Int × Int)) (ca : Nat) (t1 c1 t2 c2 rf : Int) (w : World) (hA : PairsS w aa l) :
    Calls Try.prog 5 #[.agg #[.slice aa l.length ca, .int .i64 t1, .int .i64 c1, .int .i64 t2, .int .i64 c2, .int .i64 rf]] w fun e w' => e = .returned (.bool true) ∧ Below w.heap.size w w' := by
  have hlen := hA.1
  have HC := Lib.hid (fun W (hW : Below w.heap.size w W) => Corrected_any aa l ca t1 c1 t2 c2 rf W (hA.below hW))
  have HR := Lib.hid (fun W (hW : Below w.heap.size w W) => RefCorrected_any aa l ca t1 c1 t2 c2 rf W (hA.below hW))
  have HS := Lib.hid sameInts_any
  have H1 := Lib.hid first_any
  clear hA
  generalize corE t1 c1 t2 c2 rf l = CE at *
  generalize corL t1 c1 t2 c2 rf l = CL at *
  by_cases h2 : (200 : Int) < l.length
  · go_enter Try.func5, Try.ntmps5
    go_wp2_with fail
    refine (H1.out _).mono ?_
    rintro e w1 ⟨rfl, hb1⟩
    go_wp2_with fail
    go_ret
    exact ⟨rfl, box_below hb1⟩
  · go_enter Try.func5, Try.ntmps5
    go_wp2_with fail
    refine (HC.out _ ((Below.refl _ _).alloc (Nat.le_refl _) _)).mono ?_
    rintro e w1 ⟨a1, k1, rfl, hI1, hb1⟩
    obtain ⟨hc1, hf1⟩ := bcell hb1
    go_wp2_with fail
    refine (HR.out _ (box_below hb1)).mono ?_
    rintro e w2 ⟨a2, k2, rfl, hI2, hb2⟩
    have hI1 := hI1.below hb2
    have hb2 := hb1.trans (hb2.mono hb1.size)
    clear hc1 hf1
    obtain ⟨hc2, hf2⟩ := bcell hb2
    have HSS := Lib.hid (HS.out a1 a2 CL k1 k2 w2 hI1 hI2)
    clear hI1 hI2
    go_wp2_with fail
    refine HSS.out.mono ?_
    rintro e w3 ⟨rfl, hb3⟩
    have hb3 := hb2.trans (hb3.mono hb2.size)
    go_wp2_with fail
    refine (H1.out _).mono ?_
    rintro e w4 ⟨rfl, hb4⟩
    have hb4 := hb3.trans (hb4.mono hb3.size)
    go_wp2_with fail
    go_ret
    exact ⟨rfl, box_below hb4⟩
end Go.Proofs.Ytkddmjadilmldaa
