/-
  The walk of the law LightLegible: it answers true. By an AI agent.
-/
import Derived.Test.YtkddmjadilmldaaLightLc
namespace Go.Proofs.Ytkddmjadilmldaa
set_option linter.unusedVariables false
set_option linter.unusedSimpArgs false
open Go.RowKit


set_option maxRecDepth 100000 in
set_option maxHeartbeats 4000000 in
theorem lightLegible_any (ao ae ar : Option Addr) (o e : List Int) (r : List (List Int)) (co ce cr : Nat) (z0 z1 z2 z3 : Int) (need letter : Int) (w : World) (hT : TableS w ao ae ar o e r) (hco : o.length ≤ co) (hce : e.length ≤ ce) :
    Calls Try.prog 3 #[.agg #[.slice ao o.length co, .slice ae e.length ce, .slice ar r.length cr, .int .i64 z0, .int .i64 z1, .int .i64 z2, .int .i64 z3, .int .i64 need, .int .i64 letter]] w fun E w' => E = .returned (.bool true) ∧ Below w.heap.size w w' := by
  have HL := Lib.hid (fun W (hW : Below w.heap.size w W) => long_any ao ae ar o e r co ce cr W (hT.below hW))
  have HC := Lib.hid (fun W (hW : Below w.heap.size w W) => Legible_any ao ae ar o e r co ce cr z0 z1 z2 z3 need letter W (hT.below hW) hco hce)
  have HR := Lib.hid (fun W (hW : Below w.heap.size w W) => RefLegible_any ao ae ar o e r co ce cr z0 z1 z2 z3 need letter W (hT.below hW) hco hce)
  have HS := Lib.hid sameSpans_any
  have H1 := Lib.hid first_any
  clear hT
  generalize lgE o e r z0 z1 z2 z3 need letter = CE at *
  generalize lgL o e r z0 z1 z2 z3 need letter = CL at *
  go_enter Try.func3, Try.ntmps3
  go_wp2_with fail
  refine (HL.out _ ((Below.refl _ _).alloc (Nat.le_refl _) _)).mono ?_
  rintro E w0 ⟨⟨b, rfl⟩, hb0⟩
  obtain ⟨hc0, hf0⟩ := bcell hb0
  cases b with
  | true =>
    go_wp2_with fail
    refine (H1.out _).mono ?_
    rintro E w1 ⟨rfl, hb1⟩
    have hb1 := hb0.trans (hb1.mono hb0.size)
    go_wp2_with fail
    go_ret
    exact ⟨rfl, box_below hb1⟩
  | false =>
    go_wp2_with fail
    refine (HC.out _ (box_below hb0)).mono ?_
    rintro E w1 ⟨a1, k1, rfl, hI1, hb1⟩
    have hb1 := hb0.trans (hb1.mono hb0.size)
    clear hc0 hf0
    obtain ⟨hc1, hf1⟩ := bcell hb1
    go_wp2_with fail
    refine (HR.out _ (box_below hb1)).mono ?_
    rintro E w2 ⟨a2, k2, rfl, hI2, hb2⟩
    have hI1 := hI1.below hb2
    have hb2 := hb1.trans (hb2.mono hb1.size)
    clear hc1 hf1
    have HSS := Lib.hid (HS.out a1 a2 CL k1 k2 w2 hI1 hI2)
    clear hI1 hI2
    go_wp2_with fail
    refine HSS.out.mono ?_
    rintro E w3 ⟨rfl, hb3⟩
    have hb3 := hb2.trans (hb3.mono hb2.size)
    go_wp2_with fail
    refine (H1.out _).mono ?_
    rintro E w4 ⟨rfl, hb4⟩
    have hb4 := hb3.trans (hb4.mono hb3.size)
    go_wp2_with fail
    go_ret
    exact ⟨rfl, box_below hb4⟩
end Go.Proofs.Ytkddmjadilmldaa
