/-
  The walk of the law LightAccepts: it answers true. By an AI agent.
-/
import Derived.Test.YtkddmjadilmldaaLightAc
import Derived.Test.YtkddmjadilmldaaLightIr
namespace Go.Proofs.Ytkddmjadilmldaa
set_option linter.unusedVariables false
set_option linter.unusedSimpArgs false
open Go.RowKit

set_option maxRecDepth 100000 in
set_option maxHeartbeats 4000000 in
theorem lightAccepts_any (a : Option Addr) (l : List Int) (cap : Nat) (least x0 y0 x1 y1 x2 y2 x3 y3 x4 y4 : Int) (w : World) (hI : IntsS w a l) (hle : I64 least) :
    Calls Try.prog 6 #[.slice a l.length cap, .int .i64 least, .agg #[.int .i64 x0, .int .i64 y0, .int .i64 x1, .int .i64 y1, .int .i64 x2, .int .i64 y2, .int .i64 x3, .int .i64 y3, .int .i64 x4, .int .i64 y4]] w fun E w' => E = .returned (.bool true) ∧ Below w.heap.size w w' := by
  have HA : Hid (∀ W, Below w.heap.size w W → Calls Try.prog 21 #[.slice a l.length cap, .int .i64 least] W fun e w' => e = .returned (.tuple #[.bool (accV l least), .int .i64 (accE l least)]) ∧ W = w') := Lib.hid fun W hW => accepted_any a l cap least W (hI.below hW) hle
  have HR : Hid (∀ W, Below w.heap.size w W → Calls Try.prog 22 #[.slice a l.length cap, .int .i64 least] W fun e w' => e = .returned (.tuple #[.bool (accV l least), .int .i64 (accE l least)]) ∧ W = w') := Lib.hid fun W hW => refAccepted_any a l cap least W (hI.below hW) hle
  have HI := Lib.hid (Inside_any x0 y0 x1 y1 x2 y2 x3 y3 x4 y4)
  have HJ := Lib.hid (RefInside_any x0 y0 x1 y1 x2 y2 x3 y3 x4 y4)
  unfold argE at HJ
  have H1 : Hid (∀ W, Calls Try.prog 11 #[] W fun e w' => e = .returned (.bool true) ∧ Below W.heap.size W w') := Lib.hid fun W => first_any W
  obtain ⟨hlen, -⟩ := hI
  generalize (argB (pk x0 x1 x2 x3) (pk y0 y1 y2 y3) x4 y4 && insB (pk x0 x1 x2 x3) (pk y0 y1 y2 y3) x4 y4) = bb at *
  generalize (if argB (pk x0 x1 x2 x3) (pk y0 y1 y2 y3) x4 y4 = true then (0 : Int) else 2) = ec at *
  generalize accV l least = av at *
  generalize accE l least = ae at *
  have hbb : (bb == bb) = true := by simp
  have hav : (av == av) = true := by simp
  by_cases h2 : (200 : Int) < l.length
  · go_enter Try.func6, Try.ntmps6
    go_wp2_with fail
    refine (H1.out _).mono ?_
    rintro E w2 ⟨rfl, hb2⟩
    go_wp2_with fail
    go_ret
    exact ⟨rfl, box_below hb2⟩
  · go_enter Try.func6, Try.ntmps6
    go_wp2_with fail
    refine (HA.out _ (box_below (Below.refl _ _))).mono ?_
    rintro E w1 ⟨rfl, rfl⟩
    go_wp2_with fail
    refine (HR.out _ (box_below (Below.refl _ _))).mono ?_
    rintro E w1 ⟨rfl, rfl⟩
    go_wp2_with fail
    refine (HI.out _).mono ?_
    rintro E w2 ⟨rfl, hb2⟩
    obtain ⟨hc2, hf2⟩ := bcell hb2
    go_wp2_with fail
    refine (HJ.out _).mono ?_
    rintro E w3 ⟨rfl, hb3⟩
    have hb3 := hb2.trans (hb3.mono hb2.size)
    clear hc2 hf2
    obtain ⟨hc3, hf3⟩ := bcell hb3
    go_wp2_with fail
    refine (H1.out _).mono ?_
    rintro E w4 ⟨rfl, hb4⟩
    have hb4 := hb3.trans (hb4.mono hb3.size)
    clear hc3 hf3
    obtain ⟨hc4, hf4⟩ := bcell hb4
    go_wp2_with fail
    go_ret
    exact ⟨rfl, bx2_below hb4⟩
end Go.Proofs.Ytkddmjadilmldaa
