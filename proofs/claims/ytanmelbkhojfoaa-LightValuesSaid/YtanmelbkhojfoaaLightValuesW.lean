/-
  The walk of the law LightValues: it answers true. By an AI agent.
-/
import Derived.Test.YtanmelbkhojfoaaLightVD
namespace Go.Proofs.Ytanmelbkhojfoaa
set_option linter.unusedVariables false
set_option linter.unusedSimpArgs false
open Go.RowKit

set_option maxRecDepth 100000 in
set_option maxHeartbeats 4000000 in
theorem lightValues_any (z0 z1 z2 z3 side : Int) (a : Option Addr) (l : List (Int × Int)) (cap : Nat) (day least : Int) (w : World) (hP : PairsS w a l) (hcap : l.length ≤ cap) (b0 : I64 z0) (b1 : I64 z1) (b2 : I64 z2) (b3 : I64 z3) (b4 : I64 side) (b5 : I64 day) (b6 : I64 least) :
    Calls Try.prog 11 #[.agg #[.int .i64 z0, .int .i64 z1, .int .i64 z2, .int .i64 z3, .int .i64 side, .slice a l.length cap, .int .i64 day, .int .i64 least]] w fun e w' => e = .returned (.bool true) ∧ Below w.heap.size w w' := by
  have HV : Hid (∀ W, Below w.heap.size w W → Calls Try.prog 41 #[.agg #[.int .i64 z0, .int .i64 z1, .int .i64 z2, .int .i64 z3], .int .i64 side, .slice a l.length cap, .int .i64 day] W fun e w' => e = .returned (.tuple #[.int .i64 (valV z0 z1 z2 z3 side l day), .int .i64 (valE z0 z1 z2 z3 side l day)]) ∧ Below W.heap.size W w') := Lib.hid fun W hW => Value_any z0 z1 z2 z3 side day a l cap W (hP.below hW) hcap b5
  have HW : Hid (∀ W, Below w.heap.size w W → Calls Try.prog 42 #[.agg #[.int .i64 z0, .int .i64 z1, .int .i64 z2, .int .i64 z3], .int .i64 side, .slice a l.length cap, .int .i64 day] W fun e w' => e = .returned (.tuple #[.int .i64 (valV z0 z1 z2 z3 side l day), .int .i64 (valE z0 z1 z2 z3 side l day)]) ∧ Below W.heap.size W w') := Lib.hid fun W hW => RefValue_any z0 z1 z2 z3 side day a l cap W (hP.below hW) hcap b5
  have HD : Hid (∀ W, Below w.heap.size w W → Calls Try.prog 43 #[.agg #[.int .i64 z0, .int .i64 z1, .int .i64 z2, .int .i64 z3], .int .i64 side, .slice a l.length cap, .int .i64 least] W fun e w' => e = .returned (.tuple #[.int .i64 (dueD (gp l (l.length - 1)).1 (dueY z0 z1 z2 z3 side l least)), .bool (dueY z0 z1 z2 z3 side l least).isSome, .int .i64 (dueE z0 z1 z2 z3 side l least)]) ∧ Below W.heap.size W w') := Lib.hid fun W hW => due_any z0 z1 z2 z3 side least a l cap W (hP.below hW) b6
  have HE : Hid (∀ W, Below w.heap.size w W → Calls Try.prog 44 #[.agg #[.int .i64 z0, .int .i64 z1, .int .i64 z2, .int .i64 z3], .int .i64 side, .slice a l.length cap, .int .i64 least] W fun e w' => e = .returned (.tuple #[.int .i64 (dueD (gp l (l.length - 1)).1 (dueY z0 z1 z2 z3 side l least)), .bool (dueY z0 z1 z2 z3 side l least).isSome, .int .i64 (dueE z0 z1 z2 z3 side l least)]) ∧ Below W.heap.size W w') := Lib.hid fun W hW => refDue_any z0 z1 z2 z3 side least a l cap W (hP.below hW) b6
  have H1 : Hid (∀ W, Below w.heap.size w W → Calls Try.prog 20 #[] W fun e w' => e = .returned (.bool true) ∧ Below W.heap.size W w') := Lib.hid fun W _ => first_any W
  have hlen := hP.1
  generalize valV z0 z1 z2 z3 side l day = v at *
  generalize valE z0 z1 z2 z3 side l day = ve at *
  generalize dueD (gp l (l.length - 1)).1 (dueY z0 z1 z2 z3 side l least) = d at *
  generalize (dueY z0 z1 z2 z3 side l least).isSome = o at *
  generalize dueE z0 z1 z2 z3 side l least = de at *
  clear hP b0 b1 b2 b3 b4 b5 b6 hcap
  by_cases hn : l.length ≤ 100
  · go_enter Try.func11, Try.ntmps11
    go_wp2_with fail
    refine (HV.out _ (box_below (Below.refl _ _))).mono ?_
    rintro E w1 ⟨rfl, hb1⟩
    obtain ⟨hc1, hf1⟩ := bcell hb1
    go_wp2_with fail
    refine (HW.out _ (box_below hb1)).mono ?_
    rintro E w2 ⟨rfl, hb2⟩
    have hb2 := hb1.trans (hb2.mono hb1.size)
    clear hc1 hf1
    obtain ⟨hc2, hf2⟩ := bcell hb2
    go_wp2_with fail
    refine (HD.out _ (box_below hb2)).mono ?_
    rintro E w3 ⟨rfl, hb3⟩
    have hb3 := hb2.trans (hb3.mono hb2.size)
    clear hc2 hf2
    obtain ⟨hc3, hf3⟩ := bcell hb3
    go_wp2_with fail
    refine (HE.out _ (box_below hb3)).mono ?_
    rintro E w4 ⟨rfl, hb4⟩
    have hb4 := hb3.trans (hb4.mono hb3.size)
    clear hc3 hf3
    obtain ⟨hc4, hf4⟩ := bcell hb4
    go_wp2_with fail
    refine (H1.out _ (box_below hb4)).mono ?_
    rintro E w5 ⟨rfl, hb5⟩
    have hb5 := hb4.trans (hb5.mono hb4.size)
    clear hc4 hf4
    obtain ⟨hc5, hf5⟩ := bcell hb5
    go_wp2_with fail
    go_ret
    exact ⟨rfl, box_below hb5⟩
  · go_enter Try.func11, Try.ntmps11
    go_wp2_with fail
    refine (H1.out _ (box_below (Below.refl _ _))).mono ?_
    rintro E w1 ⟨rfl, hb1⟩
    obtain ⟨hc1, hf1⟩ := bcell hb1
    go_wp2_with fail
    go_ret
    exact ⟨rfl, box_below hb1⟩
end Go.Proofs.Ytanmelbkhojfoaa
