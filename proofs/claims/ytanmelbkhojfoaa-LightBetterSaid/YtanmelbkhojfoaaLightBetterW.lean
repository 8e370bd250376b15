/-
  The walk of the law LightBetter: it answers true. By an AI agent.
-/
import Derived.Test.YtanmelbkhojfoaaLightBf
namespace Go.Proofs.Ytanmelbkhojfoaa
set_option linter.unusedVariables false
set_option linter.unusedSimpArgs false
open Go.RowKit

set_option maxRecDepth 100000 in
set_option maxHeartbeats 4000000 in
theorem lightBetter_any (ao ae ar ao' ae' ar' : Option Addr) (o e o' e' : List Int) (r r' : List (List Int)) (co ce cr co' ce' cr' : Nat) (w : World) (hT : TableS w ao ae ar o e r) (hU : TableS w ao' ae' ar' o' e' r') :
    Calls Try.prog 9 #[.agg #[.slice ao o.length co, .slice ae e.length ce, .slice ar r.length cr], .agg #[.slice ao' o'.length co', .slice ae' e'.length ce', .slice ar' r'.length cr']] w fun E w' => E = .returned (.bool true) ∧ Below w.heap.size w w' := by
  have HL : Hid (∀ W, Below w.heap.size w W → Calls Try.prog 19 #[.agg #[.slice ao o.length co, .slice ae e.length ce, .slice ar r.length cr]] W fun E w' => SomeBool E ∧ Below W.heap.size W w') := Lib.hid fun W hW => long_any ao ae ar o e r co ce cr W (hT.below hW)
  have HM : Hid (∀ W, Below w.heap.size w W → Calls Try.prog 19 #[.agg #[.slice ao' o'.length co', .slice ae' e'.length ce', .slice ar' r'.length cr']] W fun E w' => SomeBool E ∧ Below W.heap.size W w') := Lib.hid fun W hW => long_any ao' ae' ar' o' e' r' co' ce' cr' W (hU.below hW)
  have HB : Hid (∀ W, Below w.heap.size w W → Calls Try.prog 37 #[.agg #[.slice ao o.length co, .slice ae e.length ce, .slice ar r.length cr], .agg #[.slice ao' o'.length co', .slice ae' e'.length ce', .slice ar' r'.length cr']] W fun E w' => E = .returned (.tuple #[.bool (tableB o e r && (tableB o' e' r' && betB o e o' e' r r')), .int .i64 (if tableB o e r && tableB o' e' r' then 0 else 30)]) ∧ Below W.heap.size W w') := Lib.hid fun W hW => Better_any ao ae ar ao' ae' ar' o e o' e' r r' co ce cr co' ce' cr' W (hT.below hW) (hU.below hW)
  have HR : Hid (∀ W, Below w.heap.size w W → Calls Try.prog 38 #[.agg #[.slice ao o.length co, .slice ae e.length ce, .slice ar r.length cr], .agg #[.slice ao' o'.length co', .slice ae' e'.length ce', .slice ar' r'.length cr']] W fun E w' => E = .returned (.tuple #[.bool (tableB o e r && (tableB o' e' r' && betB o e o' e' r r')), .int .i64 (if tableB o e r && tableB o' e' r' then 0 else 30)]) ∧ Below W.heap.size W w') := Lib.hid fun W hW => RefBetter_any ao ae ar ao' ae' ar' o e o' e' r r' co ce cr co' ce' cr' W (hT.below hW) (hU.below hW)
  have H1 : Hid (∀ W, Below w.heap.size w W → Calls Try.prog 20 #[] W fun e w' => e = .returned (.bool true) ∧ Below W.heap.size W w') := Lib.hid fun W _ => first_any W
  generalize (tableB o e r && (tableB o' e' r' && betB o e o' e' r r')) = bb at *
  generalize (if tableB o e r && tableB o' e' r' then (0 : Int) else 30) = ec at *
  have hbb : (bb == bb) = true := by simp
  clear hT hU
  go_enter Try.func9, Try.ntmps9
  go_wp2_with fail
  refine (HL.out _ box2_start).mono ?_
  rintro E w1 ⟨⟨b, rfl⟩, hb1⟩
  obtain ⟨hc1, hf1⟩ := bcell hb1
  cases b with
  | true =>
    go_wp2_with fail
    refine (H1.out _ (box2_below hb1)).mono ?_
    rintro E w2 ⟨rfl, hb2⟩
    have hb2 := hb1.trans (hb2.mono hb1.size)
    clear hc1 hf1
    obtain ⟨hc2, hf2⟩ := bcell hb2
    go_wp2_with fail
    go_ret
    exact ⟨rfl, (box2_below hb2)⟩
  | false =>
    go_wp2_with fail
    refine (HM.out _ (box2_below hb1)).mono ?_
    rintro E w2 ⟨⟨b, rfl⟩, hb2⟩
    have hb2 := hb1.trans (hb2.mono hb1.size)
    clear hc1 hf1
    obtain ⟨hc2, hf2⟩ := bcell hb2
    cases b with
    | true =>
      go_wp2_with fail
      refine (H1.out _ (box2_below hb2)).mono ?_
      rintro E w3 ⟨rfl, hb3⟩
      have hb3 := hb2.trans (hb3.mono hb2.size)
      clear hc2 hf2
      obtain ⟨hc3, hf3⟩ := bcell hb3
      go_wp2_with fail
      go_ret
      exact ⟨rfl, (box2_below hb3)⟩
    | false =>
      go_wp2_with fail
      refine (HB.out _ (box2_below hb2)).mono ?_
      rintro E w3 ⟨rfl, hb3⟩
      have hb3 := hb2.trans (hb3.mono hb2.size)
      clear hc2 hf2
      obtain ⟨hc3, hf3⟩ := bcell hb3
      go_wp2_with fail
      refine (HR.out _ (box2_below hb3)).mono ?_
      rintro E w4 ⟨rfl, hb4⟩
      have hb4 := hb3.trans (hb4.mono hb3.size)
      clear hc3 hf3
      obtain ⟨hc4, hf4⟩ := bcell hb4
      go_wp2_with fail
      refine (H1.out _ (box2_below hb4)).mono ?_
      rintro E w5 ⟨rfl, hb5⟩
      have hb5 := hb4.trans (hb5.mono hb4.size)
      clear hc4 hf4
      obtain ⟨hc5, hf5⟩ := bcell hb5
      go_wp2_with fail
      go_ret
      exact ⟨rfl, (box2_below hb5)⟩
end Go.Proofs.Ytanmelbkhojfoaa
