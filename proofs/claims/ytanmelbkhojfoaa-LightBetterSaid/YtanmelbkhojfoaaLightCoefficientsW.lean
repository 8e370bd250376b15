/-
  The walks of ValidScene and of its reference; the walk of the law LightCoefficients: it answers true. By an AI agent.
-/
import Derived.Test.YtanmelbkhojfoaaLightJ
namespace Go.Proofs.Ytanmelbkhojfoaa
set_option linter.unusedVariables false
set_option linter.unusedSimpArgs false
open Go.RowKit

theorem refCoef_any (ao ae ar : Option Addr) (o e : List Int) (r : List (List Int)) (co ce cr : Nat) (x y : Int) (w : World) (hT : TableS w ao ae ar o e r) (hK : TableOk o e r) (hx : I64 x) (hy : I64 y) :
    Calls Try.prog 26 #[.agg #[.slice ao o.length co, .slice ae e.length ce, .slice ar r.length cr], .int .i64 x, .int .i64 y] w fun E w' => E = .returned (.int .i64 (coefV o e r x y)) ∧ Below w.heap.size w w' := by
  by_cases ha : above o x ∨ above e y
  · rw [coefV_above ha]; exact refCoef_out ao ae ar o e r co ce cr x y w hT hK hx hy ha
  · exact refCoef_in ao ae ar o e r co ce cr x y w hT hK hx hy (fun h => ha (.inl h)) (fun h => ha (.inr h))
def sceneB (a b c d : Int) : Bool := btw a 0 5000 && (btw b 0 50000 && (btw c 0 1000000 && btw d 0 100000))
theorem sceneB_iff (a b c d : Int) : sceneB a b c d = true ↔ (0 ≤ a ∧ a ≤ 5000) ∧ (0 ≤ b ∧ b ≤ 50000) ∧ (0 ≤ c ∧ c ≤ 1000000) ∧ 0 ≤ d ∧ d ≤ 100000 := by
  unfold sceneB; simp only [Bool.and_eq_true, btw_iff]

set_option maxRecDepth 100000 in
set_option maxHeartbeats 1000000 in
theorem validScene_any (a b c d : Int) (w : World) : Calls Try.prog 23 #[.agg #[.int .i64 a, .int .i64 b, .int .i64 c, .int .i64 d]] w fun e w' => e = .returned (.bool (sceneB a b c d)) ∧ Below w.heap.size w w' := by
  unfold sceneB
  by_cases h1 : btw a 0 5000 = true
  · rw [h1]
    have H1 := Lib.hid h1
    clear h1
    by_cases h2 : btw b 0 50000 = true
    · rw [h2]
      have H2 := Lib.hid h2
      clear h2
      by_cases h3 : btw c 0 1000000 = true
      · rw [h3]
        have H3 := Lib.hid h3
        clear h3
        go_enter Try.func23, Try.ntmps23
        go_wp2_with (go_at_call 55; refine (between_any _ _ _ _).mono ?_; rintro E w' ⟨rfl, rfl⟩; first | rw [H1.out] | rw [H2.out] | rw [H3.out] | skip)
        go_ret
        refine ⟨rfl, ?_⟩
        go_grown
      · have h3 : btw c 0 1000000 = false := by simpa using h3
        rw [h3]
        have H3 := Lib.hid h3
        clear h3
        go_enter Try.func23, Try.ntmps23
        go_wp2_with (go_at_call 55; refine (between_any _ _ _ _).mono ?_; rintro E w' ⟨rfl, rfl⟩; first | rw [H1.out] | rw [H2.out] | rw [H3.out] | skip)
        go_ret
        refine ⟨rfl, ?_⟩
        go_grown
    · have h2 : btw b 0 50000 = false := by simpa using h2
      rw [h2]
      have H2 := Lib.hid h2
      clear h2
      go_enter Try.func23, Try.ntmps23
      go_wp2_with (go_at_call 55; refine (between_any _ _ _ _).mono ?_; rintro E w' ⟨rfl, rfl⟩; first | rw [H1.out] | rw [H2.out] | skip)
      go_ret
      refine ⟨rfl, ?_⟩
      go_grown
  · have h1 : btw a 0 5000 = false := by simpa using h1
    rw [h1]
    have H1 := Lib.hid h1
    clear h1
    go_enter Try.func23, Try.ntmps23
    go_wp2_with (go_at_call 55; refine (between_any _ _ _ _).mono ?_; rintro E w' ⟨rfl, rfl⟩; first | rw [H1.out] | skip)
    go_ret
    refine ⟨rfl, ?_⟩
    go_grown

set_option maxRecDepth 100000 in
set_option maxHeartbeats 1000000 in
theorem refScene_any (a b c d : Int) (w : World) : Calls Try.prog 24 #[.agg #[.int .i64 a, .int .i64 b, .int .i64 c, .int .i64 d]] w fun e w' => e = .returned (.bool (sceneB a b c d)) ∧ Below w.heap.size w w' := by
  unfold sceneB
  by_cases h1 : btw a 0 5000 = true
  · rw [h1]
    have H1 := Lib.hid h1
    clear h1
    by_cases h2 : btw b 0 50000 = true
    · rw [h2]
      have H2 := Lib.hid h2
      clear h2
      by_cases h3 : btw c 0 1000000 = true
      · rw [h3]
        have H3 := Lib.hid h3
        clear h3
        go_enter Try.func24, Try.ntmps24
        go_wp2_with (go_at_call 57; refine (within_any _ _ _ _).mono ?_; rintro E w' ⟨rfl, rfl⟩; first | rw [H1.out] | rw [H2.out] | rw [H3.out] | skip)
        go_ret
        refine ⟨rfl, ?_⟩
        go_grown
      · have h3 : btw c 0 1000000 = false := by simpa using h3
        rw [h3]
        have H3 := Lib.hid h3
        clear h3
        go_enter Try.func24, Try.ntmps24
        go_wp2_with (go_at_call 57; refine (within_any _ _ _ _).mono ?_; rintro E w' ⟨rfl, rfl⟩; first | rw [H1.out] | rw [H2.out] | rw [H3.out] | skip)
        go_ret
        refine ⟨rfl, ?_⟩
        go_grown
    · have h2 : btw b 0 50000 = false := by simpa using h2
      rw [h2]
      have H2 := Lib.hid h2
      clear h2
      go_enter Try.func24, Try.ntmps24
      go_wp2_with (go_at_call 57; refine (within_any _ _ _ _).mono ?_; rintro E w' ⟨rfl, rfl⟩; first | rw [H1.out] | rw [H2.out] | skip)
      go_ret
      refine ⟨rfl, ?_⟩
      go_grown
  · have h1 : btw a 0 5000 = false := by simpa using h1
    rw [h1]
    have H1 := Lib.hid h1
    clear h1
    go_enter Try.func24, Try.ntmps24
    go_wp2_with (go_at_call 57; refine (within_any _ _ _ _).mono ?_; rintro E w' ⟨rfl, rfl⟩; first | rw [H1.out] | skip)
    go_ret
    refine ⟨rfl, ?_⟩
    go_grown

set_option maxRecDepth 100000 in
set_option maxHeartbeats 4000000 in
theorem lightCoefficients_any (ao ae ar : Option Addr) (o e : List Int) (r : List (List Int)) (co ce cr : Nat) (x y : Int) (w : World) (hT : TableS w ao ae ar o e r) (hco : o.length ≤ co) (hce : e.length ≤ ce) (hx : I64 x) (hy : I64 y) :
    Calls Try.prog 4 #[.agg #[.slice ao o.length co, .slice ae e.length ce, .slice ar r.length cr], .int .i64 x, .int .i64 y] w fun E w' => E = .returned (.bool true) ∧ Below w.heap.size w w' := by
  have HL : Hid (∀ W, Below w.heap.size w W → Calls Try.prog 19 #[.agg #[.slice ao o.length co, .slice ae e.length ce, .slice ar r.length cr]] W fun E w' => SomeBool E ∧ Below W.heap.size W w') := Lib.hid fun W hW => long_any ao ae ar o e r co ce cr W (hT.below hW)
  have HC : Hid (∀ W, Below w.heap.size w W → Calls Try.prog 25 #[.agg #[.slice ao o.length co, .slice ae e.length ce, .slice ar r.length cr], .int .i64 x, .int .i64 y] W fun E w' => E = .returned (.tuple #[.int .i64 (coV o e r x y), .int .i64 (coE o e r x y)]) ∧ Below W.heap.size W w') := Lib.hid fun W hW => Coefficient_any ao ae ar o e r co ce cr x y W (hT.below hW) hco hce hx hy
  have HV : Hid (∀ W, Below w.heap.size w W → Calls Try.prog 22 #[.agg #[.slice ao o.length co, .slice ae e.length ce, .slice ar r.length cr]] W fun E w' => E = .returned (.bool (tableB o e r)) ∧ Below W.heap.size W w') := Lib.hid fun W hW => refValidTable_any ao ae ar o e r co ce cr W (hT.below hW)
  have H1 : Hid (∀ W, Below w.heap.size w W → Calls Try.prog 20 #[] W fun e w' => e = .returned (.bool true) ∧ Below W.heap.size W w') := Lib.hid fun W _ => first_any W
  by_cases hb : tableB o e r = true
  · by_cases hx0 : 0 ≤ x
    · by_cases hy0 : 0 ≤ y
      · have HR : Hid (∀ W, Below w.heap.size w W → Calls Try.prog 26 #[.agg #[.slice ao o.length co, .slice ae e.length ce, .slice ar r.length cr], .int .i64 x, .int .i64 y] W fun E w' => E = .returned (.int .i64 (coefV o e r x y)) ∧ Below W.heap.size W w') := Lib.hid fun W hW => refCoef_any ao ae ar o e r co ce cr x y W (hT.below hW) (tableB_iff.1 hb) hx hy
        have e1 : coV o e r x y = coefV o e r x y := by unfold coV; rw [if_pos ⟨hb, hx0, hy0⟩]
        have e2 : coE o e r x y = 0 := by unfold coE; rw [if_pos hb, if_pos ⟨hx0, hy0⟩]
        rw [e1, e2] at HC
        rw [hb] at HV
        obtain ⟨x0, x1⟩ := hx
        obtain ⟨y0, y1⟩ := hy
        clear hT hb e1 e2 hco hce
        generalize coefV o e r x y = V at *
        go_enter Try.func4, Try.ntmps4
        go_wp2_with fail
        refine (HL.out _ (box_below (Below.refl _ _))).mono ?_
        rintro E w1 ⟨⟨b, rfl⟩, hb1⟩
        obtain ⟨hc1, hf1⟩ := bcell hb1
        cases b with
        | true =>
          go_wp2_with fail
          refine (H1.out _ (box_below hb1)).mono ?_
          rintro E w2 ⟨rfl, hb2⟩
          have hb2 := hb1.trans (hb2.mono hb1.size)
          clear hc1 hf1
          obtain ⟨hc2, hf2⟩ := bcell hb2
          go_wp2_with fail
          go_ret
          exact ⟨rfl, box_below hb2⟩
        | false =>
          go_wp2_with fail
          refine (HC.out _ (box_below hb1)).mono ?_
          rintro E w2 ⟨rfl, hb2⟩
          have hb2 := hb1.trans (hb2.mono hb1.size)
          clear hc1 hf1
          obtain ⟨hc2, hf2⟩ := bcell hb2
          go_wp2_with fail
          refine (HV.out _ (box_below hb2)).mono ?_
          rintro E w3 ⟨rfl, hb3⟩
          have hb3 := hb2.trans (hb3.mono hb2.size)
          clear hc2 hf2
          obtain ⟨hc3, hf3⟩ := bcell hb3
          go_wp2_with fail
          refine (HR.out _ (box_below hb3)).mono ?_
          rintro E w4 ⟨rfl, hb4⟩
          have hb4 := hb3.trans (hb4.mono hb3.size)
          clear hc3 hf3
          obtain ⟨hc4, hf4⟩ := bcell hb4
          go_wp2_with fail
          refine (H1.out _ (box_below hb4)).mono ?_
          rintro E w5 ⟨rfl, hb5⟩
          have hb5 := hb4.trans (hb5.mono hb4.size)
          clear hc4 hf4
          obtain ⟨hc5, hf5⟩ := bcell hb5
          go_wp2_with fail
          go_ret
          exact ⟨rfl, box_below hb5⟩
      · have e1 : coV o e r x y = 0 := by unfold coV; rw [if_neg (fun h => hy0 h.2.2)]
        have e2 : coE o e r x y = 2 := by unfold coE; rw [if_pos hb, if_neg (fun h => hy0 h.2)]
        rw [e1, e2] at HC
        rw [hb] at HV
        obtain ⟨x0, x1⟩ := hx
        obtain ⟨y0, y1⟩ := hy
        clear hT hb e1 e2 hco hce
        go_enter Try.func4, Try.ntmps4
        go_wp2_with fail
        refine (HL.out _ (box_below (Below.refl _ _))).mono ?_
        rintro E w1 ⟨⟨b, rfl⟩, hb1⟩
        obtain ⟨hc1, hf1⟩ := bcell hb1
        cases b with
        | true =>
          go_wp2_with fail
          refine (H1.out _ (box_below hb1)).mono ?_
          rintro E w2 ⟨rfl, hb2⟩
          have hb2 := hb1.trans (hb2.mono hb1.size)
          clear hc1 hf1
          obtain ⟨hc2, hf2⟩ := bcell hb2
          go_wp2_with fail
          go_ret
          exact ⟨rfl, box_below hb2⟩
        | false =>
          go_wp2_with fail
          refine (HC.out _ (box_below hb1)).mono ?_
          rintro E w2 ⟨rfl, hb2⟩
          have hb2 := hb1.trans (hb2.mono hb1.size)
          clear hc1 hf1
          obtain ⟨hc2, hf2⟩ := bcell hb2
          go_wp2_with fail
          refine (HV.out _ (box_below hb2)).mono ?_
          rintro E w3 ⟨rfl, hb3⟩
          have hb3 := hb2.trans (hb3.mono hb2.size)
          clear hc2 hf2
          obtain ⟨hc3, hf3⟩ := bcell hb3
          go_wp2_with fail
          refine (H1.out _ (box_below hb3)).mono ?_
          rintro E w4 ⟨rfl, hb4⟩
          have hb4 := hb3.trans (hb4.mono hb3.size)
          clear hc3 hf3
          obtain ⟨hc4, hf4⟩ := bcell hb4
          go_wp2_with fail
          go_ret
          exact ⟨rfl, box_below hb4⟩
    · have e1 : coV o e r x y = 0 := by unfold coV; rw [if_neg (fun h => hx0 h.2.1)]
      have e2 : coE o e r x y = 2 := by unfold coE; rw [if_pos hb, if_neg (fun h => hx0 h.1)]
      rw [e1, e2] at HC
      rw [hb] at HV
      obtain ⟨x0, x1⟩ := hx
      obtain ⟨y0, y1⟩ := hy
      clear hT hb e1 e2 hco hce
      go_enter Try.func4, Try.ntmps4
      go_wp2_with fail
      refine (HL.out _ (box_below (Below.refl _ _))).mono ?_
      rintro E w1 ⟨⟨b, rfl⟩, hb1⟩
      obtain ⟨hc1, hf1⟩ := bcell hb1
      cases b with
      | true =>
        go_wp2_with fail
        refine (H1.out _ (box_below hb1)).mono ?_
        rintro E w2 ⟨rfl, hb2⟩
        have hb2 := hb1.trans (hb2.mono hb1.size)
        clear hc1 hf1
        obtain ⟨hc2, hf2⟩ := bcell hb2
        go_wp2_with fail
        go_ret
        exact ⟨rfl, box_below hb2⟩
      | false =>
        go_wp2_with fail
        refine (HC.out _ (box_below hb1)).mono ?_
        rintro E w2 ⟨rfl, hb2⟩
        have hb2 := hb1.trans (hb2.mono hb1.size)
        clear hc1 hf1
        obtain ⟨hc2, hf2⟩ := bcell hb2
        go_wp2_with fail
        refine (HV.out _ (box_below hb2)).mono ?_
        rintro E w3 ⟨rfl, hb3⟩
        have hb3 := hb2.trans (hb3.mono hb2.size)
        clear hc2 hf2
        obtain ⟨hc3, hf3⟩ := bcell hb3
        go_wp2_with fail
        refine (H1.out _ (box_below hb3)).mono ?_
        rintro E w4 ⟨rfl, hb4⟩
        have hb4 := hb3.trans (hb4.mono hb3.size)
        clear hc3 hf3
        obtain ⟨hc4, hf4⟩ := bcell hb4
        go_wp2_with fail
        go_ret
        exact ⟨rfl, box_below hb4⟩
  · have e1 : coV o e r x y = 0 := by unfold coV; rw [if_neg (fun h => hb h.1)]
    have e2 : coE o e r x y = 30 := by unfold coE; rw [if_neg hb]
    have hb : tableB o e r = false := by simpa using hb
    rw [e1, e2] at HC
    rw [hb] at HV
    obtain ⟨x0, x1⟩ := hx
    obtain ⟨y0, y1⟩ := hy
    clear hT hb e1 e2 hco hce
    go_enter Try.func4, Try.ntmps4
    go_wp2_with fail
    refine (HL.out _ (box_below (Below.refl _ _))).mono ?_
    rintro E w1 ⟨⟨b, rfl⟩, hb1⟩
    obtain ⟨hc1, hf1⟩ := bcell hb1
    cases b with
    | true =>
      go_wp2_with fail
      refine (H1.out _ (box_below hb1)).mono ?_
      rintro E w2 ⟨rfl, hb2⟩
      have hb2 := hb1.trans (hb2.mono hb1.size)
      clear hc1 hf1
      obtain ⟨hc2, hf2⟩ := bcell hb2
      go_wp2_with fail
      go_ret
      exact ⟨rfl, box_below hb2⟩
    | false =>
      go_wp2_with fail
      refine (HC.out _ (box_below hb1)).mono ?_
      rintro E w2 ⟨rfl, hb2⟩
      have hb2 := hb1.trans (hb2.mono hb1.size)
      clear hc1 hf1
      obtain ⟨hc2, hf2⟩ := bcell hb2
      go_wp2_with fail
      refine (HV.out _ (box_below hb2)).mono ?_
      rintro E w3 ⟨rfl, hb3⟩
      have hb3 := hb2.trans (hb3.mono hb2.size)
      clear hc2 hf2
      obtain ⟨hc3, hf3⟩ := bcell hb3
      go_wp2_with fail
      refine (H1.out _ (box_below hb3)).mono ?_
      rintro E w4 ⟨rfl, hb4⟩
      have hb4 := hb3.trans (hb4.mono hb3.size)
      clear hc3 hf3
      obtain ⟨hc4, hf4⟩ := bcell hb4
      go_wp2_with fail
      go_ret
      exact ⟨rfl, box_below hb4⟩
end Go.Proofs.Ytanmelbkhojfoaa
