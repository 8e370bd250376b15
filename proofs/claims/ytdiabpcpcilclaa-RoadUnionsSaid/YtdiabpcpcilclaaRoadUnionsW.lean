/-
  The law RoadUnions: it answers true. By an AI agent.
-/
import Derived.Test.YtdiabpcpcilclaaRoadPo
import Derived.Test.YtdiabpcpcilclaaRoadAw
import Derived.Deep.RegionHeld3
import Derived.BigQuiet
namespace Go.Proofs.Ytdiabpcpcilclaa
set_option linter.unusedVariables false
set_option linter.unusedSimpArgs false
open Go.RowKit

set_option maxRecDepth 100000 in
set_option maxHeartbeats 4000000 in
theorem roadUnions_any (a0 : Option Addr) (l0 : List Spn) (c0 : Nat) (a1 : Option Addr) (l1 : List Spn) (c1 : Nat) (w : World) (h0 : PairsS w a0 l0) (h1 : PairsS w a1 l1) :
    Calls Try.prog 4 #[.slice a0 l0.length c0, .slice a1 l1.length c1] w fun e w' => e = .returned (.bool true) ∧ Below w.heap.size w w' := by
  have HA := Lib.hid awake_any
  by_cases g0 : l0.length ≤ 80
  · have b0 : decide (80 < (l0.length : Int)) = false := decide_eq_false (by omega)
    by_cases g1 : l1.length ≤ 80
    · have b1 : decide (80 < (l1.length : Int)) = false := decide_eq_false (by omega)
      have HU := Lib.hid (fun W (h : PairsS W a0 l0) => Union_any a0 l0 c0 W h)
      have HV := Lib.hid (fun W (h : PairsS W a0 l0) => refUnion_any a0 l0 c0 W h)
      have HM := Lib.hid (fun W (h : PairsS W a0 l0) (g : PairsS W a1 l1) => Minus_any a0 l0 c0 a1 l1 c1 W h g)
      have HN := Lib.hid (fun W (h : PairsS W a0 l0) (g : PairsS W a1 l1) => refMinus_any a0 l0 c0 a1 l1 c1 W h g)
      have HT := Lib.hid (fun W (h : PairsS W a0 l0) => Total_any a0 l0 c0 W h)
      have HS := Lib.hid (fun W (h : PairsS W a0 l0) => refTotal_any a0 l0 c0 W h)
      have HP0 := Lib.hid h0
      have HP1 := Lib.hid h1
      clear h0 h1
      generalize unL l0 = U at *
      generalize unE l0 = eU at *
      generalize miL l0 l1 = M at *
      generalize miE l0 l1 = eM at *
      generalize toV l0 = T at *
      go_enter Try.func4, Try.ntmps4
      go_wp2_with fail
      refine (HU.out _ HP0.out).mono ?_
      rintro e w1 ⟨p1, q1, rfl, hp1, hb1, -⟩
      have H1 := Lib.hid hp1
      have HP0 := Lib.hid (HP0.out.below hb1)
      have HP1 := Lib.hid (HP1.out.below hb1)
      have hb := hb1
      clear hp1 hb1 HU
      go_wp2_with fail
      refine (HV.out _ HP0.out).mono ?_
      rintro e w2 ⟨p2, q2, rfl, hp2, hb1, -⟩
      have H2 := Lib.hid hp2
      have HP0 := Lib.hid (HP0.out.below hb1)
      have HP1 := Lib.hid (HP1.out.below hb1)
      have H1 := Lib.hid (H1.out.below hb1)
      have hb := below_on hb hb1
      clear hp2 hb1 HV
      go_wp2_with fail
      refine (HM.out _ HP0.out HP1.out).mono ?_
      rintro e w3 ⟨p3, q3, rfl, hp3, hb1, -⟩
      have H3 := Lib.hid hp3
      have HP0 := Lib.hid (HP0.out.below hb1)
      have HP1 := Lib.hid (HP1.out.below hb1)
      have H1 := Lib.hid (H1.out.below hb1)
      have H2 := Lib.hid (H2.out.below hb1)
      have hb := below_on hb hb1
      clear hp3 hb1 HM
      go_wp2_with fail
      refine (HN.out _ HP0.out HP1.out).mono ?_
      rintro e w4 ⟨p4, q4, rfl, hp4, hb1, -⟩
      have H4 := Lib.hid hp4
      have HP0 := Lib.hid (HP0.out.below hb1)
      have HP1 := Lib.hid (HP1.out.below hb1)
      have H1 := Lib.hid (H1.out.below hb1)
      have H2 := Lib.hid (H2.out.below hb1)
      have H3 := Lib.hid (H3.out.below hb1)
      have hb := below_on hb hb1
      clear hp4 hb1 HN
      go_wp2_with fail
      refine (HT.out _ HP0.out).mono ?_
      rintro e w5 ⟨rfl, hb1⟩
      have HP0 := Lib.hid (HP0.out.below hb1)
      have H1 := Lib.hid (H1.out.below hb1)
      have H2 := Lib.hid (H2.out.below hb1)
      have H3 := Lib.hid (H3.out.below hb1)
      have H4 := Lib.hid (H4.out.below hb1)
      have hb := below_on hb hb1
      clear hb1 HT
      go_wp2_with fail
      refine (HS.out _ HP0.out).mono ?_
      rintro e w6 ⟨rfl, hb1⟩
      have H1 := Lib.hid (H1.out.below hb1)
      have H2 := Lib.hid (H2.out.below hb1)
      have H3 := Lib.hid (H3.out.below hb1)
      have H4 := Lib.hid (H4.out.below hb1)
      have hb := below_on hb hb1
      clear hb1 HS HP0 HP1
      go_wp2_with fail
      refine (sameSpans_any p1 p2 U q1 q2 _ H1.out H2.out).mono ?_
      rintro e w7 ⟨rfl, hb1⟩
      have H3 := Lib.hid (H3.out.below hb1)
      have H4 := Lib.hid (H4.out.below hb1)
      have hb := below_on hb hb1
      clear hb1 H1 H2
      go_wp2_with fail
      refine (sameSpans_any p3 p4 M q3 q4 _ H3.out H4.out).mono ?_
      rintro e w8 ⟨rfl, hb1⟩
      have hb := below_on hb hb1
      clear hb1 H3 H4
      go_wp2_with fail
      refine (HA.out _).mono ?_
      rintro e w9 ⟨rfl, hb9⟩
      go_wp2_with fail
      go_ret
      exact ⟨rfl, below_on hb hb9⟩

    · have b1 : decide (80 < (l1.length : Int)) = true := decide_eq_true (by omega)
      clear h0 h1
      go_enter Try.func4, Try.ntmps4
      go_wp2_with fail
      refine (HA.out _).mono ?_
      rintro e w9 ⟨rfl, hb9⟩
      go_wp2_with fail
      go_ret
      exact ⟨rfl, hb9⟩

  · have b0 : decide (80 < (l0.length : Int)) = true := decide_eq_true (by omega)
    clear h0 h1
    go_enter Try.func4, Try.ntmps4
    go_wp2_with fail
    refine (HA.out _).mono ?_
    rintro e w9 ⟨rfl, hb9⟩
    go_wp2_with fail
    go_ret
    exact ⟨rfl, hb9⟩

end Go.Proofs.Ytdiabpcpcilclaa
