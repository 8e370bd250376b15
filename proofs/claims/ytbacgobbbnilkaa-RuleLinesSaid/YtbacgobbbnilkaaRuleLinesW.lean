/-
  The law RuleLines. By an AI agent.
-/
import Derived.Test.YtbacgobbbnilkaaRuX
import Derived.Test.YtbacgobbbnilkaaRuYb
import Derived.Test.YtbacgobbbnilkaaRuHv
import Derived.Deep.RegionHeld3
import Derived.Deep.DeepCutAuto
import Derived.BigQuiet
import Derived.BigRegion
namespace Go.Proofs.Ytbacgobbbnilkaa
set_option linter.unusedVariables false
set_option linter.unusedSimpArgs false
open Go.RowKit

set_option maxRecDepth 100000 in
set_option maxHeartbeats 4000000 in
theorem ruleLines_any (L : Int) (a : Option Addr) (js : List Int) (ca : Nat) (aa : Option Addr) (l : List Sgn) (cl : Nat) (ae : Option Addr) (q : List Edc) (cq : Nat) (q0 q1 q2 q3 : Int) (w : World) (hI : IntsS w a js) (hA : SgnS w aa l) (hE : EdS w ae q) : Calls Try.prog 3 #[.agg #[.int .i64 L, .slice a js.length ca, .slice aa l.length cl, .slice ae q.length cq, .int .i64 q0, .int .i64 q1, .int .i64 q2, .int .i64 q3]] w fun e w' => e = .returned (.bool true) ∧ Below w.heap.size w w' := by
  have HH := Lib.hid (fun W (hW : Below w.heap.size w W) => Heavy_any L a js ca aa l cl ae q cq q0 q1 q2 q3 W (hI.below hW) (hA.below hW) (hE.below hW))
  have P1 := Lib.hid (fun W (hW : Below w.heap.size w W) => ValidLine_r L a js ca W (hI.below hW))
  have R1 := Lib.hid (fun W (hW : Below w.heap.size w W) => refValidLine_r L a js ca W (hI.below hW))
  have P2 := Lib.hid (fun W (hW : Below w.heap.size w W) => ValidSigns_r L a js ca aa l cl W (hI.below hW) (hA.below hW))
  have R2 := Lib.hid (fun W (hW : Below w.heap.size w W) => refValidSigns_r L a js ca aa l cl W (hI.below hW) (hA.below hW))
  have P3 := Lib.hid (fun W (hW : Below w.heap.size w W) => ValidEdicts_r L a js ca ae q cq W (hI.below hW) (hE.below hW))
  have R3 := Lib.hid (fun W (hW : Below w.heap.size w W) => refValidEdicts_r L a js ca ae q cq W (hI.below hW) (hE.below hW))
  clear hI hA hE
  generalize lineB L js = b1 at P1 R1
  generalize sgnsB L js l = b2 at P2 R2
  generalize edcsB L js q = b3 at P3 R3
  go_enter Try.func3, Try.ntmps3
  go_wp2_with fail
  obtain ⟨wB, hwB⟩ : ∃ wB, w.alloc (.cells #[.int .i64 L, .slice a js.length ca, .slice aa l.length cl, .slice ae q.length cq, .int .i64 q0, .int .i64 q1, .int .i64 q2, .int .i64 q3] 28) = wB := ⟨_, rfl⟩
  have hb : Below w.heap.size w wB := by rw [← hwB]; exact (Below.refl _ _).alloc (Nat.le_refl _) _
  have p0 : wB.cell? ⟨w.heap.size, 0, none⟩ = some (.int .i64 L) := by rw [← hwB]; simp [go_sem]
  have p1 : wB.cell? ⟨w.heap.size, 1, none⟩ = some (.slice a js.length ca) := by rw [← hwB]; simp [go_sem]
  have p2 : wB.cell? ⟨w.heap.size, 2, none⟩ = some (.slice aa l.length cl) := by rw [← hwB]; simp [go_sem]
  have p3 : wB.cell? ⟨w.heap.size, 3, none⟩ = some (.slice ae q.length cq) := by rw [← hwB]; simp [go_sem]
  have p4 : wB.cell? ⟨w.heap.size, 4, none⟩ = some (.int .i64 q0) := by rw [← hwB]; simp [go_sem]
  have p5 : wB.cell? ⟨w.heap.size, 5, none⟩ = some (.int .i64 q1) := by rw [← hwB]; simp [go_sem]
  have p6 : wB.cell? ⟨w.heap.size, 6, none⟩ = some (.int .i64 q2) := by rw [← hwB]; simp [go_sem]
  have p7 : wB.cell? ⟨w.heap.size, 7, none⟩ = some (.int .i64 q3) := by rw [← hwB]; simp [go_sem]
  rw [hwB]
  clear hwB
  refine (HH.out _ hb).mono ?_
  rintro e wX ⟨bv, -, rfl, hb1⟩
  replace p0 := cell_below p0 hb1
  replace p1 := cell_below p1 hb1
  replace p2 := cell_below p2 hb1
  replace p3 := cell_below p3 hb1
  replace p4 := cell_below p4 hb1
  replace p5 := cell_below p5 hb1
  replace p6 := cell_below p6 hb1
  replace p7 := cell_below p7 hb1
  have hbw := hb.trans (hb1.mono hb.size)
  clear HH hb1
  cases bv with
  | true =>
    go_wp2_with (go_at_call 5; refine (first_any _).mono ?_; rintro e w9 ⟨rfl, hb9⟩)
    go_ret
    exact ⟨rfl, hbw.trans (hb9.mono hbw.size)⟩
  | false =>
    have hz := block_lt p0
    have Z0 := Lib.hid p0
    have Z1 := Lib.hid p1
    have Z2 := Lib.hid p2
    have Z3 := Lib.hid p3
    have P1 := Lib.hid (fun W (hW : Below wX.heap.size wX W) => P1.out W (hbw.trans (hW.mono hbw.size)))
    have R1 := Lib.hid (fun W (hW : Below wX.heap.size wX W) => R1.out W (hbw.trans (hW.mono hbw.size)))
    have P2 := Lib.hid (fun W (hW : Below wX.heap.size wX W) => P2.out W (hbw.trans (hW.mono hbw.size)))
    have R2 := Lib.hid (fun W (hW : Below wX.heap.size wX W) => R2.out W (hbw.trans (hW.mono hbw.size)))
    have P3 := Lib.hid (fun W (hW : Below wX.heap.size wX W) => P3.out W (hbw.trans (hW.mono hbw.size)))
    have R3 := Lib.hid (fun W (hW : Below wX.heap.size wX W) => R3.out W (hbw.trans (hW.mono hbw.size)))
    have HF := Lib.hid (fun W (hW : Below wX.heap.size wX W) => first_any W)
    have HBW := Lib.hid hbw
    clear p4 p5 p6 p7 hb hbw
    have hB : Below wX.heap.size wX wX := Below.refl _ _
    have t1 : (b1 == b1) = true := by cases b1 <;> rfl
    have t2 : (b2 == b2) = true := by cases b2 <;> rfl
    have t3 : (b3 == b3) = true := by cases b3 <;> rfl
    go_wp2_with fail
    cases b1 <;> cases b2 <;> cases b3
    all_goals
      go_region_held3 (fun w' => w'.cell? ⟨w.heap.size, 0, none⟩ = some (.int .i64 L) ∧ w'.cell? ⟨w.heap.size, 1, none⟩ = some (.slice a js.length ca) ∧ w'.cell? ⟨w.heap.size, 2, none⟩ = some (.slice aa l.length cl) ∧ w'.cell? ⟨w.heap.size, 3, none⟩ = some (.slice ae q.length cq)) (go_keep)
        (first
          | (go_at_call 6
             refine (P1.out _ (by first | exact hB.drew | exact hB)).mono ?_
             rintro e w9 ⟨rfl, hb9⟩
             replace hB : Below wX.heap.size wX w9 := (show Below wX.heap.size wX _ by first | exact hB.drew | exact hB).trans (hb9.mono hB.size)
             have p0 := (hB.cell (p := ⟨w.heap.size, 0, none⟩) hz).trans Z0.out
             have p1 := (hB.cell (p := ⟨w.heap.size, 1, none⟩) hz).trans Z1.out
             have p2 := (hB.cell (p := ⟨w.heap.size, 2, none⟩) hz).trans Z2.out
             have p3 := (hB.cell (p := ⟨w.heap.size, 3, none⟩) hz).trans Z3.out)
          | (go_at_call 7
             refine (R1.out _ (by first | exact hB.drew | exact hB)).mono ?_
             rintro e w9 ⟨rfl, hb9⟩
             replace hB : Below wX.heap.size wX w9 := (show Below wX.heap.size wX _ by first | exact hB.drew | exact hB).trans (hb9.mono hB.size)
             have p0 := (hB.cell (p := ⟨w.heap.size, 0, none⟩) hz).trans Z0.out
             have p1 := (hB.cell (p := ⟨w.heap.size, 1, none⟩) hz).trans Z1.out
             have p2 := (hB.cell (p := ⟨w.heap.size, 2, none⟩) hz).trans Z2.out
             have p3 := (hB.cell (p := ⟨w.heap.size, 3, none⟩) hz).trans Z3.out)
          | (go_at_call 8
             refine (P2.out _ (by first | exact hB.drew | exact hB)).mono ?_
             rintro e w9 ⟨rfl, hb9⟩
             replace hB : Below wX.heap.size wX w9 := (show Below wX.heap.size wX _ by first | exact hB.drew | exact hB).trans (hb9.mono hB.size)
             have p0 := (hB.cell (p := ⟨w.heap.size, 0, none⟩) hz).trans Z0.out
             have p1 := (hB.cell (p := ⟨w.heap.size, 1, none⟩) hz).trans Z1.out
             have p2 := (hB.cell (p := ⟨w.heap.size, 2, none⟩) hz).trans Z2.out
             have p3 := (hB.cell (p := ⟨w.heap.size, 3, none⟩) hz).trans Z3.out)
          | (go_at_call 9
             refine (R2.out _ (by first | exact hB.drew | exact hB)).mono ?_
             rintro e w9 ⟨rfl, hb9⟩
             replace hB : Below wX.heap.size wX w9 := (show Below wX.heap.size wX _ by first | exact hB.drew | exact hB).trans (hb9.mono hB.size)
             have p0 := (hB.cell (p := ⟨w.heap.size, 0, none⟩) hz).trans Z0.out
             have p1 := (hB.cell (p := ⟨w.heap.size, 1, none⟩) hz).trans Z1.out
             have p2 := (hB.cell (p := ⟨w.heap.size, 2, none⟩) hz).trans Z2.out
             have p3 := (hB.cell (p := ⟨w.heap.size, 3, none⟩) hz).trans Z3.out)
          | (go_at_call 10
             refine (P3.out _ (by first | exact hB.drew | exact hB)).mono ?_
             rintro e w9 ⟨rfl, hb9⟩
             replace hB : Below wX.heap.size wX w9 := (show Below wX.heap.size wX _ by first | exact hB.drew | exact hB).trans (hb9.mono hB.size)
             have p0 := (hB.cell (p := ⟨w.heap.size, 0, none⟩) hz).trans Z0.out
             have p1 := (hB.cell (p := ⟨w.heap.size, 1, none⟩) hz).trans Z1.out
             have p2 := (hB.cell (p := ⟨w.heap.size, 2, none⟩) hz).trans Z2.out
             have p3 := (hB.cell (p := ⟨w.heap.size, 3, none⟩) hz).trans Z3.out)
          | (go_at_call 11
             refine (R3.out _ (by first | exact hB.drew | exact hB)).mono ?_
             rintro e w9 ⟨rfl, hb9⟩
             replace hB : Below wX.heap.size wX w9 := (show Below wX.heap.size wX _ by first | exact hB.drew | exact hB).trans (hb9.mono hB.size)
             have p0 := (hB.cell (p := ⟨w.heap.size, 0, none⟩) hz).trans Z0.out
             have p1 := (hB.cell (p := ⟨w.heap.size, 1, none⟩) hz).trans Z1.out
             have p2 := (hB.cell (p := ⟨w.heap.size, 2, none⟩) hz).trans Z2.out
             have p3 := (hB.cell (p := ⟨w.heap.size, 3, none⟩) hz).trans Z3.out)
          | (go_at_call 5
             refine (HF.out _ (by first | exact hB.drew | exact hB)).mono ?_
             rintro e w9 ⟨rfl, hb9⟩
             replace hB : Below wX.heap.size wX w9 := (show Below wX.heap.size wX _ by first | exact hB.drew | exact hB).trans (hb9.mono hB.size)
             have p0 := (hB.cell (p := ⟨w.heap.size, 0, none⟩) hz).trans Z0.out
             have p1 := (hB.cell (p := ⟨w.heap.size, 1, none⟩) hz).trans Z1.out
             have p2 := (hB.cell (p := ⟨w.heap.size, 2, none⟩) hz).trans Z2.out
             have p3 := (hB.cell (p := ⟨w.heap.size, 3, none⟩) hz).trans Z3.out))

    all_goals
      go_wp2_with fail
      go_ret
      exact ⟨rfl, HBW.out.trans (hB.mono HBW.out.size)⟩
end Go.Proofs.Ytbacgobbbnilkaa
