/-
  The walks of the reference's Bright, of Bright; the walk of the law LightBrights: it answers true. By an AI agent.
-/
import Derived.Test.YtkddmjadilmldaaLightBs
namespace Go.Proofs.Ytkddmjadilmldaa
set_option linter.unusedVariables false
set_option linter.unusedSimpArgs false
open Go.RowKit


noncomputable def seV (o e : List Int) (r : List (List Int)) (z0 z1 z2 z3 : Int) : Int := if tableB o e r then (if sceneB z0 z1 z2 z3 then 0 else 31) else 30
set_option maxRecDepth 100000 in
set_option maxHeartbeats 2000000 in
theorem sightError_any (ao ae ar : Option Addr) (o e : List Int) (r : List (List Int)) (co ce cr : Nat) (z0 z1 z2 z3 : Int) (w : World) (hT : TableS w ao ae ar o e r) :
    Calls Try.prog 32 #[.agg #[.slice ao o.length co, .slice ae e.length ce, .slice ar r.length cr], .agg #[.int .i64 z0, .int .i64 z1, .int .i64 z2, .int .i64 z3]] w fun E w' => E = .returned (.int .i64 (seV o e r z0 z1 z2 z3)) ∧ Below w.heap.size w w' := by
  have HV : Hid (∀ W, Below w.heap.size w W → Calls Try.prog 37 #[.agg #[.slice ao o.length co, .slice ae e.length ce, .slice ar r.length cr]] W fun E w' => E = .returned (.bool (tableB o e r)) ∧ Below W.heap.size W w') := Lib.hid fun W hW => validTable_any ao ae ar o e r co ce cr W (hT.below hW)
  have HS : Hid (∀ W, Below w.heap.size w W → Calls Try.prog 56 #[.agg #[.int .i64 z0, .int .i64 z1, .int .i64 z2, .int .i64 z3]] W fun E w' => E = .returned (.bool (sceneB z0 z1 z2 z3)) ∧ Below W.heap.size W w') := Lib.hid fun W _ => validScene_any z0 z1 z2 z3 W
  clear hT
  unfold seV
  by_cases hb : tableB o e r = true
  · rw [hb] at HV ⊢
    by_cases hs : sceneB z0 z1 z2 z3 = true
    · rw [hs] at HS ⊢
      clear hb hs
      go_enter Try.func32, Try.ntmps32
      go_wp2_with fail
      refine (HV.out _ box2_start).mono ?_
      rintro E w1 ⟨rfl, hb1⟩
      obtain ⟨hc1, hf1⟩ := bcell hb1
      go_wp2_with fail
      refine (HS.out _ (box2_below hb1)).mono ?_
      rintro E w2 ⟨rfl, hb2⟩
      have hb2 := hb1.trans (hb2.mono hb1.size)
      clear hc1 hf1
      obtain ⟨hc2, hf2⟩ := bcell hb2
      go_wp2_with fail
      go_ret
      exact ⟨rfl, (box2_below hb2)⟩
    · have hs : sceneB z0 z1 z2 z3 = false := by simpa using hs
      rw [hs] at HS ⊢
      clear hb hs
      go_enter Try.func32, Try.ntmps32
      go_wp2_with fail
      refine (HV.out _ box2_start).mono ?_
      rintro E w1 ⟨rfl, hb1⟩
      obtain ⟨hc1, hf1⟩ := bcell hb1
      go_wp2_with fail
      refine (HS.out _ (box2_below hb1)).mono ?_
      rintro E w2 ⟨rfl, hb2⟩
      have hb2 := hb1.trans (hb2.mono hb1.size)
      clear hc1 hf1
      obtain ⟨hc2, hf2⟩ := bcell hb2
      go_wp2_with fail
      go_ret
      exact ⟨rfl, (box2_below hb2)⟩
  · have hb : tableB o e r = false := by simpa using hb
    rw [hb] at HV ⊢
    clear hb
    go_enter Try.func32, Try.ntmps32
    go_wp2_with fail
    refine (HV.out _ box2_start).mono ?_
    rintro E w1 ⟨rfl, hb1⟩
    obtain ⟨hc1, hf1⟩ := bcell hb1
    go_wp2_with fail
    go_ret
    exact ⟨rfl, (box2_below hb1)⟩

noncomputable def brB (o e : List Int) (r : List (List Int)) (z0 z1 z2 z3 d : Int) : Bool := tableB o e r && (sceneB z0 z1 z2 z3 && btw d 1 400)
noncomputable def brV (o e : List Int) (r : List (List Int)) (z0 z1 z2 z3 d : Int) : Int := if brB o e r z0 z1 z2 z3 d then brightV o e r z0 z1 z2 z3 d else 0
noncomputable def brE (o e : List Int) (r : List (List Int)) (z0 z1 z2 z3 d : Int) : Int := if tableB o e r then (if sceneB z0 z1 z2 z3 then (if btw d 1 400 then 0 else 2) else 31) else 30
end Go.Proofs.Ytkddmjadilmldaa
