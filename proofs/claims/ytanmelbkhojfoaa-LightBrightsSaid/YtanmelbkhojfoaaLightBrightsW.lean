/-
  The walks of the reference's Bright, of Bright; the walk of the law LightBrights: it answers true. By an AI agent.
-/
import Derived.Test.YtanmelbkhojfoaaLightBs
namespace Go.Proofs.Ytanmelbkhojfoaa
set_option linter.unusedVariables false
set_option linter.unusedSimpArgs false
open Go.RowKit


noncomputable def seV (o e : List Int) (r : List (List Int)) (z0 z1 z2 z3 : Int) : Int := if tableB o e r then (if sceneB z0 z1 z2 z3 then 0 else 31) else 30
set_option maxRecDepth 100000 in
set_option maxHeartbeats 2000000 in
theorem sightError_any (ao ae ar : Option Addr) (o e : List Int) (r : List (List Int)) (co ce cr : Nat) (z0 z1 z2 z3 : Int) (w : World) (hT : TableS w ao ae ar o e r) :
    Calls Try.prog 60 #[.agg #[.slice ao o.length co, .slice ae e.length ce, .slice ar r.length cr], .agg #[.int .i64 z0, .int .i64 z1, .int .i64 z2, .int .i64 z3]] w fun E w' => E = .returned (.int .i64 (seV o e r z0 z1 z2 z3)) ∧ Below w.heap.size w w' := by
  have HV : Hid (∀ W, Below w.heap.size w W → Calls Try.prog 21 #[.agg #[.slice ao o.length co, .slice ae e.length ce, .slice ar r.length cr]] W fun E w' => E = .returned (.bool (tableB o e r)) ∧ Below W.heap.size W w') := Lib.hid fun W hW => validTable_any ao ae ar o e r co ce cr W (hT.below hW)
  have HS : Hid (∀ W, Below w.heap.size w W → Calls Try.prog 23 #[.agg #[.int .i64 z0, .int .i64 z1, .int .i64 z2, .int .i64 z3]] W fun E w' => E = .returned (.bool (sceneB z0 z1 z2 z3)) ∧ Below W.heap.size W w') := Lib.hid fun W _ => validScene_any z0 z1 z2 z3 W
  clear hT
  unfold seV
  by_cases hb : tableB o e r = true
  · rw [hb] at HV ⊢
    by_cases hs : sceneB z0 z1 z2 z3 = true
    · rw [hs] at HS ⊢
      clear hb hs
      go_enter Try.func60, Try.ntmps60
      go_wp2_with fail
      refine (HV.out _ box2_start).mono ?_
      rintro E w1 ⟨rfl, hb1⟩
      obtain ⟨hc1, hf1⟩ := bcell hb1
      go_wp2_with fail
      refine (HS.out _ (box2_below hb1)).mono ?_
      rintro E w2 ⟨rfl, hb2⟩
      have hb2 := hb1.trans (hb2.mono hb1.size)
      clear hc1 hf1
      obtain ⟨hc2, hf2⟩ := bcell hb2
      go_wp2_with fail
      go_ret
      exact ⟨rfl, (box2_below hb2)⟩
    · have hs : sceneB z0 z1 z2 z3 = false := by simpa using hs
      rw [hs] at HS ⊢
      clear hb hs
      go_enter Try.func60, Try.ntmps60
      go_wp2_with fail
      refine (HV.out _ box2_start).mono ?_
      rintro E w1 ⟨rfl, hb1⟩
      obtain ⟨hc1, hf1⟩ := bcell hb1
      go_wp2_with fail
      refine (HS.out _ (box2_below hb1)).mono ?_
      rintro E w2 ⟨rfl, hb2⟩
      have hb2 := hb1.trans (hb2.mono hb1.size)
      clear hc1 hf1
      obtain ⟨hc2, hf2⟩ := bcell hb2
      go_wp2_with fail
      go_ret
      exact ⟨rfl, (box2_below hb2)⟩
  · have hb : tableB o e r = false := by simpa using hb
    rw [hb] at HV ⊢
    clear hb
    go_enter Try.func60, Try.ntmps60
    go_wp2_with fail
    refine (HV.out _ box2_start).mono ?_
    rintro E w1 ⟨rfl, hb1⟩
    obtain ⟨hc1, hf1⟩ := bcell hb1
    go_wp2_with fail
    go_ret
    exact ⟨rfl, (box2_below hb1)⟩

noncomputable def brB (o e : List Int) (r : List (List Int)) (z0 z1 z2 z3 d : Int) : Bool := tableB o e r && (sceneB z0 z1 z2 z3 && btw d 1 400)
noncomputable def brV (o e : List Int) (r : List (List Int)) (z0 z1 z2 z3 d : Int) : Int := if brB o e r z0 z1 z2 z3 d then brightV o e r z0 z1 z2 z3 d else 0
noncomputable def brE (o e : List Int) (r : List (List Int)) (z0 z1 z2 z3 d : Int) : Int := if tableB o e r then (if sceneB z0 z1 z2 z3 then (if btw d 1 400 then 0 else 2) else 31) else 30
set_option maxRecDepth 100000 in
set_option maxHeartbeats 2000000 in
theorem Bright_any (ao ae ar : Option Addr) (o e : List Int) (r : List (List Int)) (co ce cr : Nat) (z0 z1 z2 z3 : Int) (d : Int) (w : World) (hT : TableS w ao ae ar o e r) (hco : o.length ≤ co) (hce : e.length ≤ ce) :
    Calls Try.prog 27 #[.agg #[.slice ao o.length co, .slice ae e.length ce, .slice ar r.length cr], .agg #[.int .i64 z0, .int .i64 z1, .int .i64 z2, .int .i64 z3], .int .i64 d] w fun E w' => E = .returned (.tuple #[.int .i64 (brV o e r z0 z1 z2 z3 d), .int .i64 (brE o e r z0 z1 z2 z3 d)]) ∧ Below w.heap.size w w' := by
  have HE : Hid (∀ W, Below w.heap.size w W → Calls Try.prog 60 #[.agg #[.slice ao o.length co, .slice ae e.length ce, .slice ar r.length cr], .agg #[.int .i64 z0, .int .i64 z1, .int .i64 z2, .int .i64 z3]] W fun E w' => E = .returned (.int .i64 (seV o e r z0 z1 z2 z3)) ∧ Below W.heap.size W w') := Lib.hid fun W hW => sightError_any ao ae ar o e r co ce cr z0 z1 z2 z3 W (hT.below hW)
  by_cases hb : tableB o e r = true
  · by_cases hs : sceneB z0 z1 z2 z3 = true
    · by_cases hd : btw d 1 400 = true
      · have HD := Lib.hid hd
        obtain ⟨d0, d1⟩ := (btw_iff _ _ _).1 hd
        have HB : Hid (∀ W, Below w.heap.size w W → Calls Try.prog 61 #[.agg #[.slice ao o.length co, .slice ae e.length ce, .slice ar r.length cr], .agg #[.int .i64 z0, .int .i64 z1, .int .i64 z2, .int .i64 z3], .int .i64 d] W fun E w' => E = .returned (.int .i64 (brightV o e r z0 z1 z2 z3 d)) ∧ Below W.heap.size W w') := Lib.hid fun W hW => bright_any ao ae ar o e r co ce cr z0 z1 z2 z3 d W (hT.below hW) hco hce (tableB_iff.1 hb) hs d0 d1
        have e0 : seV o e r z0 z1 z2 z3 = 0 := by unfold seV; rw [hb, hs]; rfl
        have e1 : brV o e r z0 z1 z2 z3 d = brightV o e r z0 z1 z2 z3 d := by unfold brV brB; rw [hb, hs, hd]; rfl
        have e2 : brE o e r z0 z1 z2 z3 d = 0 := by unfold brE; rw [hb, hs, hd]; rfl
        rw [e0] at HE
        rw [e1, e2]
        clear hT hb hs hd e0 e1 e2 hco hce
        generalize brightV o e r z0 z1 z2 z3 d = V at *
        go_enter Try.func27, Try.ntmps27
        go_wp2_with (go_at_call 55; refine (between_any _ _ _ _).mono ?_; rintro E w' ⟨rfl, rfl⟩; rw [HD.out])
        refine (HE.out _ box2_start).mono ?_
        rintro E w1 ⟨rfl, hb1⟩
        obtain ⟨hc1, hf1⟩ := bcell hb1
        go_wp2_with (go_at_call 55; refine (between_any _ _ _ _).mono ?_; rintro E w' ⟨rfl, rfl⟩; rw [HD.out])
        refine (HB.out _ (box2_below hb1)).mono ?_
        rintro E w2 ⟨rfl, hb2⟩
        have hb2 := hb1.trans (hb2.mono hb1.size)
        clear hc1 hf1
        obtain ⟨hc2, hf2⟩ := bcell hb2
        go_wp2_with (go_at_call 55; refine (between_any _ _ _ _).mono ?_; rintro E w' ⟨rfl, rfl⟩; rw [HD.out])
        go_ret2
        exact ⟨rfl, (box2_below hb2)⟩
      · have hd : btw d 1 400 = false := by simpa using hd
        have HD := Lib.hid hd
        have e0 : seV o e r z0 z1 z2 z3 = 0 := by unfold seV; rw [hb, hs]; rfl
        have e1 : brV o e r z0 z1 z2 z3 d = 0 := by unfold brV brB; rw [hb, hs, hd]; rfl
        have e2 : brE o e r z0 z1 z2 z3 d = 2 := by unfold brE; rw [hb, hs, hd]; rfl
        rw [e0] at HE
        rw [e1, e2]
        clear hT hb hs hd e0 e1 e2 hco hce
        go_enter Try.func27, Try.ntmps27
        go_wp2_with (go_at_call 55; refine (between_any _ _ _ _).mono ?_; rintro E w' ⟨rfl, rfl⟩; rw [HD.out])
        refine (HE.out _ box2_start).mono ?_
        rintro E w1 ⟨rfl, hb1⟩
        obtain ⟨hc1, hf1⟩ := bcell hb1
        go_wp2_with (go_at_call 55; refine (between_any _ _ _ _).mono ?_; rintro E w' ⟨rfl, rfl⟩; rw [HD.out])
        go_ret2
        exact ⟨rfl, (box2_below hb1)⟩
    · have hs : sceneB z0 z1 z2 z3 = false := by simpa using hs
      have e0 : seV o e r z0 z1 z2 z3 = 31 := by unfold seV; rw [hb, hs]; rfl
      have e1 : brV o e r z0 z1 z2 z3 d = 0 := by unfold brV brB; rw [hb, hs]; rfl
      have e2 : brE o e r z0 z1 z2 z3 d = 31 := by unfold brE; rw [hb, hs]; rfl
      rw [e0] at HE
      rw [e1, e2]
      clear hT hb hs e0 e1 e2 hco hce
      go_enter Try.func27, Try.ntmps27
      go_wp2_with fail
      refine (HE.out _ box2_start).mono ?_
      rintro E w1 ⟨rfl, hb1⟩
      obtain ⟨hc1, hf1⟩ := bcell hb1
      go_wp2_with fail
      go_ret2
      exact ⟨rfl, (box2_below hb1)⟩
  · have hb : tableB o e r = false := by simpa using hb
    have e0 : seV o e r z0 z1 z2 z3 = 30 := by unfold seV; rw [hb]; rfl
    have e1 : brV o e r z0 z1 z2 z3 d = 0 := by unfold brV brB; rw [hb]; rfl
    have e2 : brE o e r z0 z1 z2 z3 d = 30 := by unfold brE; rw [hb]; rfl
    rw [e0] at HE
    rw [e1, e2]
    clear hT hb e0 e1 e2 hco hce
    go_enter Try.func27, Try.ntmps27
    go_wp2_with fail
    refine (HE.out _ box2_start).mono ?_
    rintro E w1 ⟨rfl, hb1⟩
    obtain ⟨hc1, hf1⟩ := bcell hb1
    go_wp2_with fail
    go_ret2
    exact ⟨rfl, (box2_below hb1)⟩

set_option maxRecDepth 100000 in
set_option maxHeartbeats 4000000 in
theorem lightBrights_any (ao ae ar : Option Addr) (o e : List Int) (r : List (List Int)) (co ce cr : Nat) (z0 z1 z2 z3 : Int) (d : Int) (w : World) (hT : TableS w ao ae ar o e r) (hco : o.length ≤ co) (hce : e.length ≤ ce) (hd : I64 d) :
    Calls Try.prog 5 #[.agg #[.slice ao o.length co, .slice ae e.length ce, .slice ar r.length cr], .agg #[.int .i64 z0, .int .i64 z1, .int .i64 z2, .int .i64 z3], .int .i64 d] w fun E w' => E = .returned (.bool true) ∧ Below w.heap.size w w' := by
  have HL : Hid (∀ W, Below w.heap.size w W → Calls Try.prog 19 #[.agg #[.slice ao o.length co, .slice ae e.length ce, .slice ar r.length cr]] W fun E w' => SomeBool E ∧ Below W.heap.size W w') := Lib.hid fun W hW => long_any ao ae ar o e r co ce cr W (hT.below hW)
  have HB : Hid (∀ W, Below w.heap.size w W → Calls Try.prog 27 #[.agg #[.slice ao o.length co, .slice ae e.length ce, .slice ar r.length cr], .agg #[.int .i64 z0, .int .i64 z1, .int .i64 z2, .int .i64 z3], .int .i64 d] W fun E w' => E = .returned (.tuple #[.int .i64 (brV o e r z0 z1 z2 z3 d), .int .i64 (brE o e r z0 z1 z2 z3 d)]) ∧ Below W.heap.size W w') := Lib.hid fun W hW => Bright_any ao ae ar o e r co ce cr z0 z1 z2 z3 d W (hT.below hW) hco hce
  have HV : Hid (∀ W, Below w.heap.size w W → Calls Try.prog 22 #[.agg #[.slice ao o.length co, .slice ae e.length ce, .slice ar r.length cr]] W fun E w' => E = .returned (.bool (tableB o e r)) ∧ Below W.heap.size W w') := Lib.hid fun W hW => refValidTable_any ao ae ar o e r co ce cr W (hT.below hW)
  have HS : Hid (∀ W, Below w.heap.size w W → Calls Try.prog 24 #[.agg #[.int .i64 z0, .int .i64 z1, .int .i64 z2, .int .i64 z3]] W fun E w' => E = .returned (.bool (sceneB z0 z1 z2 z3)) ∧ Below W.heap.size W w') := Lib.hid fun W _ => refScene_any z0 z1 z2 z3 W
  have H1 : Hid (∀ W, Below w.heap.size w W → Calls Try.prog 20 #[] W fun e w' => e = .returned (.bool true) ∧ Below W.heap.size W w') := Lib.hid fun W _ => first_any W
  obtain ⟨dd0, dd1⟩ := hd
  by_cases hb : tableB o e r = true
  · by_cases hs : sceneB z0 z1 z2 z3 = true
    · by_cases hd : btw d 1 400 = true
      · obtain ⟨d0, d1⟩ := (btw_iff _ _ _).1 hd
        have HR : Hid (∀ W, Below w.heap.size w W → Calls Try.prog 28 #[.agg #[.slice ao o.length co, .slice ae e.length ce, .slice ar r.length cr], .agg #[.int .i64 z0, .int .i64 z1, .int .i64 z2, .int .i64 z3], .int .i64 d] W fun E w' => E = .returned (.int .i64 (brightV o e r z0 z1 z2 z3 d)) ∧ Below W.heap.size W w') := Lib.hid fun W hW => refBright_any ao ae ar o e r co ce cr z0 z1 z2 z3 d W (hT.below hW) hco hce (tableB_iff.1 hb) hs d0 d1
        have e1 : brV o e r z0 z1 z2 z3 d = brightV o e r z0 z1 z2 z3 d := by unfold brV brB; rw [hb, hs, hd]; rfl
        have e2 : brE o e r z0 z1 z2 z3 d = 0 := by unfold brE; rw [hb, hs, hd]; rfl
        rw [e1, e2] at HB
        rw [hb] at HV
        rw [hs] at HS
        clear hT hb hs hd e1 e2 hco hce
        generalize brightV o e r z0 z1 z2 z3 d = V at *
        go_enter Try.func5, Try.ntmps5
        go_wp2_with fail
        refine (HL.out _ box2_start).mono ?_
        rintro E w1 ⟨⟨b, rfl⟩, hb1⟩
        obtain ⟨hc1, hf1⟩ := bcell hb1
        cases b with
        | true =>
          go_wp2_with fail
          refine (H1.out _ (box2_below hb1)).mono ?_
          rintro E w2 ⟨rfl, hb2⟩
          have hb2 := hb1.trans (hb2.mono hb1.size)
          clear hc1 hf1
          obtain ⟨hc2, hf2⟩ := bcell hb2
          go_wp2_with fail
          go_ret
          exact ⟨rfl, (box2_below hb2)⟩
        | false =>
          go_wp2_with fail
          refine (HB.out _ (box2_below hb1)).mono ?_
          rintro E w2 ⟨rfl, hb2⟩
          have hb2 := hb1.trans (hb2.mono hb1.size)
          clear hc1 hf1
          obtain ⟨hc2, hf2⟩ := bcell hb2
          go_wp2_with fail
          refine (HV.out _ (box2_below hb2)).mono ?_
          rintro E w3 ⟨rfl, hb3⟩
          have hb3 := hb2.trans (hb3.mono hb2.size)
          clear hc2 hf2
          obtain ⟨hc3, hf3⟩ := bcell hb3
          go_wp2_with fail
          refine (HS.out _ (box2_below hb3)).mono ?_
          rintro E w4 ⟨rfl, hb4⟩
          have hb4 := hb3.trans (hb4.mono hb3.size)
          clear hc3 hf3
          obtain ⟨hc4, hf4⟩ := bcell hb4
          go_wp2_with fail
          refine (HR.out _ (box2_below hb4)).mono ?_
          rintro E w5 ⟨rfl, hb5⟩
          have hb5 := hb4.trans (hb5.mono hb4.size)
          clear hc4 hf4
          obtain ⟨hc5, hf5⟩ := bcell hb5
          go_wp2_with fail
          refine (H1.out _ (box2_below hb5)).mono ?_
          rintro E w6 ⟨rfl, hb6⟩
          have hb6 := hb5.trans (hb6.mono hb5.size)
          clear hc5 hf5
          obtain ⟨hc6, hf6⟩ := bcell hb6
          go_wp2_with fail
          go_ret
          exact ⟨rfl, (box2_below hb6)⟩
      · have hd : btw d 1 400 = false := by simpa using hd
        have hdn := (btw_false _ _ _).1 hd
        have e1 : brV o e r z0 z1 z2 z3 d = 0 := by unfold brV brB; rw [hb, hs, hd]; rfl
        have e2 : brE o e r z0 z1 z2 z3 d = 2 := by unfold brE; rw [hb, hs, hd]; rfl
        rw [e1, e2] at HB
        rw [hb] at HV
        rw [hs] at HS
        clear hT hb hs hd e1 e2 hco hce
        have hdc : d < 1 ∨ (1 ≤ d ∧ 400 < d) := by omega
        clear hdn
        rcases hdc with hdc | ⟨hdc0, hdc⟩
        all_goals
          go_enter Try.func5, Try.ntmps5
          go_wp2_with fail
          refine (HL.out _ box2_start).mono ?_
          rintro E w1 ⟨⟨b, rfl⟩, hb1⟩
          obtain ⟨hc1, hf1⟩ := bcell hb1
          cases b with
          | true =>
            go_wp2_with fail
            refine (H1.out _ (box2_below hb1)).mono ?_
            rintro E w2 ⟨rfl, hb2⟩
            have hb2 := hb1.trans (hb2.mono hb1.size)
            clear hc1 hf1
            obtain ⟨hc2, hf2⟩ := bcell hb2
            go_wp2_with fail
            go_ret
            exact ⟨rfl, (box2_below hb2)⟩
          | false =>
            go_wp2_with fail
            refine (HB.out _ (box2_below hb1)).mono ?_
            rintro E w2 ⟨rfl, hb2⟩
            have hb2 := hb1.trans (hb2.mono hb1.size)
            clear hc1 hf1
            obtain ⟨hc2, hf2⟩ := bcell hb2
            go_wp2_with fail
            refine (HV.out _ (box2_below hb2)).mono ?_
            rintro E w3 ⟨rfl, hb3⟩
            have hb3 := hb2.trans (hb3.mono hb2.size)
            clear hc2 hf2
            obtain ⟨hc3, hf3⟩ := bcell hb3
            go_wp2_with fail
            refine (HS.out _ (box2_below hb3)).mono ?_
            rintro E w4 ⟨rfl, hb4⟩
            have hb4 := hb3.trans (hb4.mono hb3.size)
            clear hc3 hf3
            obtain ⟨hc4, hf4⟩ := bcell hb4
            go_wp2_with fail
            refine (H1.out _ (box2_below hb4)).mono ?_
            rintro E w5 ⟨rfl, hb5⟩
            have hb5 := hb4.trans (hb5.mono hb4.size)
            clear hc4 hf4
            obtain ⟨hc5, hf5⟩ := bcell hb5
            go_wp2_with fail
            go_ret
            exact ⟨rfl, (box2_below hb5)⟩
    · have hs : sceneB z0 z1 z2 z3 = false := by simpa using hs
      have e1 : brV o e r z0 z1 z2 z3 d = 0 := by unfold brV brB; rw [hb, hs]; rfl
      have e2 : brE o e r z0 z1 z2 z3 d = 31 := by unfold brE; rw [hb, hs]; rfl
      rw [e1, e2] at HB
      rw [hb] at HV
      rw [hs] at HS
      clear hT hb hs e1 e2 hco hce
      go_enter Try.func5, Try.ntmps5
      go_wp2_with fail
      refine (HL.out _ box2_start).mono ?_
      rintro E w1 ⟨⟨b, rfl⟩, hb1⟩
      obtain ⟨hc1, hf1⟩ := bcell hb1
      cases b with
      | true =>
        go_wp2_with fail
        refine (H1.out _ (box2_below hb1)).mono ?_
        rintro E w2 ⟨rfl, hb2⟩
        have hb2 := hb1.trans (hb2.mono hb1.size)
        clear hc1 hf1
        obtain ⟨hc2, hf2⟩ := bcell hb2
        go_wp2_with fail
        go_ret
        exact ⟨rfl, (box2_below hb2)⟩
      | false =>
        go_wp2_with fail
        refine (HB.out _ (box2_below hb1)).mono ?_
        rintro E w2 ⟨rfl, hb2⟩
        have hb2 := hb1.trans (hb2.mono hb1.size)
        clear hc1 hf1
        obtain ⟨hc2, hf2⟩ := bcell hb2
        go_wp2_with fail
        refine (HV.out _ (box2_below hb2)).mono ?_
        rintro E w3 ⟨rfl, hb3⟩
        have hb3 := hb2.trans (hb3.mono hb2.size)
        clear hc2 hf2
        obtain ⟨hc3, hf3⟩ := bcell hb3
        go_wp2_with fail
        refine (HS.out _ (box2_below hb3)).mono ?_
        rintro E w4 ⟨rfl, hb4⟩
        have hb4 := hb3.trans (hb4.mono hb3.size)
        clear hc3 hf3
        obtain ⟨hc4, hf4⟩ := bcell hb4
        go_wp2_with fail
        refine (H1.out _ (box2_below hb4)).mono ?_
        rintro E w5 ⟨rfl, hb5⟩
        have hb5 := hb4.trans (hb5.mono hb4.size)
        clear hc4 hf4
        obtain ⟨hc5, hf5⟩ := bcell hb5
        go_wp2_with fail
        go_ret
        exact ⟨rfl, (box2_below hb5)⟩
  · have hb : tableB o e r = false := by simpa using hb
    have e1 : brV o e r z0 z1 z2 z3 d = 0 := by unfold brV brB; rw [hb]; rfl
    have e2 : brE o e r z0 z1 z2 z3 d = 30 := by unfold brE; rw [hb]; rfl
    rw [e1, e2] at HB
    rw [hb] at HV
    clear hT hb e1 e2 hco hce
    go_enter Try.func5, Try.ntmps5
    go_wp2_with fail
    refine (HL.out _ box2_start).mono ?_
    rintro E w1 ⟨⟨b, rfl⟩, hb1⟩
    obtain ⟨hc1, hf1⟩ := bcell hb1
    cases b with
    | true =>
      go_wp2_with fail
      refine (H1.out _ (box2_below hb1)).mono ?_
      rintro E w2 ⟨rfl, hb2⟩
      have hb2 := hb1.trans (hb2.mono hb1.size)
      clear hc1 hf1
      obtain ⟨hc2, hf2⟩ := bcell hb2
      go_wp2_with fail
      go_ret
      exact ⟨rfl, (box2_below hb2)⟩
    | false =>
      go_wp2_with fail
      refine (HB.out _ (box2_below hb1)).mono ?_
      rintro E w2 ⟨rfl, hb2⟩
      have hb2 := hb1.trans (hb2.mono hb1.size)
      clear hc1 hf1
      obtain ⟨hc2, hf2⟩ := bcell hb2
      go_wp2_with fail
      refine (HV.out _ (box2_below hb2)).mono ?_
      rintro E w3 ⟨rfl, hb3⟩
      have hb3 := hb2.trans (hb3.mono hb2.size)
      clear hc2 hf2
      obtain ⟨hc3, hf3⟩ := bcell hb3
      go_wp2_with fail
      refine (H1.out _ (box2_below hb3)).mono ?_
      rintro E w4 ⟨rfl, hb4⟩
      have hb4 := hb3.trans (hb4.mono hb3.size)
      clear hc3 hf3
      obtain ⟨hc4, hf4⟩ := bcell hb4
      go_wp2_with fail
      go_ret
      exact ⟨rfl, (box2_below hb4)⟩
end Go.Proofs.Ytanmelbkhojfoaa
