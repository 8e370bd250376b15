/-
  The walks of Fits of both, and of Wide at a nil plan. By an AI agent.
-/
import Derived.Test.YtkmonaeajejamaaCutB
namespace Go.Proofs.Ytkmonaeajejamaa
set_option linter.unusedVariables false
set_option linter.unusedSimpArgs false
open Go.RowKit

/-- What Fits answers, and its error. -/
noncomputable def fitsV (L K : Int) (l : List (Int × Int)) (q : List Int) : Bool := cutB L K l && (decide (q.length = l.length) && fitB L K l q)
noncomputable def fitsE (L K : Int) (l : List (Int × Int)) (q : List Int) : Int := if cutB L K l = true then (if q.length = l.length then 0 else 2) else 40
def SB (e : Ending) : Prop := ∃ b, e = .returned (.bool b)

set_option maxRecDepth 100000 in
set_option maxHeartbeats 1000000 in
theorem Fits_any (L K : Int) (aa : Option Addr) (l : List (Int × Int)) (ca : Nat) (ap : Option Addr) (q : List Int) (cq : Nat) (w : World) (hA : PairsS w aa l) (hQ : IntsS w ap q) :
    Calls Try.prog 17 #[.agg #[.int .i64 L, .int .i64 K, .slice aa l.length ca], .slice ap q.length cq] w fun e w' => e = .returned (.tuple #[.bool (fitsV L K l q), .int .i64 (fitsE L K l q)]) ∧ Below w.heap.size w w' := by
  have HV := Lib.hid (fun W (hW : Below w.heap.size w W) => Valid_any L K aa l ca W (hA.below hW))
  have HF : Hid (CutOk L K l → q.length = l.length → ∀ W, Below w.heap.size w W → Calls Try.prog 46 #[.agg #[.int .i64 L, .int .i64 K, .slice aa l.length ca], .slice ap q.length cq] W fun e w' => e = .returned (.bool (fitB L K l q)) ∧ Below W.heap.size W w') := Lib.hid fun h1 h2 W hW => fits_any L K aa l ca ap q cq W (hA.below hW) (hQ.below hW) h1 h2
  have hS := InBox.start w L K (.slice aa l.length ca) 24
  have la := hA.1
  have lq := hQ.1
  by_cases hv : cutB L K l = true
  · have hok := cutB_iff.1 hv
    by_cases hl : q.length = l.length
    · have HF1 := Lib.hid (HF.out hok hl)
      have e1 : fitsV L K l q = fitB L K l q := by unfold fitsV; rw [hv]; simp [hl]
      have e2 : fitsE L K l q = 0 := by unfold fitsE; rw [if_pos hv, if_pos hl]
      rw [e1, e2]
      rw [hv] at HV
      rw [hl] at HF1 ⊢
      clear hA hQ HF hok e1 e2 hv
      generalize fitB L K l q = R at *
      go_enter Try.func17, Try.ntmps17
      go_wp2_with fail
      refine (HV.out _ hS.1).mono ?_
      rintro e w1 ⟨rfl, hb1⟩
      obtain ⟨hb, p0, p1, p2⟩ := hS.on hb1
      go_wp2_with fail
      refine (HF1.out _ hb).mono ?_
      rintro e w2 ⟨rfl, hb2⟩
      go_wp2_with fail
      go_ret2
      exact ⟨rfl, hb.trans (hb2.mono hb.size)⟩
    · have e1 : fitsV L K l q = false := by unfold fitsV; simp [hl]
      have e2 : fitsE L K l q = 2 := by unfold fitsE; rw [if_pos hv, if_neg hl]
      have hl2 : ¬ (q.length : Int) = (l.length : Int) := by omega
      rw [e1, e2]
      rw [hv] at HV
      clear hA hQ HF hok e1 e2 hv
      go_enter Try.func17, Try.ntmps17
      go_wp2_with fail
      refine (HV.out _ hS.1).mono ?_
      rintro e w1 ⟨rfl, hb1⟩
      obtain ⟨hb, p0, p1, p2⟩ := hS.on hb1
      go_wp2_with fail
      go_ret2
      exact ⟨rfl, hb⟩
  · have hv : cutB L K l = false := by simpa using hv
    have e1 : fitsV L K l q = false := by unfold fitsV; rw [hv]; rfl
    have e2 : fitsE L K l q = 40 := by unfold fitsE; rw [hv]; rfl
    rw [e1, e2]
    rw [hv] at HV
    clear hA hQ HF e1 e2 hv
    go_enter Try.func17, Try.ntmps17
    go_wp2_with fail
    refine (HV.out _ hS.1).mono ?_
    rintro e w1 ⟨rfl, hb1⟩
    obtain ⟨hb, p0, p1, p2⟩ := hS.on hb1
    go_wp2_with fail
    go_ret2
    exact ⟨rfl, hb⟩

set_option maxRecDepth 100000 in
set_option maxHeartbeats 1000000 in
theorem refFits_any (L K : Int) (aa : Option Addr) (l : List (Int × Int)) (ca : Nat) (ap : Option Addr) (q : List Int) (cq : Nat) (w : World) (hA : PairsS w aa l) (hQ : IntsS w ap q) :
    Calls Try.prog 18 #[.agg #[.int .i64 L, .int .i64 K, .slice aa l.length ca], .slice ap q.length cq] w fun e w' => e = .returned (.tuple #[.bool (fitsV L K l q), .int .i64 (fitsE L K l q)]) ∧ Below w.heap.size w w' := by
  have HV := Lib.hid (fun W (hW : Below w.heap.size w W) => refValid_any L K aa l ca W (hA.below hW))
  have HF : Hid (CutOk L K l → q.length = l.length → ∀ W, Below w.heap.size w W → Calls Try.prog 47 #[.agg #[.int .i64 L, .int .i64 K, .slice aa l.length ca], .slice ap q.length cq] W fun e w' => e = .returned (.bool (fitB L K l q)) ∧ Below W.heap.size W w') := Lib.hid fun h1 h2 W hW => refFits0_any L K aa l ca ap q cq W (hA.below hW) (hQ.below hW) h1 h2
  have hS := InBox.start w L K (.slice aa l.length ca) 24
  have la := hA.1
  have lq := hQ.1
  by_cases hv : cutB L K l = true
  · have hok := cutB_iff.1 hv
    by_cases hl : q.length = l.length
    · have HF1 := Lib.hid (HF.out hok hl)
      have e1 : fitsV L K l q = fitB L K l q := by unfold fitsV; rw [hv]; simp [hl]
      have e2 : fitsE L K l q = 0 := by unfold fitsE; rw [if_pos hv, if_pos hl]
      rw [e1, e2]
      rw [hv] at HV
      rw [hl] at HF1 ⊢
      clear hA hQ HF hok e1 e2 hv
      generalize fitB L K l q = R at *
      go_enter Try.func18, Try.ntmps18
      go_wp2_with fail
      refine (HV.out _ hS.1).mono ?_
      rintro e w1 ⟨rfl, hb1⟩
      obtain ⟨hb, p0, p1, p2⟩ := hS.on hb1
      go_wp2_with fail
      refine (HF1.out _ hb).mono ?_
      rintro e w2 ⟨rfl, hb2⟩
      go_wp2_with fail
      go_ret2
      exact ⟨rfl, hb.trans (hb2.mono hb.size)⟩
    · have e1 : fitsV L K l q = false := by unfold fitsV; simp [hl]
      have e2 : fitsE L K l q = 2 := by unfold fitsE; rw [if_pos hv, if_neg hl]
      have hl2 : ¬ (q.length : Int) = (l.length : Int) := by omega
      rw [e1, e2]
      rw [hv] at HV
      clear hA hQ HF hok e1 e2 hv
      go_enter Try.func18, Try.ntmps18
      go_wp2_with fail
      refine (HV.out _ hS.1).mono ?_
      rintro e w1 ⟨rfl, hb1⟩
      obtain ⟨hb, p0, p1, p2⟩ := hS.on hb1
      go_wp2_with fail
      go_ret2
      exact ⟨rfl, hb⟩
  · have hv : cutB L K l = false := by simpa using hv
    have e1 : fitsV L K l q = false := by unfold fitsV; rw [hv]; rfl
    have e2 : fitsE L K l q = 40 := by unfold fitsE; rw [hv]; rfl
    rw [e1, e2]
    rw [hv] at HV
    clear hA hQ HF e1 e2 hv
    go_enter Try.func18, Try.ntmps18
    go_wp2_with fail
    refine (HV.out _ hS.1).mono ?_
    rintro e w1 ⟨rfl, hb1⟩
    obtain ⟨hb, p0, p1, p2⟩ := hS.on hb1
    go_wp2_with fail
    go_ret2
    exact ⟨rfl, hb⟩

set_option maxRecDepth 100000 in
theorem wideNil_any (L K : Int) (aa : Option Addr) (l : List (Int × Int)) (ca : Nat) (w : World) (hl : l.length ≤ 9223372036854775807) :
    Calls Try.prog 15 #[.agg #[.int .i64 L, .int .i64 K, .slice aa l.length ca], .slice none 0 0] w fun e w' => SB e ∧ Below w.heap.size w w' := by
  by_cases h : (30 : Int) < l.length
  · go_enter Try.func15, Try.ntmps15
    go_wp2_with fail
    go_ret
    exact ⟨⟨_, rfl⟩, (Below.refl _ _).alloc (Nat.le_refl _) _⟩
  · go_enter Try.func15, Try.ntmps15
    go_wp2_with fail
    refine wp_loop_rounds 1 ?_
    rw [rounds_succ]
    go_wp2_with fail
    go_ret
    exact ⟨⟨_, rfl⟩, (Below.refl _ _).alloc (Nat.le_refl _) _⟩
end Go.Proofs.Ytkmonaeajejamaa
