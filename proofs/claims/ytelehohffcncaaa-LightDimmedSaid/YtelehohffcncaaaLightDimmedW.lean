/-
  The walk of the law LightDimmed: it answers true. By an AI agent.
-/
import Derived.Test.YtelehohffcncaaaLightDd
import Derived.Test.YtelehohffcncaaaLightI
import Derived.Test.YtelehohffcncaaaLightG
namespace Go.Proofs.Ytelehohffcncaaa
set_option linter.unusedVariables false
set_option linter.unusedSimpArgs false
open Go.RowKit

def TwoE (E : Ending) (W w' : World) (ao ae ar : Option Addr) (o e : List Int) (r : List (List Int)) (co ce cr : Nat) (c : Int) : Prop :=
  E = .returned (.tuple #[.agg #[.slice ao o.length co, .slice ae e.length ce, .slice ar r.length cr], .int .i64 c]) ∧ TableS w' ao ae ar o e r ∧ Below W.heap.size W w'
def TwoX (o e : List Int) (r : List (List Int)) (c : Int) (W : World) (E : Ending) (w' : World) : Prop := ∃ ao ae ar co ce cr, TwoE E W w' ao ae ar o e r co ce cr c
theorem dimE_x {o e : List Int} {r : List (List Int)} {W : World} {E : Ending} {w' : World} (h : DimE W o e r E w') : TwoX o e r 0 W E w' := by
  obtain ⟨ao, co, ae, ce, ar, cr, h1, h2, h3⟩ := h
  exact ⟨ao, ae, ar, co, ce, cr, h1, h2, h3⟩
theorem dimZ_x {c : Int} {W : World} {E : Ending} {w' : World} (h : DimZ c W E w') : TwoX [] [] [] c W E w' := by
  have hi : ∀ W, IntsS W none [] := fun W => ⟨by simp, fun i hi => absurd hi (Nat.not_lt_zero _), 0, 0, fun h => absurd rfl h, fun i hi => absurd hi (Nat.not_lt_zero _)⟩
  exact ⟨none, none, none, 0, 0, 0, h.1, ⟨hi _, hi _, by simp, 0, 0, fun _ => none, fun _ => 0, fun h => absurd rfl h, fun i hi => absurd hi (Nat.not_lt_zero _)⟩, h.2⟩
set_option maxRecDepth 100000 in
set_option maxHeartbeats 2000000 in
theorem lightDimmed_of (ao ae ar : Option Addr) (o e : List Int) (r : List (List Int)) (co ce cr : Nat) (x y : Int) (w : World) (hT : TableS w ao ae ar o e r) (o' e' : List Int) (r' : List (List Int)) (c : Int) (hr' : r'.length ≤ 1000000)
    (HP : Hid (∀ W, Below w.heap.size w W → Calls Try.prog 7 #[.agg #[.slice ao o.length co, .slice ae e.length ce, .slice ar r.length cr], .int .i64 x, .int .i64 y] W (TwoX o' e' r' c W))) (HQ : Hid (∀ W, Below w.heap.size w W → Calls Try.prog 8 #[.agg #[.slice ao o.length co, .slice ae e.length ce, .slice ar r.length cr], .int .i64 x, .int .i64 y] W (TwoX o' e' r' c W))) :
    Calls Try.prog 3 #[.agg #[.slice ao o.length co, .slice ae e.length ce, .slice ar r.length cr], .int .i64 x, .int .i64 y] w fun E w' => E = .returned (.bool true) ∧ Below w.heap.size w w' := by
  have HL : Hid (∀ W, Below w.heap.size w W → Calls Try.prog 5 #[.agg #[.slice ao o.length co, .slice ae e.length ce, .slice ar r.length cr]] W fun E w' => SomeBool E ∧ Below W.heap.size W w') := Lib.hid fun W hW => long_any ao ae ar o e r co ce cr W (hT.below hW)
  have H1 : Hid (∀ W, Calls Try.prog 6 #[] W fun e w' => e = .returned (.bool true) ∧ Below W.heap.size W w') := Lib.hid fun W => first_any W
  have hcc : (c == c) = true := by simp
  clear hT
  go_enter Try.func3, Try.ntmps3
  go_wp2_with fail
  obtain ⟨wB, hwB⟩ : ∃ wB, w.alloc (.cells #[.slice ao o.length co, .slice ae e.length ce, .slice ar r.length cr] 25) = wB := ⟨_, rfl⟩
  have hb : Below w.heap.size w wB := by rw [← hwB]; exact (Below.refl _ _).alloc (Nat.le_refl _) _
  have p0 : wB.cell? ⟨w.heap.size, 0, none⟩ = some (.slice ao o.length co) := by rw [← hwB]; simp [go_sem]
  have p1 : wB.cell? ⟨w.heap.size, 1, none⟩ = some (.slice ae e.length ce) := by rw [← hwB]; simp [go_sem]
  have p2 : wB.cell? ⟨w.heap.size, 2, none⟩ = some (.slice ar r.length cr) := by rw [← hwB]; simp [go_sem]
  rw [hwB]
  clear hwB
  refine (HL.out _ hb).mono ?_
  rintro E w1 ⟨⟨b, rfl⟩, hb1⟩
  replace p0 := cell_below p0 hb1
  replace p1 := cell_below p1 hb1
  replace p2 := cell_below p2 hb1
  replace hb := hb.trans (hb1.mono hb.size)
  clear hb1
  cases b with
  | true =>
    go_wp2_with fail
    refine (H1.out _).mono ?_
    rintro E w2 ⟨rfl, hb2⟩
    go_wp2_with fail
    go_ret
    exact ⟨rfl, hb.trans (hb2.mono hb.size)⟩
  | false =>
    go_wp2_with fail
    refine (HP.out _ hb).mono ?_
    rintro E w2 ⟨a1, a2, a3, c1, c2, c3, rfl, hT2, hb2⟩
    replace p0 := cell_below p0 hb2
    replace p1 := cell_below p1 hb2
    replace p2 := cell_below p2 hb2
    replace hb := hb.trans (hb2.mono hb.size)
    have HT2 := Lib.hid hT2
    clear hb2 hT2
    have hz0 := block_lt p0
    go_wp2_with fail
    obtain ⟨wC, hwC⟩ : ∃ wC, w2.alloc (.cells #[.slice a1 o'.length c1, .slice a2 e'.length c2, .slice a3 r'.length c3] 25) = wC := ⟨_, rfl⟩
    have hbC : Below w2.heap.size w2 wC := by rw [← hwC]; exact (Below.refl _ _).alloc (Nat.le_refl _) _
    have q0 : wC.cell? ⟨w2.heap.size, 0, none⟩ = some (.slice a1 o'.length c1) := by rw [← hwC]; simp [go_sem]
    have q1 : wC.cell? ⟨w2.heap.size, 1, none⟩ = some (.slice a2 e'.length c2) := by rw [← hwC]; simp [go_sem]
    have q2 : wC.cell? ⟨w2.heap.size, 2, none⟩ = some (.slice a3 r'.length c3) := by rw [← hwC]; simp [go_sem]
    rw [hwC]
    clear hwC
    have HT3 := Lib.hid (HT2.out.below hbC)
    replace hb := hb.trans (hbC.mono hb.size)
    clear HT2 hbC
    refine (HQ.out _ hb).mono ?_
    rintro E w3 ⟨b1, b2, b3, d1, d2, d3, rfl, hU3, hb3⟩
    replace q0 := cell_below q0 hb3
    replace q1 := cell_below q1 hb3
    replace q2 := cell_below q2 hb3
    have HT4 := Lib.hid (HT3.out.below hb3)
    have HU4 := Lib.hid hU3
    replace hb := hb.trans (hb3.mono hb.size)
    clear hU3 HT3 hb3 p0 p1 p2
    have hz2 := block_lt q0
    have HST : Hid (∀ W, Below w3.heap.size w3 W → Calls Try.prog 9 #[.agg #[.slice a1 o'.length c1, .slice a2 e'.length c2, .slice a3 r'.length c3], .agg #[.slice b1 o'.length d1, .slice b2 e'.length d2, .slice b3 r'.length d3]] W fun E w' => E = .returned (.bool true) ∧ Below W.heap.size W w') := Lib.hid fun W hW => sameTable_same a1 a2 a3 b1 b2 b3 o' e' r' c1 c2 c3 d1 d2 d3 W (HT4.out.below hW) (HU4.out.below hW) hr'
    have hb3 : Below w3.heap.size w3 (w3.alloc (.cells #[.slice b1 o'.length d1, .slice b2 e'.length d2, .slice b3 r'.length d3] 25)) := (Below.refl _ _).alloc (Nat.le_refl _) _
    have HB3 := Lib.hid hb3
    clear hb3
    go_wp2_with fail
    refine (HST.out _ HB3.out).mono ?_
    rintro E w5 ⟨rfl, hb5⟩
    have hb6 := HB3.out.trans (hb5.mono HB3.out.size)
    go_wp2_with fail
    refine (H1.out _).mono ?_
    rintro E w6 ⟨rfl, hb7⟩
    replace hb6 := hb6.trans (hb7.mono hb6.size)
    go_wp2_with fail
    go_ret
    exact ⟨rfl, hb.trans (hb6.mono hb.size)⟩
theorem lightDimmed_any (ao ae ar : Option Addr) (o e : List Int) (r : List (List Int)) (co ce cr : Nat) (x y : Int) (w : World) (hT : TableS w ao ae ar o e r) :
    Calls Try.prog 3 #[.agg #[.slice ao o.length co, .slice ae e.length ce, .slice ar r.length cr], .int .i64 x, .int .i64 y] w fun E w' => E = .returned (.bool true) ∧ Below w.heap.size w w' := by
  by_cases hb : tableB o e r = true
  · by_cases ha : ageB x y = true
    · have hK := tableB_iff.1 hb
      have h2 := ha
      unfold ageB at h2
      rw [Bool.and_eq_true, btw_iff, btw_iff] at h2
      obtain ⟨⟨k0, k1⟩, y0, y1⟩ := h2
      obtain ⟨n, rfl⟩ : ∃ n : Nat, y = n := ⟨y.toNat, by omega⟩
      have hr := hK.2.2.1
      have hr6 := hK.1.2.1
      exact lightDimmed_of ao ae ar o e r co ce cr x n w hT o e (agR (fun z => agV z x n) r) 0 (by rw [agR_len]; omega)
        (Lib.hid fun W hW => (dimmed_good ao ae ar o e r co ce cr x n W (hT.below hW) hK k0 k1 (by omega)).mono fun E w' h => dimE_x h)
        (Lib.hid fun W hW => (refDimmed_good ao ae ar o e r co ce cr x n W (hT.below hW) hK k0 k1 (by omega)).mono fun E w' h => dimE_x h)
    · have ha : ageB x y = false := by simpa using ha
      exact lightDimmed_of ao ae ar o e r co ce cr x y w hT [] [] [] 2 (by simp)
        (Lib.hid fun W hW => (dimmed_bad2 ao ae ar o e r co ce cr x y W (hT.below hW) hb ha).mono fun E w' h => dimZ_x h)
        (Lib.hid fun W hW => (refDimmed_bad2 ao ae ar o e r co ce cr x y W (hT.below hW) hb ha).mono fun E w' h => dimZ_x h)
  · have hb : tableB o e r = false := by simpa using hb
    exact lightDimmed_of ao ae ar o e r co ce cr x y w hT [] [] [] 30 (by simp)
      (Lib.hid fun W hW => (dimmed_bad1 ao ae ar o e r co ce cr x y W (hT.below hW) hb).mono fun E w' h => dimZ_x h)
      (Lib.hid fun W hW => (refDimmed_bad1 ao ae ar o e r co ce cr x y W (hT.below hW) hb).mono fun E w' h => dimZ_x h)
end Go.Proofs.Ytelehohffcncaaa
