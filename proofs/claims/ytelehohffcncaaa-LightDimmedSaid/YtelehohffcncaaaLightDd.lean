/-
  The walks of both Dimmed where they refuse, and of SameTable. By an AI agent.
-/
import Derived.Test.YtelehohffcncaaaLightDc
import Derived.Test.YtelehohffcncaaaLightBe
namespace Go.Proofs.Ytelehohffcncaaa
set_option linter.unusedVariables false
set_option linter.unusedSimpArgs false
open Go.RowKit

def DimZ (c : Int) (w : World) (E : Ending) (w' : World) : Prop := E = .returned (.tuple #[.agg #[.slice none 0 0, .slice none 0 0, .slice none 0 0], .int .i64 c]) ∧ Below w.heap.size w w'
set_option maxRecDepth 100000 in
set_option maxHeartbeats 1000000 in
theorem dimmed_bad1 (ao ae ar : Option Addr) (o e : List Int) (r : List (List Int)) (co ce cr : Nat) (keep years : Int) (w : World) (hT : TableS w ao ae ar o e r) (hK : tableB o e r = false) :
    Calls Try.prog 7 #[.agg #[.slice ao o.length co, .slice ae e.length ce, .slice ar r.length cr], .int .i64 keep, .int .i64 years] w (DimZ 30 w) := by
  have HV := Lib.hid (fun (W : World) (hW : Below w.heap.size w W) => validTable_any ao ae ar o e r co ce cr W (hT.below hW))
  have hTB := Lib.hid hK
  clear hK hT
  have hsz := True.intro
  go_enter Try.func7, Try.ntmps7
  go_wp2_with fail
  obtain ⟨wB, hwB⟩ : ∃ wB, (w.alloc (.cells #[.slice ao o.length co, .slice ae e.length ce, .slice ar r.length cr] 25)).alloc (.cells #[.slice none 0 0, .slice none 0 0, .slice none 0 0] 25) = wB := ⟨_, rfl⟩
  have hb : Below w.heap.size w wB := by rw [← hwB]; exact ((Below.refl _ _).alloc (Nat.le_refl _) _).alloc (by simp) _
  have hs2 : w.heap.size + 1 < wB.heap.size := by rw [← hwB]; simp
  have t0 : wB.cell? ⟨w.heap.size + 1, 0, none⟩ = some (.slice none 0 0) := by rw [← hwB]; simp [go_sem]
  have t1 : wB.cell? ⟨w.heap.size + 1, 1, none⟩ = some (.slice none 0 0) := by rw [← hwB]; simp [go_sem]
  have t2 : wB.cell? ⟨w.heap.size + 1, 2, none⟩ = some (.slice none 0 0) := by rw [← hwB]; simp [go_sem]
  have f0 : wB.frozen? ⟨w.heap.size + 1, 0, none⟩ = false := by rw [← hwB]; simp [go_sem]
  have f1 : wB.frozen? ⟨w.heap.size + 1, 1, none⟩ = false := by rw [← hwB]; simp [go_sem]
  have f2 : wB.frozen? ⟨w.heap.size + 1, 2, none⟩ = false := by rw [← hwB]; simp [go_sem]
  rw [hwB]
  clear hwB hsz
  refine (HV.out _ hb).mono ?_
  rintro E w1 ⟨rfl, hb1⟩
  rw [hTB.out]
  replace t0 := cell_below t0 hb1
  replace t1 := cell_below t1 hb1
  replace t2 := cell_below t2 hb1
  replace f0 := (hb1.frozen (p := ⟨w.heap.size + 1, 0, none⟩) hs2).trans f0
  replace f1 := (hb1.frozen (p := ⟨w.heap.size + 1, 1, none⟩) hs2).trans f1
  replace f2 := (hb1.frozen (p := ⟨w.heap.size + 1, 2, none⟩) hs2).trans f2
  have hw1 : Below w.heap.size w w1 := hb.trans (hb1.mono hb.size)
  go_wp2_with fail
  refine bodyPost_ret (v := .tuple #[.agg #[.slice none 0 0, .slice none 0 0, .slice none 0 0], .int .i64 30]) (by simp [results, Try.results7, go_sem, t0, t1, t2]) rfl ⟨rfl, ?_⟩
  exact below3D (D := w.heap.size + 1) hw1 (by omega)
set_option maxRecDepth 100000 in
set_option maxHeartbeats 1000000 in
theorem dimmed_bad2 (ao ae ar : Option Addr) (o e : List Int) (r : List (List Int)) (co ce cr : Nat) (keep years : Int) (w : World) (hT : TableS w ao ae ar o e r) (hK : tableB o e r = true) (hA : ageB keep years = false) :
    Calls Try.prog 7 #[.agg #[.slice ao o.length co, .slice ae e.length ce, .slice ar r.length cr], .int .i64 keep, .int .i64 years] w (DimZ 2 w) := by
  have HV := Lib.hid (fun (W : World) (hW : Below w.heap.size w W) => validTable_any ao ae ar o e r co ce cr W (hT.below hW))
  have hTB := Lib.hid hK
  have HAg : Hid (∀ W, Calls Try.prog 19 #[.int .i64 keep, .int .i64 years] W fun e w' => e = .returned (.bool false) ∧ W = w') := Lib.hid fun W => by rw [← hA]; exact ageingValid_any keep years W
  clear hK hT hA
  have hsz := True.intro
  go_enter Try.func7, Try.ntmps7
  go_wp2_with fail
  obtain ⟨wB, hwB⟩ : ∃ wB, (w.alloc (.cells #[.slice ao o.length co, .slice ae e.length ce, .slice ar r.length cr] 25)).alloc (.cells #[.slice none 0 0, .slice none 0 0, .slice none 0 0] 25) = wB := ⟨_, rfl⟩
  have hb : Below w.heap.size w wB := by rw [← hwB]; exact ((Below.refl _ _).alloc (Nat.le_refl _) _).alloc (by simp) _
  have hs2 : w.heap.size + 1 < wB.heap.size := by rw [← hwB]; simp
  have t0 : wB.cell? ⟨w.heap.size + 1, 0, none⟩ = some (.slice none 0 0) := by rw [← hwB]; simp [go_sem]
  have t1 : wB.cell? ⟨w.heap.size + 1, 1, none⟩ = some (.slice none 0 0) := by rw [← hwB]; simp [go_sem]
  have t2 : wB.cell? ⟨w.heap.size + 1, 2, none⟩ = some (.slice none 0 0) := by rw [← hwB]; simp [go_sem]
  have f0 : wB.frozen? ⟨w.heap.size + 1, 0, none⟩ = false := by rw [← hwB]; simp [go_sem]
  have f1 : wB.frozen? ⟨w.heap.size + 1, 1, none⟩ = false := by rw [← hwB]; simp [go_sem]
  have f2 : wB.frozen? ⟨w.heap.size + 1, 2, none⟩ = false := by rw [← hwB]; simp [go_sem]
  rw [hwB]
  clear hwB hsz
  refine (HV.out _ hb).mono ?_
  rintro E w1 ⟨rfl, hb1⟩
  rw [hTB.out]
  replace t0 := cell_below t0 hb1
  replace t1 := cell_below t1 hb1
  replace t2 := cell_below t2 hb1
  replace f0 := (hb1.frozen (p := ⟨w.heap.size + 1, 0, none⟩) hs2).trans f0
  replace f1 := (hb1.frozen (p := ⟨w.heap.size + 1, 1, none⟩) hs2).trans f1
  replace f2 := (hb1.frozen (p := ⟨w.heap.size + 1, 2, none⟩) hs2).trans f2
  have hw1 : Below w.heap.size w w1 := hb.trans (hb1.mono hb.size)
  go_wp2_with (go_at_call 19; refine (HAg.out _).mono ?_; rintro E wA ⟨rfl, rfl⟩)
  refine bodyPost_ret (v := .tuple #[.agg #[.slice none 0 0, .slice none 0 0, .slice none 0 0], .int .i64 2]) (by simp [results, Try.results7, go_sem, t0, t1, t2]) rfl ⟨rfl, ?_⟩
  exact below3D (D := w.heap.size + 1) hw1 (by omega)
set_option maxRecDepth 100000 in
set_option maxHeartbeats 1000000 in
theorem refDimmed_bad1 (ao ae ar : Option Addr) (o e : List Int) (r : List (List Int)) (co ce cr : Nat) (keep years : Int) (w : World) (hT : TableS w ao ae ar o e r) (hK : tableB o e r = false) :
    Calls Try.prog 8 #[.agg #[.slice ao o.length co, .slice ae e.length ce, .slice ar r.length cr], .int .i64 keep, .int .i64 years] w (DimZ 30 w) := by
  have HV := Lib.hid (fun (W : World) (hW : Below w.heap.size w W) => refValidTable_any ao ae ar o e r co ce cr W (hT.below hW))
  have hTB := Lib.hid hK
  clear hK hT
  have hsz := True.intro
  go_enter Try.func8, Try.ntmps8
  go_wp2_with fail
  obtain ⟨wB, hwB⟩ : ∃ wB, (w.alloc (.cells #[.slice ao o.length co, .slice ae e.length ce, .slice ar r.length cr] 25)).alloc (.cells #[.slice none 0 0, .slice none 0 0, .slice none 0 0] 25) = wB := ⟨_, rfl⟩
  have hb : Below w.heap.size w wB := by rw [← hwB]; exact ((Below.refl _ _).alloc (Nat.le_refl _) _).alloc (by simp) _
  have hs2 : w.heap.size + 1 < wB.heap.size := by rw [← hwB]; simp
  have t0 : wB.cell? ⟨w.heap.size + 1, 0, none⟩ = some (.slice none 0 0) := by rw [← hwB]; simp [go_sem]
  have t1 : wB.cell? ⟨w.heap.size + 1, 1, none⟩ = some (.slice none 0 0) := by rw [← hwB]; simp [go_sem]
  have t2 : wB.cell? ⟨w.heap.size + 1, 2, none⟩ = some (.slice none 0 0) := by rw [← hwB]; simp [go_sem]
  have f0 : wB.frozen? ⟨w.heap.size + 1, 0, none⟩ = false := by rw [← hwB]; simp [go_sem]
  have f1 : wB.frozen? ⟨w.heap.size + 1, 1, none⟩ = false := by rw [← hwB]; simp [go_sem]
  have f2 : wB.frozen? ⟨w.heap.size + 1, 2, none⟩ = false := by rw [← hwB]; simp [go_sem]
  rw [hwB]
  clear hwB hsz
  refine (HV.out _ hb).mono ?_
  rintro E w1 ⟨rfl, hb1⟩
  rw [hTB.out]
  replace t0 := cell_below t0 hb1
  replace t1 := cell_below t1 hb1
  replace t2 := cell_below t2 hb1
  replace f0 := (hb1.frozen (p := ⟨w.heap.size + 1, 0, none⟩) hs2).trans f0
  replace f1 := (hb1.frozen (p := ⟨w.heap.size + 1, 1, none⟩) hs2).trans f1
  replace f2 := (hb1.frozen (p := ⟨w.heap.size + 1, 2, none⟩) hs2).trans f2
  have hw1 : Below w.heap.size w w1 := hb.trans (hb1.mono hb.size)
  go_wp2_with fail
  refine bodyPost_ret (v := .tuple #[.agg #[.slice none 0 0, .slice none 0 0, .slice none 0 0], .int .i64 30]) (by simp [results, Try.results8, go_sem, t0, t1, t2]) rfl ⟨rfl, ?_⟩
  exact below3D (D := w.heap.size + 1) hw1 (by omega)
set_option maxRecDepth 100000 in
set_option maxHeartbeats 1000000 in
theorem refDimmed_bad2 (ao ae ar : Option Addr) (o e : List Int) (r : List (List Int)) (co ce cr : Nat) (keep years : Int) (w : World) (hT : TableS w ao ae ar o e r) (hK : tableB o e r = true) (hA : ageB keep years = false) :
    Calls Try.prog 8 #[.agg #[.slice ao o.length co, .slice ae e.length ce, .slice ar r.length cr], .int .i64 keep, .int .i64 years] w (DimZ 2 w) := by
  have HV := Lib.hid (fun (W : World) (hW : Below w.heap.size w W) => refValidTable_any ao ae ar o e r co ce cr W (hT.below hW))
  have hTB := Lib.hid hK
  have HAg : Hid (∀ W, Calls Try.prog 22 #[.int .i64 0, .int .i64 keep, .int .i64 years] W fun e w' => e = .returned (.tuple #[.int .i64 0, .int .i64 2]) ∧ W = w') := Lib.hid fun W => by
    have hb : agedB 0 keep years = false := by unfold agedB; rw [hA]; simp
    have := refAged_any 0 keep years W
    rw [show agedV 0 keep years = 0 by unfold agedV; rw [hb]; rfl, show agedE 0 keep years = 2 by unfold agedE; rw [hb]; rfl] at this
    exact this
  clear hK hT hA
  have hsz := True.intro
  go_enter Try.func8, Try.ntmps8
  go_wp2_with fail
  obtain ⟨wB, hwB⟩ : ∃ wB, (w.alloc (.cells #[.slice ao o.length co, .slice ae e.length ce, .slice ar r.length cr] 25)).alloc (.cells #[.slice none 0 0, .slice none 0 0, .slice none 0 0] 25) = wB := ⟨_, rfl⟩
  have hb : Below w.heap.size w wB := by rw [← hwB]; exact ((Below.refl _ _).alloc (Nat.le_refl _) _).alloc (by simp) _
  have hs2 : w.heap.size + 1 < wB.heap.size := by rw [← hwB]; simp
  have t0 : wB.cell? ⟨w.heap.size + 1, 0, none⟩ = some (.slice none 0 0) := by rw [← hwB]; simp [go_sem]
  have t1 : wB.cell? ⟨w.heap.size + 1, 1, none⟩ = some (.slice none 0 0) := by rw [← hwB]; simp [go_sem]
  have t2 : wB.cell? ⟨w.heap.size + 1, 2, none⟩ = some (.slice none 0 0) := by rw [← hwB]; simp [go_sem]
  have f0 : wB.frozen? ⟨w.heap.size + 1, 0, none⟩ = false := by rw [← hwB]; simp [go_sem]
  have f1 : wB.frozen? ⟨w.heap.size + 1, 1, none⟩ = false := by rw [← hwB]; simp [go_sem]
  have f2 : wB.frozen? ⟨w.heap.size + 1, 2, none⟩ = false := by rw [← hwB]; simp [go_sem]
  rw [hwB]
  clear hwB hsz
  refine (HV.out _ hb).mono ?_
  rintro E w1 ⟨rfl, hb1⟩
  rw [hTB.out]
  replace t0 := cell_below t0 hb1
  replace t1 := cell_below t1 hb1
  replace t2 := cell_below t2 hb1
  replace f0 := (hb1.frozen (p := ⟨w.heap.size + 1, 0, none⟩) hs2).trans f0
  replace f1 := (hb1.frozen (p := ⟨w.heap.size + 1, 1, none⟩) hs2).trans f1
  replace f2 := (hb1.frozen (p := ⟨w.heap.size + 1, 2, none⟩) hs2).trans f2
  have hw1 : Below w.heap.size w w1 := hb.trans (hb1.mono hb.size)
  go_wp2_with (go_at_call 22; refine (HAg.out _).mono ?_; rintro E wA ⟨rfl, rfl⟩)
  refine bodyPost_ret (v := .tuple #[.agg #[.slice none 0 0, .slice none 0 0, .slice none 0 0], .int .i64 2]) (by simp [results, Try.results8, go_sem, t0, t1, t2]) rfl ⟨rfl, ?_⟩
  exact below3D (D := w.heap.size + 1) hw1 (by omega)
set_option maxRecDepth 100000 in
set_option maxHeartbeats 1000000 in
/-- SameTable of two tables that are the same. -/
theorem sameTable_same (ao ae ar bo be br : Option Addr) (o e : List Int) (r : List (List Int)) (co ce cr do_ de dr : Nat) (w : World) (hT : TableS w ao ae ar o e r) (hU : TableS w bo be br o e r) (hr : r.length ≤ 1000000) :
    Calls Try.prog 9 #[.agg #[.slice ao o.length co, .slice ae e.length ce, .slice ar r.length cr], .agg #[.slice bo o.length do_, .slice be e.length de, .slice br r.length dr]] w fun E w' => E = .returned (.bool true) ∧ Below w.heap.size w w' := by
  have HO : Hid (∀ W, Below w.heap.size w W → Calls Try.prog 23 #[.slice ao o.length co, .slice bo o.length do_] W fun E w' => E = .returned (.bool true) ∧ Below W.heap.size W w') := Lib.hid fun W hW => by
    have := sameInts_any ao bo o o co do_ W (hT.1.below hW) (hU.1.below hW)
    rwa [same_iff.2 rfl] at this
  have HE : Hid (∀ W, Below w.heap.size w W → Calls Try.prog 23 #[.slice ae e.length ce, .slice be e.length de] W fun E w' => E = .returned (.bool true) ∧ Below W.heap.size W w') := Lib.hid fun W hW => by
    have := sameInts_any ae be e e ce de W (hT.2.1.below hW) (hU.2.1.below hW)
    rwa [same_iff.2 rfl] at this
  have HRS : Hid (∀ i, i < r.length → ∃ ab bb ao' bo' x y cx cy n, ar = some ⟨ab, ao', none⟩ ∧ br = some ⟨bb, bo', none⟩ ∧ w.cell? ⟨ab, ao' + i, none⟩ = some (.slice x n cx) ∧ w.cell? ⟨bb, bo' + i, none⟩ = some (.slice y n cy) ∧ ∀ W, Below w.heap.size w W → Calls Try.prog 23 #[.slice x n cx, .slice y n cy] W fun E w' => E = .returned (.bool true) ∧ Below W.heap.size W w') := Lib.hid fun i hi => by
    obtain ⟨-, ab, ao', ad, cp, h1, h2⟩ := hT.2.2
    obtain ⟨-, bb, bo', bd, dp, g1, g2⟩ := hU.2.2
    obtain ⟨q1, q2, -⟩ := h2 i hi
    obtain ⟨r1, r2, -⟩ := g2 i hi
    refine ⟨ab, bb, ao', bo', _, _, _, _, _, h1 (List.ne_nil_of_length_pos (by omega)), g1 (List.ne_nil_of_length_pos (by omega)), q1, r1, fun W hW => ?_⟩
    have := sameInts_any _ _ _ _ (cp i) (dp i) W (q2.below hW) (r2.below hW)
    rwa [same_iff.2 rfl] at this
  have hl2 : ((r.length : Int) != r.length) = false := by simp
  clear hT hU
  go_enter Try.func9, Try.ntmps9
  go_wp2_with fail
  obtain ⟨wB, hwB⟩ : ∃ wB, (w.alloc (.cells #[.slice ao o.length co, .slice ae e.length ce, .slice ar r.length cr] 25)).alloc (.cells #[.slice bo o.length do_, .slice be e.length de, .slice br r.length dr] 25) = wB := ⟨_, rfl⟩
  have hb : Below w.heap.size w wB := by rw [← hwB]; exact ((Below.refl _ _).alloc (Nat.le_refl _) _).alloc (by simp) _
  have p0 : wB.cell? ⟨w.heap.size, 0, none⟩ = some (.slice ao o.length co) := by rw [← hwB]; simp [go_sem]
  have p1 : wB.cell? ⟨w.heap.size, 1, none⟩ = some (.slice ae e.length ce) := by rw [← hwB]; simp [go_sem]
  have p2 : wB.cell? ⟨w.heap.size, 2, none⟩ = some (.slice ar r.length cr) := by rw [← hwB]; simp [go_sem]
  have q0 : wB.cell? ⟨w.heap.size + 1, 0, none⟩ = some (.slice bo o.length do_) := by rw [← hwB]; simp [go_sem]
  have q1 : wB.cell? ⟨w.heap.size + 1, 1, none⟩ = some (.slice be e.length de) := by rw [← hwB]; simp [go_sem]
  have q2 : wB.cell? ⟨w.heap.size + 1, 2, none⟩ = some (.slice br r.length dr) := by rw [← hwB]; simp [go_sem]
  rw [hwB]
  clear hwB
  refine (HO.out _ hb).mono ?_
  rintro E w1 ⟨rfl, hb1⟩
  replace p0 := cell_below p0 hb1
  replace p1 := cell_below p1 hb1
  replace p2 := cell_below p2 hb1
  replace q0 := cell_below q0 hb1
  replace q1 := cell_below q1 hb1
  replace q2 := cell_below q2 hb1
  replace hb := hb.trans (hb1.mono hb.size)
  clear hb1
  go_wp2_with fail
  refine (HE.out _ hb).mono ?_
  rintro E w2 ⟨rfl, hb2⟩
  replace p0 := cell_below p0 hb2
  replace p1 := cell_below p1 hb2
  replace p2 := cell_below p2 hb2
  replace q0 := cell_below q0 hb2
  replace q1 := cell_below q1 hb2
  replace q2 := cell_below q2 hb2
  replace hb := hb.trans (hb2.mono hb.size)
  clear hb2 p0 p1 q0 q1 HO HE
  have P2 := Lib.hid p2
  have Q2 := Lib.hid q2
  go_wp2_with fail
  clear p2 q2
  go_loopw [5] (fun i9 wr => ∃ k : Nat, k ≤ r.length ∧ i9 = .int .i64 k ∧ Below w2.heap.size w2 wr) (fun i9 _ => r.length - (intOf i9).toNat)
  case atStart => exact ⟨0, Nat.zero_le _, rfl, Below.refl _ _⟩
  case round =>
    obtain ⟨k, hk, rfl, hbk⟩ := hrel
    have p2 := cell_below P2.out hbk
    have q2 := cell_below Q2.out hbk
    by_cases hlt : k < r.length
    · obtain ⟨ab, bb, ao', bo', x, y, cx, cy, n, rfl, rfl, c1, c2, HS⟩ := HRS.out k hlt
      have hbw := hb.trans (hbk.mono hb.size)
      have HSx := Lib.hid HS
      replace c1 := cell_below c1 hbw
      replace c2 := cell_below c2 hbw
      clear HS
      have hk0 : (0 : Int) ≤ k := by omega
      have hk1 : (k : Int) < r.length := by omega
      go_wp2_with fail
      have hB := Below.refl wr.heap.size wr
      obtain ⟨wo, rfl⟩ : ∃ wo : World, wo = wr := ⟨_, rfl⟩
      have z0 := block_lt p2
      have z1 := block_lt q2
      have z2 := block_lt c1
      have z3 := block_lt c2
      go_region_held3 (fun w' => w'.cell? ⟨w.heap.size, 2, none⟩ = some (.slice (some ⟨ab, ao', none⟩) r.length cr) ∧ w'.cell? ⟨w.heap.size + 1, 2, none⟩ = some (.slice (some ⟨bb, bo', none⟩) r.length dr) ∧ w'.cell? ⟨ab, ao' + k, none⟩ = some (.slice x n cx) ∧ w'.cell? ⟨bb, bo' + k, none⟩ = some (.slice y n cy)) (go_keep)
        (first
          | (go_at_call 23
             with_reducible refine Calls.mono (HSx.out _ (hbw.trans ((show Below wo.heap.size wo _ by first | exact hB | exact hB.drew).mono hbw.size))) ?_
             rintro E w9 ⟨rfl, hb9⟩
             replace hB : Below wo.heap.size wo w9 := (show Below wo.heap.size wo _ by first | exact hB | exact hB.drew).trans (hb9.mono hB.size)
             have p2 := (hB.cell (p := ⟨w.heap.size, 2, none⟩) z0).trans p2
             have q2 := (hB.cell (p := ⟨w.heap.size + 1, 2, none⟩) z1).trans q2
             have c1 := (hB.cell (p := ⟨ab, ao' + k, none⟩) z2).trans c1
             have c2 := (hB.cell (p := ⟨bb, bo' + k, none⟩) z3).trans c2))
      all_goals
        go_wp2_with fail
        go_roundw
        case rel => exact ⟨k + 1, by omega, by go_num, by first | exact hbk.trans (hB.mono hbk.size) | exact hbk.trans (hB.drew.mono hbk.size)⟩
        case measure => simp [intOf]; omega
    · obtain rfl : k = r.length := by omega
      go_wp2_with fail
      go_ret
      exact ⟨rfl, hb.trans (hbk.mono hb.size)⟩
end Go.Proofs.Ytelehohffcncaaa
