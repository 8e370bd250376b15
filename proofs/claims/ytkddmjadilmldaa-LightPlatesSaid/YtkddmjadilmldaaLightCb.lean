/-
  The walk of corrected. By an AI agent.
-/
import Derived.Test.YtkddmjadilmldaaLightCa
namespace Go.Proofs.Ytkddmjadilmldaa
set_option linter.unusedVariables false
set_option linter.unusedSimpArgs false
open Go.RowKit

set_option maxRecDepth 100000 in
set_option maxHeartbeats 4000000 in
theorem corrected_any (t v t1 c1 t2 c2 rf : Int) (w : World) (hE : EndsOk t1 c1 t2 c2 rf) (hv : 0 ≤ v ∧ v ≤ 100000) (ht : t1 ≤ t ∧ t ≤ t2) :
    Calls Try.prog 45 #[.agg #[.int .i64 t, .int .i64 v], .agg #[.int .i64 t1, .int .i64 c1, .int .i64 t2, .int .i64 c2], .int .i64 rf] w fun e w' => e = .returned (.int .i64 (corV t1 c1 t2 c2 rf (t, v))) ∧ Below w.heap.size w w' := by
  obtain ⟨⟨m0, m1⟩, ⟨m2, m3⟩, ⟨m4, m5⟩, ⟨m6, m7⟩, m8, m9, m10⟩ := corV_bd (p := (t, v)) hE hv ht
  have HV : Hid (corV t1 c1 t2 c2 rf (t, v) = v * rf * (t2 - t1) / (c1 * (t2 - t) + c2 * (t - t1))) := Lib.hid rfl
  obtain ⟨⟨a0, a1⟩, ⟨b0, b1⟩, ⟨f0, f1⟩, ⟨g0, g1⟩, h0, h1⟩ := hE
  obtain ⟨v0, v1⟩ := hv
  obtain ⟨u0, u1⟩ := ht
  simp only [] at m0 m1 m2 m3 m4 m5 m6 m7 m8
  generalize corV t1 c1 t2 c2 rf (t, v) = V at *
  obtain ⟨A, hA⟩ : ∃ A, t2 - t = A := ⟨_, rfl⟩
  obtain ⟨B, hB⟩ : ∃ B, t - t1 = B := ⟨_, rfl⟩
  obtain ⟨D, hD⟩ : ∃ D, t2 - t1 = D := ⟨_, rfl⟩
  rw [hA] at m4 m5 m8 HV
  rw [hB] at m6 m7 m8 HV
  rw [hD] at m2 m3 HV
  obtain ⟨P1, hP1⟩ : ∃ x, c1 * A = x := ⟨_, rfl⟩
  obtain ⟨P2, hP2⟩ : ∃ x, c2 * B = x := ⟨_, rfl⟩
  obtain ⟨Q1, hQ1⟩ : ∃ x, v * rf = x := ⟨_, rfl⟩
  rw [hP1] at m4 m5 m8 HV
  rw [hP2] at m6 m7 m8 HV
  rw [hQ1] at m0 m1 m2 m3 HV
  obtain ⟨Q2, hQ2⟩ : ∃ x, Q1 * D = x := ⟨_, rfl⟩
  rw [hQ2] at m2 m3 HV
  obtain ⟨PL, hPL⟩ : ∃ x, P1 + P2 = x := ⟨_, rfl⟩
  rw [hPL] at m8 HV
  have wA : IntKind.i64.wrap A = A := IntWalk.i64_in _ (by omega)
  have wB : IntKind.i64.wrap B = B := IntWalk.i64_in _ (by omega)
  have wD1 : IntKind.i64.wrap D = D := IntWalk.i64_in _ (by omega)
  have wP1 : IntKind.i64.wrap P1 = P1 := IntWalk.i64_in _ (by omega)
  have wP2 : IntKind.i64.wrap P2 = P2 := IntWalk.i64_in _ (by omega)
  have wQ1 : IntKind.i64.wrap Q1 = Q1 := IntWalk.i64_in _ (by omega)
  have wQ2 : IntKind.i64.wrap Q2 = Q2 := IntWalk.i64_in _ (by omega)
  have wPL : IntKind.i64.wrap PL = PL := IntWalk.i64_in _ (by omega)
  have hV := HV.out
  have td : Q2.tdiv PL = V := by rw [Int.tdiv_eq_ediv_of_nonneg m2]; exact hV.symm
  have ed : Q2 / PL = V := hV.symm
  have wV : IntKind.i64.wrap V = V := IntWalk.i64_in _ (by omega)
  have nz : ¬ PL = 0 := by omega
  clear HV hV
  go_enter Try.func45, Try.ntmps45
  go_wp2_with fail
  obtain ⟨wr, hwr⟩ : ∃ wr, (w.alloc (.cells #[.int .i64 t, .int .i64 v] 44)).alloc (.cells #[.int .i64 t1, .int .i64 c1, .int .i64 t2, .int .i64 c2] 83) = wr := ⟨_, rfl⟩
  rw [hwr]
  have hsz : wr.heap.size = w.heap.size + 1 + 1 := by rw [← hwr]; simp
  have hbq : Below w.heap.size w wr := by rw [← hwr]; exact ((Below.refl _ _).alloc (Nat.le_refl _) _ : Below w.heap.size w (w.alloc _)).alloc (by simp) _
  have r0 : wr.cell? ⟨w.heap.size, 0, none⟩ = some (.int .i64 t) := by rw [← hwr]; simp [go_sem]
  have r1 : wr.cell? ⟨w.heap.size, 1, none⟩ = some (.int .i64 v) := by rw [← hwr]; simp [go_sem]
  have e0 : wr.cell? ⟨w.heap.size + 1, 0, none⟩ = some (.int .i64 t1) := by rw [← hwr]; simp [go_sem]
  have e1 : wr.cell? ⟨w.heap.size + 1, 1, none⟩ = some (.int .i64 c1) := by rw [← hwr]; simp [go_sem]
  have e2 : wr.cell? ⟨w.heap.size + 1, 2, none⟩ = some (.int .i64 t2) := by rw [← hwr]; simp [go_sem]
  have e3 : wr.cell? ⟨w.heap.size + 1, 3, none⟩ = some (.int .i64 c2) := by rw [← hwr]; simp [go_sem]
  clear hwr
  have hz : w.heap.size < wr.heap.size := by omega
  have hz1 : w.heap.size + 1 < wr.heap.size := by omega
  have n9 : w.heap.size + 1 ≠ wr.heap.size := by omega
  have n8 : w.heap.size + 1 ≠ wr.heap.size + 1 := by omega
  have q1 : ∀ c1 o, ((wr.alloc (.cells c1 44)).drew).cell? ⟨w.heap.size + 1, o, none⟩ = wr.cell? ⟨w.heap.size + 1, o, none⟩ := fun c1 o => ((((Below.refl _ _).alloc (Nat.le_refl _) _ : Below wr.heap.size wr (wr.alloc (.cells c1 44))).drew).cell (p := ⟨w.heap.size + 1, o, none⟩) hz1)
  have q2 : ∀ c1 c2 o, (((wr.alloc (.cells c1 44)).alloc (.cells c2 44)).drew).cell? ⟨w.heap.size + 1, o, none⟩ = wr.cell? ⟨w.heap.size + 1, o, none⟩ := fun c1 c2 o => (((((Below.refl _ _).alloc (Nat.le_refl _) _ : Below wr.heap.size wr (wr.alloc (.cells c1 44))).alloc (by simp) _).drew).cell (p := ⟨w.heap.size + 1, o, none⟩) hz1)
  go_region
  all_goals first
    | (obtain ⟨wD, hwD⟩ : ∃ wD, (((wr.alloc (.cells #[.int .i64 t1, .int .i64 c1] 44)).alloc (.cells #[.int .i64 t2, .int .i64 c2] 44)).drew) = wD := ⟨_, rfl⟩
       rw [hwD]
       have hbD : Below wr.heap.size wr wD := by
         rw [← hwD]
         exact (((Below.refl _ _).alloc (Nat.le_refl _) _ : Below wr.heap.size wr (wr.alloc (.cells #[.int .i64 t1, .int .i64 c1] 44))).alloc (by simp) _).drew
       have hsD : wD.heap.size = wr.heap.size + 1 + 1 := by rw [← hwD]; simp
       have d0 : wD.cell? ⟨wr.heap.size, 0, none⟩ = some (.int .i64 t1) := by rw [← hwD]; simp [go_sem]
       have d1 : wD.cell? ⟨wr.heap.size, 1, none⟩ = some (.int .i64 c1) := by rw [← hwD]; simp [go_sem]
       have d2 : wD.cell? ⟨wr.heap.size + 1, 0, none⟩ = some (.int .i64 t2) := by rw [← hwD]; simp [go_sem]
       have d3 : wD.cell? ⟨wr.heap.size + 1, 1, none⟩ = some (.int .i64 c2) := by rw [← hwD]; simp [go_sem]
       clear hwD)
    | (obtain ⟨wD, hwD⟩ : ∃ wD, (((wr.alloc (.cells #[.int .i64 t2, .int .i64 c2] 44)).alloc (.cells #[.int .i64 t1, .int .i64 c1] 44)).drew) = wD := ⟨_, rfl⟩
       rw [hwD]
       have hbD : Below wr.heap.size wr wD := by
         rw [← hwD]
         exact (((Below.refl _ _).alloc (Nat.le_refl _) _ : Below wr.heap.size wr (wr.alloc (.cells #[.int .i64 t2, .int .i64 c2] 44))).alloc (by simp) _).drew
       have hsD : wD.heap.size = wr.heap.size + 1 + 1 := by rw [← hwD]; simp
       have d0 : wD.cell? ⟨wr.heap.size, 0, none⟩ = some (.int .i64 t2) := by rw [← hwD]; simp [go_sem]
       have d1 : wD.cell? ⟨wr.heap.size, 1, none⟩ = some (.int .i64 c2) := by rw [← hwD]; simp [go_sem]
       have d2 : wD.cell? ⟨wr.heap.size + 1, 0, none⟩ = some (.int .i64 t1) := by rw [← hwD]; simp [go_sem]
       have d3 : wD.cell? ⟨wr.heap.size + 1, 1, none⟩ = some (.int .i64 c1) := by rw [← hwD]; simp [go_sem]
       clear hwD)
  all_goals
    have r0 := cell_below r0 hbD
    have r1 := cell_below r1 hbD
    rw [hsz] at d0 d1 d2 d3
    have hbw := hbq.trans (hbD.mono hbq.size)
    clear n9 n8 q1 q2 e0 e1 e2 e3
    go_wp2_with fail
    go_ret
    exact ⟨rfl, hbw⟩
end Go.Proofs.Ytkddmjadilmldaa
