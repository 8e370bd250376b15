/-
  The walks of slopeAt, bright and of their references. By an AI agent.
-/
import Derived.Test.YtkddmjadilmldaaLightTablesW
namespace Go.Proofs.Ytkddmjadilmldaa
set_option linter.unusedVariables false
set_option linter.unusedSimpArgs false
open Go.RowKit

theorem slopeAt_any (m d : Int) (w : World) (h0 : 0 ≤ m) (h1 : m ≤ 50000) (d0 : 1 ≤ d) (d1 : d ≤ 400) : Calls Try.prog 57 #[.int .i64 m, .int .i64 d] w fun e w' => e = .returned (.int .i64 ((1000 * m + d - 1) / d)) ∧ w = w' := by
  obtain ⟨q, hq⟩ : ∃ q, (m * 1000 + d - 1) / d = q := ⟨_, rfl⟩
  have e : (1000 * m + d - 1) / d = q := by rw [← hq, Int.mul_comm]
  have q0 : 0 ≤ q := by rw [← hq]; exact Int.ediv_nonneg (by omega) (by omega)
  have q1 : q ≤ 100000000 := by rw [← hq]; exact Int.le_trans (Int.ediv_le_self _ (by omega)) (by omega)
  rw [e]
  have hd : ¬ d = 0 := by omega
  go_enter Try.func57, Try.ntmps57
  go_wp2
  go_ret
  first | exact ⟨rfl, rfl⟩ | (rw [hq]; exact ⟨rfl, rfl⟩)
theorem up_any (m d : Int) (w : World) (h0 : 0 ≤ m) (h1 : m ≤ 50000000) (d0 : 1 ≤ d) (d1 : d ≤ 400) : Calls Try.prog 63 #[.int .i64 m, .int .i64 d] w fun e w' => e = .returned (.int .i64 ((m + d - 1) / d)) ∧ w = w' := by
  obtain ⟨q, hq⟩ : ∃ q, (m + d - 1) / d = q := ⟨_, rfl⟩
  have q0 : 0 ≤ q := by rw [← hq]; exact Int.ediv_nonneg (by omega) (by omega)
  have q1 : q ≤ 100000000 := by rw [← hq]; exact Int.le_trans (Int.ediv_le_self _ (by omega)) (by omega)
  have hd : ¬ d = 0 := by omega
  rw [hq]
  go_enter Try.func63, Try.ntmps63
  go_wp2
  go_ret
  first | exact ⟨rfl, rfl⟩ | (rw [hq]; exact ⟨rfl, rfl⟩)
/-- Brightness at a distance. -/
noncomputable def brightV (o e : List Int) (r : List (List Int)) (z0 z1 z2 z3 d : Int) : Int := z3 * coefV o e r ((1000 * z0 + d - 1) / d) ((1000 * z1 + d - 1) / d + z2) / (d * d)

set_option maxRecDepth 100000 in
set_option maxHeartbeats 4000000 in
theorem bright_any (ao ae ar : Option Addr) (o e : List Int) (r : List (List Int)) (co ce cr : Nat) (z0 z1 z2 z3 d : Int) (w : World) (hT : TableS w ao ae ar o e r) (hco : o.length ≤ co) (hce : e.length ≤ ce) (hK : TableOk o e r) (hS : sceneB z0 z1 z2 z3 = true) (d0 : 1 ≤ d) (d1 : d ≤ 400) :
    Calls Try.prog 34 #[.agg #[.slice ao o.length co, .slice ae e.length ce, .slice ar r.length cr], .agg #[.int .i64 z0, .int .i64 z1, .int .i64 z2, .int .i64 z3], .int .i64 d] w fun E w' => E = .returned (.int .i64 (brightV o e r z0 z1 z2 z3 d)) ∧ Below w.heap.size w w' := by
  obtain ⟨⟨a0, a1⟩, ⟨b0, b1⟩, ⟨c0, c1⟩, e0, e1⟩ := (sceneB_iff _ _ _ _).1 hS
  unfold brightV
  obtain ⟨A1, hA1⟩ : ∃ x, (1000 * z0 + d - 1) / d = x := ⟨_, rfl⟩
  obtain ⟨A2, hA2⟩ : ∃ x, (1000 * z1 + d - 1) / d = x := ⟨_, rfl⟩
  obtain ⟨X2, hX2⟩ : ∃ x, A2 + z2 = x := ⟨_, rfl⟩
  have q0 : 0 ≤ A1 := by rw [← hA1]; exact Int.ediv_nonneg (by omega) (by omega)
  have q1 : A1 ≤ 100000000 := by rw [← hA1]; exact Int.le_trans (Int.ediv_le_self _ (by omega)) (by omega)
  have q2 : 0 ≤ A2 := by rw [← hA2]; exact Int.ediv_nonneg (by omega) (by omega)
  have q3 : A2 ≤ 100000000 := by rw [← hA2]; exact Int.le_trans (Int.ediv_le_self _ (by omega)) (by omega)
  have HS1 : Hid (∀ W, Calls Try.prog 57 #[.int .i64 z0, .int .i64 d] W fun e w' => e = .returned (.int .i64 A1) ∧ W = w') := Lib.hid fun W => by rw [← hA1]; exact slopeAt_any z0 d W a0 (by omega) d0 d1
  have HS2 : Hid (∀ W, Calls Try.prog 57 #[.int .i64 z1, .int .i64 d] W fun e w' => e = .returned (.int .i64 A2) ∧ W = w') := Lib.hid fun W => by rw [← hA2]; exact slopeAt_any z1 d W b0 b1 d0 d1
  have HC : Hid (∀ W, Below w.heap.size w W → Calls Try.prog 55 #[.agg #[.slice ao o.length co, .slice ae e.length ce, .slice ar r.length cr], .int .i64 A1, .int .i64 X2] W fun E w' => E = .returned (.int .i64 (coefV o e r A1 X2)) ∧ Below W.heap.size W w') := Lib.hid fun W hW => coefficient_any ao ae ar o e r co ce cr A1 X2 W (hT.below hW) hco hce hK (by unfold I64; omega) (by unfold I64; omega)
  have cb := coefV_bd hK A1 X2
  rw [hA1, hA2, hX2]
  obtain ⟨V, hV⟩ : ∃ V, coefV o e r A1 X2 = V := ⟨_, rfl⟩
  rw [hV] at HC cb ⊢
  obtain ⟨cb0, cb1⟩ := cb
  obtain ⟨p, hp, p0, p1⟩ := mul_small e0 e1 cb0 cb1
  obtain ⟨dd, hdd, dd0, dd1⟩ := mul_small (show 0 ≤ d by omega) d1 (show 0 ≤ d by omega) d1
  have ddp : 0 < dd := by rw [← hdd]; exact Int.mul_pos (by omega) (by omega)
  rw [hp, hdd]
  have wX : IntKind.i64.wrap X2 = X2 := IntWalk.i64_in _ (by omega)
  clear hT hK hS hA1 hA2 hV hco hce
  go_enter Try.func34, Try.ntmps34
  go_wp2_with fail
  have hB : Below w.heap.size w ((w.alloc (.cells #[.slice ao o.length co, .slice ae e.length ce, .slice ar r.length cr] 25)).alloc (.cells #[.int .i64 z0, .int .i64 z1, .int .i64 z2, .int .i64 z3] 27)) := box2_start
  obtain ⟨wB, hwB⟩ : ∃ wB, (w.alloc (.cells #[.slice ao o.length co, .slice ae e.length ce, .slice ar r.length cr] 25)).alloc (.cells #[.int .i64 z0, .int .i64 z1, .int .i64 z2, .int .i64 z3] 27) = wB := ⟨_, rfl⟩
  have p0' : wB.cell? ⟨w.heap.size, 0, none⟩ = some (Value.slice ao o.length co) := by rw [← hwB]; simp [go_sem]
  have p1' : wB.cell? ⟨w.heap.size, 1, none⟩ = some (Value.slice ae e.length ce) := by rw [← hwB]; simp [go_sem]
  have p2' : wB.cell? ⟨w.heap.size, 2, none⟩ = some (Value.slice ar r.length cr) := by rw [← hwB]; simp [go_sem]
  have s0 : wB.cell? ⟨w.heap.size + 1, 0, none⟩ = some (Value.int .i64 z0) := by rw [← hwB]; simp [go_sem]
  have s1 : wB.cell? ⟨w.heap.size + 1, 1, none⟩ = some (Value.int .i64 z1) := by rw [← hwB]; simp [go_sem]
  have s2 : wB.cell? ⟨w.heap.size + 1, 2, none⟩ = some (Value.int .i64 z2) := by rw [← hwB]; simp [go_sem]
  have s3 : wB.cell? ⟨w.heap.size + 1, 3, none⟩ = some (Value.int .i64 z3) := by rw [← hwB]; simp [go_sem]
  have hz : w.heap.size + 1 < wB.heap.size := by rw [← hwB]; simp
  rw [hwB] at hB ⊢
  clear hwB
  have HB := Lib.hid hB
  clear hB
  go_region_held3 (fun w' => w'.cell? ⟨w.heap.size, 0, none⟩ = some (Value.slice ao o.length co) ∧ w'.cell? ⟨w.heap.size, 1, none⟩ = some (Value.slice ae e.length ce) ∧ w'.cell? ⟨w.heap.size, 2, none⟩ = some (Value.slice ar r.length cr) ∧ w'.cell? ⟨w.heap.size + 1, 0, none⟩ = some (Value.int .i64 z0) ∧ w'.cell? ⟨w.heap.size + 1, 1, none⟩ = some (Value.int .i64 z1) ∧ w'.cell? ⟨w.heap.size + 1, 2, none⟩ = some (Value.int .i64 z2) ∧ w'.cell? ⟨w.heap.size + 1, 3, none⟩ = some (Value.int .i64 z3)) (go_keep)
    (first
      | (go_at_call 57
         first
           | (with_reducible refine (HS1.out _).mono ?_)
           | (with_reducible refine (HS2.out _).mono ?_)
         rintro E w2 ⟨rfl, rfl⟩)
      | (go_at_call 55
         refine (HC.out _ (by first | exact HB.out.drew | exact HB.out | exact HB.out.drew.drew | exact HB.out.drew.drew.drew | exact below_drewN HB.out _)).mono ?_
         rintro E w2 ⟨rfl, hb2⟩
         have t0 := (hb2.cell (p := ⟨w.heap.size, 0, none⟩) (Nat.lt_trans (Nat.lt_succ_self _) hz)).trans p0'
         have t1 := (hb2.cell (p := ⟨w.heap.size, 1, none⟩) (Nat.lt_trans (Nat.lt_succ_self _) hz)).trans p1'
         have t2 := (hb2.cell (p := ⟨w.heap.size, 2, none⟩) (Nat.lt_trans (Nat.lt_succ_self _) hz)).trans p2'
         have u0 := (hb2.cell (p := ⟨w.heap.size + 1, 0, none⟩) hz).trans s0
         have u1 := (hb2.cell (p := ⟨w.heap.size + 1, 1, none⟩) hz).trans s1
         have u2 := (hb2.cell (p := ⟨w.heap.size + 1, 2, none⟩) hz).trans s2
         have u3 := (hb2.cell (p := ⟨w.heap.size + 1, 3, none⟩) hz).trans s3
         have hB : Below w.heap.size w w2 := by first | exact (HB.out.drew).trans (hb2.mono HB.out.size) | exact HB.out.trans (hb2.mono HB.out.size) | exact (HB.out.drew.drew).trans (hb2.mono HB.out.size) | exact (below_drewN HB.out _).trans (hb2.mono HB.out.size)))
  all_goals
    go_wp2_with fail
    go_ret
    exact ⟨rfl, hB⟩
end Go.Proofs.Ytkddmjadilmldaa
