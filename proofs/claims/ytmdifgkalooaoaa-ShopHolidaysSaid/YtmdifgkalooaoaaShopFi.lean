/-
  The walk of first: example 1 of the chapter. By an AI agent.
-/
import Derived.Test.YtmdifgkalooaoaaShopN
namespace Go.Proofs.Ytmdifgkalooaoaa
set_option linter.unusedVariables false
set_option linter.unusedSimpArgs false
open Go.RowKit

/-- The shop of the example. -/
def exSh (b : Nat) : Sh := ⟨480, 960, none, [], 0, 1, some ⟨b, 0, none⟩, [0], 1, none, [], 0⟩
theorem exSh_ok (b : Nat) : ShOk (exSh b) := by
  refine ⟨⟨show (0 : Int) ≤ 480 by decide, show (480 : Int) < 960 by decide, show (960 : Int) ≤ 1440 by decide⟩, ⟨show 0 ≤ 400 by decide, fun j hj => absurd hj (Nat.not_lt_zero _)⟩, ⟨⟨show (1 : Int) ≤ 1 by decide, show (1 : Int) ≤ 6 by decide⟩, show ((1 : Nat) : Int) = 1 by decide, fun j hj => ?_⟩, show 0 ≤ 12 by decide, fun j hj => absurd hj (Nat.not_lt_zero _)⟩
  have : j = 0 := by have : j < 1 := hj; omega
  subst this
  exact ⟨show (0 : Int) ≤ 0 by decide, show (0 : Int) ≤ 1000 by decide⟩
theorem exSh_next : nextV 480 960 [] 900 90 = 1920 := by
  refine nextV_eq ⟨by omega, ⟨hol_false.2 fun j hj => absurd hj (Nat.not_lt_zero _), by decide, by decide⟩, fun y h1 h2 h => ?_⟩
  have := h.2.1
  have := h.2.2
  omega
theorem opn_nil (t : Int) : opnB 480 960 [] t = t / 1440 * 480 + min (max (t % 1440 - 480) 0) 480 := by
  have h : hol [] (t / 1440) = false := hol_false.2 fun j hj => absurd hj (Nat.not_lt_zero _)
  have c : cnt [] (t / 1440) = 0 := rfl
  unfold opnB preB
  rw [h, c]
  simp
theorem exSh_after : aftV 480 960 [] 900 90 = 1950 := by
  refine aftV_eq ⟨by omega, ?_, fun y h1 h2 => ?_⟩
  · rw [opn_nil, opn_nil]; omega
  · rw [opn_nil, opn_nil]; omega

set_option maxRecDepth 100000 in
set_option maxHeartbeats 1000000 in
theorem first_sh (w : World) : Calls Try.prog 19 #[] w fun e w' => e = .returned (.bool true) ∧ Below w.heap.size w w' := by
  have hI : ∀ W, W.cell? ⟨w.heap.size, 0, none⟩ = some (.int .i64 0) → ShS W (exSh w.heap.size) := fun W hc => by
    refine ⟨⟨show 0 ≤ 9223372036854775807 by decide, fun i hi => absurd hi (Nat.not_lt_zero _), 0, 0, fun h => absurd rfl h, fun i hi => absurd hi (Nat.not_lt_zero _)⟩, ⟨show 1 ≤ 9223372036854775807 by decide, fun i hi => ?_, w.heap.size, 0, fun _ => rfl, fun i hi => ?_⟩, show 0 ≤ 9223372036854775807 by decide, 0, 0, fun _ => none, fun _ => 0, fun h => absurd rfl h, fun i hi => absurd hi (Nat.not_lt_zero _)⟩
    · have : i = 0 := by have : i < 1 := hi; omega
      subst this
      exact ⟨show (-9223372036854775808 : Int) ≤ 0 by decide, show (0 : Int) ≤ 9223372036854775807 by decide⟩
    · have : i = 0 := by have : i < 1 := hi; omega
      subst this
      exact hc
  have HN : Hid (∀ W, W.cell? ⟨w.heap.size, 0, none⟩ = some (.int .i64 0) → Calls Try.prog 22 #[.agg #[.int .i64 480, .int .i64 960, .slice none 0 0, .int .i64 1, .slice (some ⟨w.heap.size, 0, none⟩) 1 1, .slice none 0 0], .int .i64 900, .int .i64 90] W fun e w' => e = .returned (.tuple #[.int .i64 1920, .int .i64 0]) ∧ Below W.heap.size W w') := Lib.hid fun W hc => by
    have := next_ok (exSh w.heap.size) 900 90 W (hI W hc) (exSh_ok _) (by decide) (by decide) (by decide) (show (90 : Int) ≤ 960 - 480 by decide)
    rw [show nextV (exSh w.heap.size).O (exSh w.heap.size).C (exSh w.heap.size).H 900 90 = 1920 from exSh_next] at this
    exact this
  have HA : Hid (∀ W, W.cell? ⟨w.heap.size, 0, none⟩ = some (.int .i64 0) → Calls Try.prog 24 #[.agg #[.int .i64 480, .int .i64 960, .slice none 0 0, .int .i64 1, .slice (some ⟨w.heap.size, 0, none⟩) 1 1, .slice none 0 0], .int .i64 900, .int .i64 90] W fun e w' => e = .returned (.tuple #[.int .i64 1950, .int .i64 0]) ∧ Below W.heap.size W w') := Lib.hid fun W hc => by
    have := after_ok (exSh w.heap.size) 900 90 W (hI W hc) (exSh_ok _) (by decide) (by decide) (by decide)
    rw [show aftV (exSh w.heap.size).O (exSh w.heap.size).C (exSh w.heap.size).H 900 ((90 : Nat) : Int) = 1950 from exSh_after] at this
    exact this
  clear hI
  go_enter Try.func19, Try.ntmps19
  go_wp2_with fail
  obtain ⟨wB, hwB⟩ : ∃ wB, (w.alloc (.cells #[.int .i64 0] 3)).alloc (.cells #[.int .i64 480, .int .i64 960, .slice none 0 0, .int .i64 1, .slice (some ⟨w.heap.size, 0, none⟩) 1 1, .slice none 0 0] 25) = wB := ⟨_, rfl⟩
  have hb : Below w.heap.size w wB := by rw [← hwB]; exact ((Below.refl _ _).alloc (Nat.le_refl _) _).alloc (by simp) _
  have ct : wB.cell? ⟨w.heap.size, 0, none⟩ = some (.int .i64 0) := by rw [← hwB]; simp [go_sem]
  have p0 : wB.cell? ⟨w.heap.size + 1, 0, none⟩ = some (.int .i64 480) := by rw [← hwB]; simp [go_sem]
  have p1 : wB.cell? ⟨w.heap.size + 1, 1, none⟩ = some (.int .i64 960) := by rw [← hwB]; simp [go_sem]
  have p2 : wB.cell? ⟨w.heap.size + 1, 2, none⟩ = some (.slice none 0 0) := by rw [← hwB]; simp [go_sem]
  have p3 : wB.cell? ⟨w.heap.size + 1, 3, none⟩ = some (.int .i64 1) := by rw [← hwB]; simp [go_sem]
  have p4 : wB.cell? ⟨w.heap.size + 1, 4, none⟩ = some (.slice (some ⟨w.heap.size, 0, none⟩) 1 1) := by rw [← hwB]; simp [go_sem]
  have p5 : wB.cell? ⟨w.heap.size + 1, 5, none⟩ = some (.slice none 0 0) := by rw [← hwB]; simp [go_sem]
  rw [hwB]
  clear hwB
  refine (HN.out _ ct).mono ?_
  rintro e w1 ⟨rfl, hb1⟩
  have ct := cell_below ct hb1
  have p0 := cell_below p0 hb1
  have p1 := cell_below p1 hb1
  have p2 := cell_below p2 hb1
  have p3 := cell_below p3 hb1
  have p4 := cell_below p4 hb1
  have p5 := cell_below p5 hb1
  have hb := hb.trans (hb1.mono hb.size)
  clear HN hb1
  go_wp2_with fail
  refine (HA.out _ ct).mono ?_
  rintro e w2 ⟨rfl, hb2⟩
  go_wp2_with fail
  go_ret
  exact ⟨rfl, hb.trans (hb2.mono hb.size)⟩
end Go.Proofs.Ytmdifgkalooaoaa
