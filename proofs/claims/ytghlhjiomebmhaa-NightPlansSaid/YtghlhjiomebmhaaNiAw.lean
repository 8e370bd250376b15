/-
  The check at the example of package night. By an AI agent.
-/
import Derived.Test.YtghlhjiomebmhaaNiX
namespace Go.Proofs.Ytghlhjiomebmhaa
set_option linter.unusedVariables false
set_option linter.unusedSimpArgs false
open Go.RowKit

def ej : List Jo := [⟨1, 5, 100, 10, 20, 1, false, false⟩, ⟨2, 5, 900, 10, 20, 1, false, false⟩]
def en : List Ni := [⟨12, 5, 0, 1000, 1, 1, false, false⟩]
theorem e_err : errL ej en = 0 := by decide +kernel
theorem e_most : mostN ej en = 1 := by decide +kernel
theorem e_best : bestL ej en = [0, -1] := by decide +kernel
set_option maxRecDepth 100000 in
set_option maxHeartbeats 2000000 in
theorem awake_any (w : World) : Calls Try.prog 8 #[] w fun e w' => e = .returned (.bool true) ∧ Below w.heap.size w w' := by
  obtain ⟨wB, hwB⟩ : ∃ wB, (w.alloc (.cells #[.int .i64 1, .int .i64 5, .int .i64 100, .int .i64 10, .int .i64 20, .int .i64 1, .bool false, .bool false, .int .i64 2, .int .i64 5, .int .i64 900, .int .i64 10, .int .i64 20, .int .i64 1, .bool false, .bool false] 43)).alloc (.cells #[.int .i64 12, .int .i64 5, .int .i64 0, .int .i64 1000, .int .i64 1, .int .i64 1, .bool false, .bool false] 51) = wB := ⟨_, rfl⟩
  have hbB : Below w.heap.size w wB := by rw [← hwB]; exact ((Below.refl _ _).alloc (Nat.le_refl _) _).alloc (by simp) _
  have hJ : JobsS wB (some ⟨w.heap.size, 0, none⟩) ej := ⟨by decide, w.heap.size, 0, fun _ => rfl, fun i hi => by
    have hi : i < 2 := hi
    match i, hi with
    | 0, _ => rw [← hwB]; simp [go_sem, gj, ej]
    | 1, _ => rw [← hwB]; simp [go_sem, gj, ej]⟩
  have hN : NightsS wB (some ⟨w.heap.size + 1, 0, none⟩) en := ⟨by decide, w.heap.size + 1, 0, fun _ => rfl, fun i hi => by
    have hi : i < 1 := hi
    match i, hi with
    | 0, _ => rw [← hwB]; simp [go_sem, gn, en]⟩
  have H1 := Lib.hid (most_ok (some ⟨w.heap.size, 0, none⟩) ej 2 (some ⟨w.heap.size + 1, 0, none⟩) en 1 wB hJ hN e_err)
  have H2 := Lib.hid (fun W (hW : Below wB.heap.size wB W) => best_ok (some ⟨w.heap.size, 0, none⟩) ej 2 (some ⟨w.heap.size + 1, 0, none⟩) en 1 W (hJ.below hW) (hN.below hW) e_err)
  rw [e_most] at H1
  rw [e_best] at H2
  have e1 : ej.length = 2 := rfl
  have e2 : en.length = 1 := rfl
  rw [e1, e2] at H1 H2
  clear hJ hN e1 e2
  go_enter Try.func8, Try.ntmps8
  go_wp2_with fail
  refine H1.out.mono ?_
  rintro e w1 ⟨rfl, hb1⟩
  go_wp2_with fail
  refine (H2.out _ hb1).mono ?_
  rintro e w2 ⟨g, c, rfl, hP, -, -, hb2⟩
  have c0 := hP.1 0 (by decide)
  have c1 := hP.1 1 (by decide)
  have c0 : w2.cell? ⟨g, 0, none⟩ = some (.int .i64 0) := c0
  have c1 : w2.cell? ⟨g, 1, none⟩ = some (.int .i64 (-1)) := c1
  have hf := below_onN (below_onN hbB hb1 hbB.size) hb2 (below_onN hbB hb1 hbB.size).size
  clear hP H1 H2
  go_wp2_with fail
  go_ret
  exact ⟨rfl, hf⟩
end Go.Proofs.Ytghlhjiomebmhaa
