/-
  Awake: the example of the chapter and a letter. By an AI agent.
-/
import Derived.Test.YtmeoekcajmgiaaaCutG
namespace Go.Proofs.Ytmeoekcajmgiaaa
set_option linter.unusedVariables false
set_option linter.unusedSimpArgs false
open Go.RowKit

def exL : List (Int × Int) := [(60, 2), (40, 1), (30, 3)]
def exQ : List Int := [60, 40, 30]
theorem small3 {j : Nat} (h : j < 3) : j = 0 ∨ j = 1 ∨ j = 2 := by omega
theorem ex_prc : prcE 100 0 exL exQ = 0 := by
  have h1 : CutOk 100 0 exL := ⟨by omega, by omega, by decide, fun j hj => by rcases small3 hj with rfl | rfl | rfl <;> simp [asksOk, gp, exL]⟩
  have h2 : PrcOk exL exQ := ⟨by decide, fun j hj => by rcases small3 hj with rfl | rfl | rfl <;> simp [prcOk, gi, exQ]⟩
  unfold prcE
  rw [if_pos (cutB_t h1), if_pos h2]
theorem ex_bst : bstR 100 0 exL exQ = 100 := by decide +kernel
theorem ex_sum : sumW exL exQ 3 = 250 := by decide +kernel
theorem ex_bd : bdV 100 0 exL exQ = 3 := by
  unfold bdV
  rw [if_pos ex_prc, ex_bst]
  show (if (100 : Int) = 0 then 0 else (sumW exL exQ 3 + 100 - 1) / 100) = 3
  rw [ex_sum]; decide
theorem exB_any (aa ap : Option Addr) (w : World) (hA : PairsS w aa exL) (hQ : IntsS w ap exQ) :
    Calls Try.prog 13 #[.agg #[.int .i64 100, .int .i64 0, .slice aa 3 3], .slice ap 3 3] w fun e w' => e = .returned (.tuple #[.int .i64 3, .int .i64 0]) ∧ Below w.heap.size w w' := by
  have h := Bound_any 100 0 aa exL 3 ap exQ 3 w hA hQ
  rw [ex_bd, ex_prc] at h
  exact h
theorem exL_in (w : World) (b : Nat) (c0 : w.cell? ⟨b, 0, none⟩ = some (.int .i64 60)) (c1 : w.cell? ⟨b, 1, none⟩ = some (.int .i64 2)) (c2 : w.cell? ⟨b, 2, none⟩ = some (.int .i64 40)) (c3 : w.cell? ⟨b, 3, none⟩ = some (.int .i64 1)) (c4 : w.cell? ⟨b, 4, none⟩ = some (.int .i64 30)) (c5 : w.cell? ⟨b, 5, none⟩ = some (.int .i64 3)) : PairsS w (some ⟨b, 0, none⟩) exL := by
  refine ⟨by decide, fun j hj => ?_, b, 0, fun _ => rfl, fun j hj => ?_⟩
  · rcases small3 hj with rfl | rfl | rfl <;> simp [I64, gp, exL]
  · rcases small3 hj with rfl | rfl | rfl
    · exact ⟨c0, c1⟩
    · exact ⟨c2, c3⟩
    · exact ⟨c4, c5⟩
theorem exQ_in (w : World) (b : Nat) (c0 : w.cell? ⟨b, 0, none⟩ = some (.int .i64 60)) (c1 : w.cell? ⟨b, 1, none⟩ = some (.int .i64 40)) (c2 : w.cell? ⟨b, 2, none⟩ = some (.int .i64 30)) : IntsS w (some ⟨b, 0, none⟩) exQ := by
  refine ⟨by decide, fun j hj => ?_, b, 0, fun _ => rfl, fun j hj => ?_⟩
  · rcases small3 hj with rfl | rfl | rfl <;> simp [I64, gi, exQ]
  · rcases small3 hj with rfl | rfl | rfl
    · exact c0
    · exact c1
    · exact c2

set_option maxRecDepth 100000 in
set_option maxHeartbeats 1000000 in
theorem awake_any (w : World) : Calls Try.prog 7 #[] w fun e w' => e = .returned (.bool true) ∧ Below w.heap.size w w' := by
  have HB := Lib.hid exB_any
  have HP := Lib.hid parseA_any
  go_enter Try.func7, Try.ntmps7
  go_wp2_with fail
  refine (HB.out _ _ _ (exL_in _ _ (by simp [go_sem]) (by simp [go_sem]) (by simp [go_sem]) (by simp [go_sem]) (by simp [go_sem]) (by simp [go_sem])) (exQ_in _ _ (by simp [go_sem]) (by simp [go_sem]) (by simp [go_sem]))).mono ?_
  rintro e w1 ⟨rfl, hb1⟩
  have hB1 : Below w.heap.size w w1 := box_below (box_below (box_below hb1))
  clear hb1
  go_wp2_with fail
  refine (HP.out _).mono ?_
  rintro e w2 ⟨rfl, hb2⟩
  have hB2 := hB1.trans (hb2.mono hB1.size)
  clear hb2
  go_wp2_with fail
  go_ret
  exact ⟨rfl, hB2.alloc hB2.size _⟩
end Go.Proofs.Ytmeoekcajmgiaaa
