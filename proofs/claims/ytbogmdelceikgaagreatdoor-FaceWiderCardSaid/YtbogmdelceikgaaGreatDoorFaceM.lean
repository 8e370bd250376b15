/-
  The walk of the statements' sanity check: it answers true. By an AI agent.
-/
import Derived.Test.YtbogmdelceikgaaGreatDoorFaceL
namespace Go.Proofs.YtbogmdelceikgaaGreatDoor
open Go.RowKit

set_option maxRecDepth 100000 in
set_option maxHeartbeats 4000000 in
theorem first_any (w : World) (hT : Tabs w) :
    Calls Tryz.prog 4 #[] w fun e w' => e = .returned (.bool true) ∧ Below w.heap.size w w' := by
  have hs := hT.letters.1
  have HL : Hid (∀ W, Tabs W → Calls Tryz.prog 7 #[.string ⟨#[83, 84, 79, 80]⟩, .int .i64 2] W fun e w' => e = .returned (.tuple #[.int .i64 46, .int .i64 0]) ∧ Below W.heap.size W w') := Lib.hid fun W hW => by
    have := length_any ⟨#[83, 84, 79, 80]⟩ 2 W hW.letters (by decide)
    rw [show lenV ⟨#[83, 84, 79, 80]⟩ 2 = 46 from by decide, show lenE ⟨#[83, 84, 79, 80]⟩ 2 = 0 from by decide] at this
    exact this
  have HT := Lib.hid hT
  have HP := Lib.hid (parse_ex w hT)
  clear hT
  unfold exText at HP
  go_enter Tryz.func4, Tryz.ntmps4
  go_wp2_with fail
  refine HP.out.mono ?_
  rintro e w1 ⟨blk, cap, rfl, hb1, hA0, hA1⟩
  have hb2 : Below w.heap.size w (w1.alloc (.cells #[.int .i64 1, .int .i64 60, .int .i64 0, .slice (some ⟨blk, 0, none⟩) 2 cap] 28)) := hb1.alloc hb1.size _
  have hl : blk < w1.heap.size := block_lt hA0.1
  have B0 := Lib.hid (hA0.below ((Below.refl w1.heap.size w1).alloc (Nat.le_refl _) (.cells #[.int .i64 1, .int .i64 60, .int .i64 0, .slice (some ⟨blk, 0, none⟩) 2 cap] 28)))
  have B1 := Lib.hid (hA1.below ((Below.refl w1.heap.size w1).alloc (Nat.le_refl _) (.cells #[.int .i64 1, .int .i64 60, .int .i64 0, .slice (some ⟨blk, 0, none⟩) 2 cap] 28)))
  clear hA0 hA1
  have hT2 := HT.out.below hb2
  have HA := Lib.hid (at_ex blk 0 cap 30 _ hT2.letters hT2.kinds (by decide) (by decide) true (by decide) (by decide) B0.out B1.out)
  go_wp2_with fail
  refine HA.out.mono ?_
  rintro e w3 ⟨rfl, hb3⟩
  have hs3 := hb3.size
  have q0 := hb3.cell (p := ⟨w1.heap.size, 0, none⟩) (by simp)
  have q1 := hb3.cell (p := ⟨w1.heap.size, 1, none⟩) (by simp)
  have q2 := hb3.cell (p := ⟨w1.heap.size, 2, none⟩) (by simp)
  have q3 := hb3.cell (p := ⟨w1.heap.size, 3, none⟩) (by simp)
  simp [go_sem] at q0 q1 q2 q3 hs3
  have hB3 : Below w.heap.size w w3 := hb2.trans (hb3.mono (by have := hb1.size; simp; omega))
  have hT3 := HT.out.below hB3
  have HA2 := Lib.hid (at_ex blk 0 cap 0 _ hT3.letters hT3.kinds (by decide) (by decide) false (by decide) (by decide) (B0.out.below hb3) (B1.out.below hb3))
  go_wp2_with fail
  refine HA2.out.mono ?_
  rintro e w4 ⟨rfl, hb4⟩
  have hB4 : Below w.heap.size w w4 := hB3.trans (hb4.mono hB3.size)
  have hT4 := HT.out.below hB4
  go_wp2_with fail
  refine (HL.out _ hT4).mono ?_
  rintro e w5 ⟨rfl, hb5⟩
  go_wp2_with fail
  go_ret
  exact ⟨rfl, hB4.trans (hb5.mono hB4.size)⟩
end Go.Proofs.YtbogmdelceikgaaGreatDoor
