/-
  The walk of the law FaceLetters: it answers true. By an AI agent.
-/
import Derived.Test.YtmlpckeobbkeeaaGreatDoorFaceM
namespace Go.Proofs.YtmlpckeobbkeeaaGreatDoor
open Go.RowKit

theorem part_int (w : World) (xs : Array Value) (i : Nat) (k : Int) (h : xs[i]? = some (.int .i64 k)) : (part 3 xs i).run Tryz.prog w = .ok (.int .i64 k) w := by
  simp [part, go_sem, h]
set_option maxRecDepth 100000 in
theorem eq_seven (w : World) (x6 x5 x4 x3 x2 x1 x0 : Int) : (Op.equalIn 10000 67 (.agg #[.int .i64 x6, .int .i64 x5, .int .i64 x4, .int .i64 x3, .int .i64 x2, .int .i64 x1, .int .i64 x0]) (.agg #[.int .i64 x6, .int .i64 x5, .int .i64 x4, .int .i64 x3, .int .i64 x2, .int .i64 x1, .int .i64 x0])).run Tryz.prog w = .ok true w := by
  have hz : ∀ W, (sizeOf 3).run Tryz.prog W = .ok 1 W := fun W => by kernel_rfl
  show (Op.equalIn (9999 + 1) _ _ _).run _ _ = _
  rw [Op.equalIn]
  simp only [Sem.run_bind, run_underlying Tryz.underlying67, Result.andThen_ok, hz]
  simp [Std.Legacy.Range.forIn_eq_forIn_range', List.range', Sem.run_bind, part_int, run_equalIn_int, Tryz.underlying3, Std.Legacy.Range.size]

set_option maxRecDepth 100000 in
set_option maxHeartbeats 4000000 in
theorem faceLetters_any (c : UInt8) (s : ByteArray) (u : Int) (w : World) (hT : Tabs w) (hs : s.size ≤ maxLen) :
    Calls Tryz.prog 11 #[.int .u8 c.toNat, .string s, .int .i64 u] w fun e w' => e = .returned (.bool true) ∧ Below w.heap.size w w' := by
  have hsz := hT.letters.1
  have hs' := hs
  unfold maxLen at hs'
  have HT := Lib.hid hT
  obtain ⟨x6, x5, x4, x3, x2, x1, x0, b, HA, HB⟩ : ∃ (x6 x5 x4 x3 x2 x1 x0 : Int) (b : Bool),
      Hid (∀ W, Tabs W → Calls Tryz.prog 44 #[.int .u8 c.toNat] W fun e w' => e = .returned (.tuple #[.agg #[.int .i64 x6, .int .i64 x5, .int .i64 x4, .int .i64 x3, .int .i64 x2, .int .i64 x1, .int .i64 x0], .bool b]) ∧ Below W.heap.size W w') ∧
      Hid (∀ W, Calls Tryz.prog 45 #[.int .u8 c.toNat] W fun e w' => e = .returned (.tuple #[.agg #[.int .i64 x6, .int .i64 x5, .int .i64 x4, .int .i64 x3, .int .i64 x2, .int .i64 x1, .int .i64 x0], .bool b]) ∧ Below W.heap.size W w') :=
    ⟨_, _, _, _, _, _, _, _, Lib.hid fun W h => letter_any c W h.letters, Lib.hid fun W => refLetter_any c W⟩
  obtain ⟨n, m, HC, HD⟩ : ∃ (n m : Int),
      Hid (∀ W, Tabs W → Calls Tryz.prog 46 #[.string s, .int .i64 u] W fun e w' => e = .returned (.tuple #[.int .i64 n, .int .i64 m]) ∧ Below W.heap.size W w') ∧
      Hid (∀ W, Calls Tryz.prog 47 #[.string s, .int .i64 u] W fun e w' => e = .returned (.tuple #[.int .i64 n, .int .i64 m]) ∧ Below W.heap.size W w') :=
    ⟨_, _, Lib.hid fun W h => length_any s u W h.letters hs, Lib.hid fun W => refLength_any s u W hs⟩
  clear hs hT
  by_cases h : s.size ≤ 100
  · have he := fun W => eq_seven W x6 x5 x4 x3 x2 x1 x0
    go_enter Tryz.func11, Tryz.ntmps11
    go_wp2_with fail
    refine (HA.out _ HT.out).mono ?_
    rintro e w1 ⟨rfl, hb1⟩
    go_wp2_with fail
    refine (HB.out _).mono ?_
    rintro e w2 ⟨rfl, hb2⟩
    have hs1 := hb1.size
    have hs2 := hb2.size
    have hB2 : Below w.heap.size w w2 := (hb1.alloc hs1 _).trans (hb2.mono (by simp <;> omega))
    have p0 := hb2.cell (p := ⟨w1.heap.size, 0, none⟩) (by simp)
    have p1 := hb2.cell (p := ⟨w1.heap.size, 1, none⟩) (by simp)
    have p2 := hb2.cell (p := ⟨w1.heap.size, 2, none⟩) (by simp)
    have p3 := hb2.cell (p := ⟨w1.heap.size, 3, none⟩) (by simp)
    have p4 := hb2.cell (p := ⟨w1.heap.size, 4, none⟩) (by simp)
    have p5 := hb2.cell (p := ⟨w1.heap.size, 5, none⟩) (by simp)
    have p6 := hb2.cell (p := ⟨w1.heap.size, 6, none⟩) (by simp)
    simp [go_sem] at p0 p1 p2 p3 p4 p5 p6 hs2
    go_wp2_with fail
    refine (HC.out _ (HT.out.below (hB2.alloc hB2.size _))).mono ?_
    rintro e w3 ⟨rfl, hb3⟩
    have hs3 := hb3.size
    have hB3 : Below w.heap.size w w3 := (hB2.alloc hB2.size _).trans (hb3.mono (by have := hB2.size; simp <;> omega))
    have q0 := hb3.cell (p := ⟨w1.heap.size, 0, none⟩) (by simp; omega)
    have q1 := hb3.cell (p := ⟨w1.heap.size, 1, none⟩) (by simp; omega)
    have q2 := hb3.cell (p := ⟨w1.heap.size, 2, none⟩) (by simp; omega)
    have q3 := hb3.cell (p := ⟨w1.heap.size, 3, none⟩) (by simp; omega)
    have q4 := hb3.cell (p := ⟨w1.heap.size, 4, none⟩) (by simp; omega)
    have q5 := hb3.cell (p := ⟨w1.heap.size, 5, none⟩) (by simp; omega)
    have q6 := hb3.cell (p := ⟨w1.heap.size, 6, none⟩) (by simp; omega)
    have r0 := hb3.cell (p := ⟨w2.heap.size, 0, none⟩) (by simp)
    have r1 := hb3.cell (p := ⟨w2.heap.size, 1, none⟩) (by simp)
    have r2 := hb3.cell (p := ⟨w2.heap.size, 2, none⟩) (by simp)
    have r3 := hb3.cell (p := ⟨w2.heap.size, 3, none⟩) (by simp)
    have r4 := hb3.cell (p := ⟨w2.heap.size, 4, none⟩) (by simp)
    have r5 := hb3.cell (p := ⟨w2.heap.size, 5, none⟩) (by simp)
    have r6 := hb3.cell (p := ⟨w2.heap.size, 6, none⟩) (by simp)
    have l12 : w1.heap.size < w2.heap.size := by omega
    simp [go_sem, l12, p0, p1, p2, p3, p4, p5, p6] at q0 q1 q2 q3 q4 q5 q6 r0 r1 r2 r3 r4 r5 r6 hs3
    clear p0 p1 p2 p3 p4 p5 p6
    have l13 : w1.heap.size < w3.heap.size := by omega
    have l23 : w2.heap.size < w3.heap.size := by omega
    go_wp2_with fail
    refine (HD.out _).mono ?_
    rintro e w4 ⟨rfl, hb4⟩
    have hB4 : Below w.heap.size w w4 := hB3.trans (hb4.mono hB3.size)
    have s0 := hb4.cell (p := ⟨w1.heap.size, 0, none⟩) l13
    have s1 := hb4.cell (p := ⟨w1.heap.size, 1, none⟩) l13
    have s2 := hb4.cell (p := ⟨w1.heap.size, 2, none⟩) l13
    have s3 := hb4.cell (p := ⟨w1.heap.size, 3, none⟩) l13
    have s4 := hb4.cell (p := ⟨w1.heap.size, 4, none⟩) l13
    have s5 := hb4.cell (p := ⟨w1.heap.size, 5, none⟩) l13
    have s6 := hb4.cell (p := ⟨w1.heap.size, 6, none⟩) l13
    have t0 := hb4.cell (p := ⟨w2.heap.size, 0, none⟩) l23
    have t1 := hb4.cell (p := ⟨w2.heap.size, 1, none⟩) l23
    have t2 := hb4.cell (p := ⟨w2.heap.size, 2, none⟩) l23
    have t3 := hb4.cell (p := ⟨w2.heap.size, 3, none⟩) l23
    have t4 := hb4.cell (p := ⟨w2.heap.size, 4, none⟩) l23
    have t5 := hb4.cell (p := ⟨w2.heap.size, 5, none⟩) l23
    have t6 := hb4.cell (p := ⟨w2.heap.size, 6, none⟩) l23
    rw [q0] at s0; rw [q1] at s1; rw [q2] at s2; rw [q3] at s3; rw [q4] at s4; rw [q5] at s5; rw [q6] at s6
    rw [r0] at t0; rw [r1] at t1; rw [r2] at t2; rw [r3] at t3; rw [r4] at t4; rw [r5] at t5; rw [r6] at t6
    clear q0 q1 q2 q3 q4 q5 q6 r0 r1 r2 r3 r4 r5 r6
    go_wp2_with fail
    refine (first_any _ (HT.out.below hB4)).mono ?_
    rintro e w5 ⟨rfl, hb5⟩
    go_wp2_with fail
    go_ret
    exact ⟨rfl, hB4.trans (hb5.mono hB4.size)⟩
  · go_enter Tryz.func11, Tryz.ntmps11
    go_wp2_with fail
    refine (first_any _ HT.out).mono ?_
    rintro e w1 ⟨rfl, hb1⟩
    go_wp2_with fail
    go_ret
    exact ⟨rfl, hb1⟩
end Go.Proofs.YtmlpckeobbkeeaaGreatDoor
