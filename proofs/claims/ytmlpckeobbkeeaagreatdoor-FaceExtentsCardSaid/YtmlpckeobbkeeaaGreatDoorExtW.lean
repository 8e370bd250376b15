/-
  The walk of the law FaceExtents: it answers true. By an AI agent.
-/
import Derived.Test.YtmlpckeobbkeeaaGreatDoorFaceM
import Derived.Test.YtmlpckeobbkeeaaGreatDoorExt
namespace Go.Proofs.YtmlpckeobbkeeaaGreatDoor
open Go.RowKit

set_option maxRecDepth 100000 in
set_option maxHeartbeats 4000000 in
theorem faceExtents_any (sh sz h : Int) (a : Option Addr) (cap : Nat) (its : List It) (w : World) (hT : Tabs w) (hI : ItemsAt w a its) :
    Calls Tryz.prog 3 #[.agg #[.int .i64 sh, .int .i64 sz, .int .i64 h, .slice a its.length cap]] w fun e w' => e = .returned (.bool true) ∧ Below w.heap.size w w' := by
  have hsz := hT.letters.1
  have HT := Lib.hid hT
  have HL : Hid (∀ W, Below w.heap.size w W → Calls Tryz.prog 15 #[.agg #[.int .i64 sh, .int .i64 sz, .int .i64 h, .slice a its.length cap]] W fun e w' => e = .returned (.bool (longB its)) ∧ Below W.heap.size W w') := Lib.hid fun W hb => long_any sh sz h a cap its W (hI.below hb)
  have HR : Hid (∀ W, Below w.heap.size w W → Calls Tryz.prog 18 #[.agg #[.int .i64 sh, .int .i64 sz, .int .i64 h, .slice a its.length cap]] W fun e w' => e = .returned (.bool (faceB sh sz h its)) ∧ Below W.heap.size W w') := Lib.hid fun W hb => refValid_any sh sz h a cap its W (hI.below hb)
  have HV : Hid (∀ W, Below w.heap.size w W → Calls Tryz.prog 19 #[.agg #[.int .i64 sh, .int .i64 sz, .int .i64 h, .slice a its.length cap]] W fun e w' => e = .returned (.bool (faceB sh sz h its)) ∧ Below W.heap.size W w') := Lib.hid fun W hb => valid_any sh sz h a cap its W (hT.below hb).letters (hT.below hb).kinds (hI.below hb)
  have HE : Hid (∀ W, Below w.heap.size w W → Calls Tryz.prog 17 #[.agg #[.int .i64 sh, .int .i64 sz, .int .i64 h, .slice a its.length cap]] W fun e w' => e = .returned (if faceB sh sz h its then .tuple #[.int .i64 sz, .int .i64 (extH sh sz h), .int .i64 0] else .tuple #[.int .i64 0, .int .i64 0, .int .i64 10]) ∧ Below W.heap.size W w') := Lib.hid fun W hb => extent_any sh sz h a cap its W (hT.below hb) (hI.below hb)
  have HX : faceB sh sz h its = true → Hid (∀ W, Calls Tryz.prog 20 #[.agg #[.int .i64 sh, .int .i64 sz, .int .i64 h, .slice a its.length cap]] W fun e w' => e = .returned (.tuple #[.int .i64 sz, .int .i64 (extH sh sz h)]) ∧ Below W.heap.size W w') := fun hf => Lib.hid fun W => by
    obtain ⟨h0, h1, s0, s1, _⟩ := faceB_bd hf
    exact refExtent_any sh sz h _ W h0 h1 (by omega) (by omega)
  clear hT hI
  generalize longB its = lb at *
  generalize faceB sh sz h its = fb at *
  generalize extH sh sz h = eh at *
  generalize its.length = len at *
  cases lb
  · cases fb
    · rw [if_neg (by decide)] at HE
      clear HX
      go_enter Tryz.func3, Tryz.ntmps3
      go_wp2_with fail
      refine (HL.out _ ((Below.refl _ _).alloc (Nat.le_refl _) _)).mono ?_
      rintro e w1 ⟨rfl, hb1⟩
      have hs1 : w.heap.size + 1 ≤ w1.heap.size := by have := hb1.size; simpa using this
      have hB1 : Below w.heap.size w w1 := ((Below.refl _ _).alloc (Nat.le_refl _) _).trans (hb1.mono (by simp))
      have p0 := hb1.cell (p := ⟨w.heap.size, 0, none⟩) (by simp)
      have p1 := hb1.cell (p := ⟨w.heap.size, 1, none⟩) (by simp)
      have p2 := hb1.cell (p := ⟨w.heap.size, 2, none⟩) (by simp)
      have p3 := hb1.cell (p := ⟨w.heap.size, 3, none⟩) (by simp)
      simp [go_sem] at p0 p1 p2 p3
      go_wp2_with fail
      refine (HE.out _ hB1).mono ?_
      rintro e w2 ⟨rfl, hb2⟩
      have hs2 : w.heap.size + 1 ≤ w2.heap.size := Nat.le_trans hs1 hb2.size
      have hB2 : Below w.heap.size w w2 := hB1.trans (hb2.mono hB1.size)
      have q0 := (hb2.cell (p := ⟨w.heap.size, 0, none⟩) (by show w.heap.size < w1.heap.size; omega)).trans p0
      have q1 := (hb2.cell (p := ⟨w.heap.size, 1, none⟩) (by show w.heap.size < w1.heap.size; omega)).trans p1
      have q2 := (hb2.cell (p := ⟨w.heap.size, 2, none⟩) (by show w.heap.size < w1.heap.size; omega)).trans p2
      have q3 := (hb2.cell (p := ⟨w.heap.size, 3, none⟩) (by show w.heap.size < w1.heap.size; omega)).trans p3
      clear p0 p1 p2 p3
      go_wp2_with fail
      refine (HR.out _ hB2).mono ?_
      rintro e w3 ⟨rfl, hb3⟩
      have hs3 : w.heap.size + 1 ≤ w3.heap.size := Nat.le_trans hs2 hb3.size
      have hB3 : Below w.heap.size w w3 := hB2.trans (hb3.mono hB2.size)
      have r0 := (hb3.cell (p := ⟨w.heap.size, 0, none⟩) (by show w.heap.size < w2.heap.size; omega)).trans q0
      have r1 := (hb3.cell (p := ⟨w.heap.size, 1, none⟩) (by show w.heap.size < w2.heap.size; omega)).trans q1
      have r2 := (hb3.cell (p := ⟨w.heap.size, 2, none⟩) (by show w.heap.size < w2.heap.size; omega)).trans q2
      have r3 := (hb3.cell (p := ⟨w.heap.size, 3, none⟩) (by show w.heap.size < w2.heap.size; omega)).trans q3
      clear q0 q1 q2 q3
      go_wp2_with fail
      refine (HV.out _ hB3).mono ?_
      rintro e w4 ⟨rfl, hb4⟩
      have hB4 : Below w.heap.size w w4 := hB3.trans (hb4.mono hB3.size)
      go_wp2_with fail
      refine (first_any _ (HT.out.below hB4)).mono ?_
      rintro e w5 ⟨rfl, hb5⟩
      go_wp2_with fail
      go_ret
      exact ⟨rfl, hB4.trans (hb5.mono hB4.size)⟩
    · rw [if_pos rfl] at HE
      have HXX := HX rfl
      clear HX
      go_enter Tryz.func3, Tryz.ntmps3
      go_wp2_with fail
      refine (HL.out _ ((Below.refl _ _).alloc (Nat.le_refl _) _)).mono ?_
      rintro e w1 ⟨rfl, hb1⟩
      have hs1 : w.heap.size + 1 ≤ w1.heap.size := by have := hb1.size; simpa using this
      have hB1 : Below w.heap.size w w1 := ((Below.refl _ _).alloc (Nat.le_refl _) _).trans (hb1.mono (by simp))
      have p0 := hb1.cell (p := ⟨w.heap.size, 0, none⟩) (by simp)
      have p1 := hb1.cell (p := ⟨w.heap.size, 1, none⟩) (by simp)
      have p2 := hb1.cell (p := ⟨w.heap.size, 2, none⟩) (by simp)
      have p3 := hb1.cell (p := ⟨w.heap.size, 3, none⟩) (by simp)
      simp [go_sem] at p0 p1 p2 p3
      go_wp2_with fail
      refine (HE.out _ hB1).mono ?_
      rintro e w2 ⟨rfl, hb2⟩
      have hs2 : w.heap.size + 1 ≤ w2.heap.size := Nat.le_trans hs1 hb2.size
      have hB2 : Below w.heap.size w w2 := hB1.trans (hb2.mono hB1.size)
      have q0 := (hb2.cell (p := ⟨w.heap.size, 0, none⟩) (by show w.heap.size < w1.heap.size; omega)).trans p0
      have q1 := (hb2.cell (p := ⟨w.heap.size, 1, none⟩) (by show w.heap.size < w1.heap.size; omega)).trans p1
      have q2 := (hb2.cell (p := ⟨w.heap.size, 2, none⟩) (by show w.heap.size < w1.heap.size; omega)).trans p2
      have q3 := (hb2.cell (p := ⟨w.heap.size, 3, none⟩) (by show w.heap.size < w1.heap.size; omega)).trans p3
      clear p0 p1 p2 p3
      go_wp2_with fail
      refine (HR.out _ hB2).mono ?_
      rintro e w3 ⟨rfl, hb3⟩
      have hs3 : w.heap.size + 1 ≤ w3.heap.size := Nat.le_trans hs2 hb3.size
      have hB3 : Below w.heap.size w w3 := hB2.trans (hb3.mono hB2.size)
      have r0 := (hb3.cell (p := ⟨w.heap.size, 0, none⟩) (by show w.heap.size < w2.heap.size; omega)).trans q0
      have r1 := (hb3.cell (p := ⟨w.heap.size, 1, none⟩) (by show w.heap.size < w2.heap.size; omega)).trans q1
      have r2 := (hb3.cell (p := ⟨w.heap.size, 2, none⟩) (by show w.heap.size < w2.heap.size; omega)).trans q2
      have r3 := (hb3.cell (p := ⟨w.heap.size, 3, none⟩) (by show w.heap.size < w2.heap.size; omega)).trans q3
      clear q0 q1 q2 q3
      go_wp2_with fail
      refine (HXX.out _).mono ?_
      rintro e w4 ⟨rfl, hb4⟩
      have hs4 : w.heap.size + 1 ≤ w4.heap.size := Nat.le_trans hs3 hb4.size
      have hB4 : Below w.heap.size w w4 := hB3.trans (hb4.mono hB3.size)
      have s0 := (hb4.cell (p := ⟨w.heap.size, 0, none⟩) (by show w.heap.size < w3.heap.size; omega)).trans r0
      have s1 := (hb4.cell (p := ⟨w.heap.size, 1, none⟩) (by show w.heap.size < w3.heap.size; omega)).trans r1
      have s2 := (hb4.cell (p := ⟨w.heap.size, 2, none⟩) (by show w.heap.size < w3.heap.size; omega)).trans r2
      have s3 := (hb4.cell (p := ⟨w.heap.size, 3, none⟩) (by show w.heap.size < w3.heap.size; omega)).trans r3
      clear r0 r1 r2 r3
      go_wp2_with fail
      refine (HV.out _ hB4).mono ?_
      rintro e w5 ⟨rfl, hb5⟩
      have hB5 : Below w.heap.size w w5 := hB4.trans (hb5.mono hB4.size)
      go_wp2_with fail
      refine (first_any _ (HT.out.below hB5)).mono ?_
      rintro e w6 ⟨rfl, hb6⟩
      go_wp2_with fail
      go_ret
      exact ⟨rfl, hB5.trans (hb6.mono hB5.size)⟩
  · clear HX
    go_enter Tryz.func3, Tryz.ntmps3
    go_wp2_with fail
    refine (HL.out _ ((Below.refl _ _).alloc (Nat.le_refl _) _)).mono ?_
    rintro e w1 ⟨rfl, hb1⟩
    have hB1 : Below w.heap.size w w1 := ((Below.refl _ _).alloc (Nat.le_refl _) _).trans (hb1.mono (by simp))
    go_wp2_with fail
    refine (first_any _ (HT.out.below hB1)).mono ?_
    rintro e w2 ⟨rfl, hb2⟩
    go_wp2_with fail
    go_ret
    exact ⟨rfl, hB1.trans (hb2.mono hB1.size)⟩
end Go.Proofs.YtmlpckeobbkeeaaGreatDoor
