/-
  The walk of At at the chapter's first example. By an AI agent.
-/
import Derived.Test.YtbogmdelceikgaaGreatDoorFaceH
namespace Go.Proofs.YtbogmdelceikgaaGreatDoor
open Go.RowKit

set_option maxRecDepth 100000 in
set_option maxHeartbeats 4000000 in
theorem figureOf_round (s h : Int) (v : Value) (w : World) :
    Calls Tryz.prog 35 #[.agg #[.int .i64 1, .int .i64 s, .int .i64 h, v]] w fun e w' => e = .returned (.iface 90 (.agg #[.int .i64 s])) ∧ Below w.heap.size w w' := by
  go_enter Tryz.func35, Tryz.ntmps35
  go_wp2
  go_ret
  exact ⟨rfl, by go_grown⟩

set_option maxRecDepth 100000 in
set_option maxHeartbeats 4000000 in
theorem canvasOf_ex (blk off cap : Nat) (w : World) :
    Calls Tryz.prog 21 #[.agg #[.int .i64 1, .int .i64 60, .int .i64 0, .slice (some ⟨blk, off, none⟩) 2 cap]] w fun e w' => e = .returned (exCanvas blk off cap) ∧ Below w.heap.size w w' := by
  go_enter Tryz.func21, Tryz.ntmps21
  go_wp2_with fail
  refine (figureOf_round _ _ _ _).mono ?_
  rintro e w1 ⟨rfl, hb1⟩
  have hbs := hb1.size
  have c0 := hb1.cell (p := ⟨w.heap.size, 3, none⟩) (by simp <;> omega)
  have z0 := fun o => hb1.cell (p := ⟨w.heap.size + 1, o, none⟩) (by simp <;> omega)
  have y0 := fun o => hb1.frozen (p := ⟨w.heap.size + 1, o, none⟩) (by simp <;> omega)
  simp [go_sem] at c0 hbs
  have hB1 : Below w.heap.size w w1 := (((Below.refl _ _).alloc (Nat.le_refl _) _).alloc (by simp) _).trans (hb1.mono (by simp <;> omega))
  go_wp2_with fail
  refine (round_extent _ _).mono ?_
  rintro e w2 ⟨rfl, hb2⟩
  have c1 := hb2.cell (p := ⟨w.heap.size, 3, none⟩) (by show w.heap.size < w1.heap.size; omega)
  rw [c0] at c1
  have x0 := hb2.cell (p := ⟨w.heap.size + 1, 0, none⟩) (by show w.heap.size + 1 < w1.heap.size; omega)
  have x1 := hb2.cell (p := ⟨w.heap.size + 1, 1, none⟩) (by show w.heap.size + 1 < w1.heap.size; omega)
  have x2 := hb2.cell (p := ⟨w.heap.size + 1, 2, none⟩) (by show w.heap.size + 1 < w1.heap.size; omega)
  have x3 := hb2.cell (p := ⟨w.heap.size + 1, 3, none⟩) (by show w.heap.size + 1 < w1.heap.size; omega)
  have u0 := hb2.frozen (p := ⟨w.heap.size + 1, 0, none⟩) (by show w.heap.size + 1 < w1.heap.size; omega)
  have u1 := hb2.frozen (p := ⟨w.heap.size + 1, 1, none⟩) (by show w.heap.size + 1 < w1.heap.size; omega)
  have u2 := hb2.frozen (p := ⟨w.heap.size + 1, 2, none⟩) (by show w.heap.size + 1 < w1.heap.size; omega)
  have u3 := hb2.frozen (p := ⟨w.heap.size + 1, 3, none⟩) (by show w.heap.size + 1 < w1.heap.size; omega)
  rw [z0] at x0 x1 x2 x3
  rw [y0] at u0 u1 u2 u3
  simp [go_sem] at x0 x1 x2 x3 u0 u1 u2 u3
  clear z0 y0
  have hB2 : Below w.heap.size w w2 := hB1.trans (hb2.mono (by omega))
  have hS2 : w.heap.size + 2 ≤ w2.heap.size := Nat.le_trans (by omega) hb2.size
  go_wp2_with fail
  refine bodyPost_ret (v := exCanvas blk off cap) (by simp [results, Tryz.results21, go_sem, x0, x1, x2, x3]) rfl ⟨rfl, ?_⟩
  exact ((((hB2.setCell (by simp) _).setCell (by simp) _).setCell (by simp) _).setCell (by simp) _)

set_option maxRecDepth 100000 in
set_option maxHeartbeats 4000000 in
theorem colour_ex (blk off cap : Nat) (i : Int) (w : World) (i0 : 0 ≤ i) (i1 : i < 60) (b : Bool) (hw : rndB 60 (2 * i + 1 - 60) 1 0 = true) (hr : rndB 60 (2 * i + 1 - 60) 1 8 = b)
    (h0 : ItemAt w blk off ⟨1, 1, 0, 0, 0, 0, ByteArray.empty⟩) (h1 : ItemAt w blk (off + 7) ⟨2, 4, 0, 0, 8, 0, ByteArray.empty⟩) :
    Calls Tryz.prog 23 #[exCanvas blk off cap, .int .i64 i, .int .i64 30] w fun e w' => e = .returned (.int .i64 (if b then 1 else 4)) ∧ Below w.heap.size w w' := by
  have HB : ∀ W, Below w.heap.size w W → Hid (Calls Tryz.prog 36 #[exCanvas blk off cap, .int .i64 i, .int .i64 30] W fun e w' => e = .returned (.int .i64 (if b then 0 else 1)) ∧ Below W.heap.size W w') := fun W hb => Lib.hid (top_ex blk off cap i W i0 i1 b hw hr (h0.below hb) (h1.below hb))
  have H := HB (w.alloc (.cells #[.iface 90 (.agg #[.int .i64 60]), .int .i64 60, .int .i64 60, .slice (some ⟨blk, off, none⟩) 2 cap] 54)) ((Below.refl _ _).alloc (Nat.le_refl _) _)
  have H0 := Lib.hid h0
  have H1 := Lib.hid h1
  clear HB hw hr h0 h1
  go_enter Tryz.func23, Tryz.ntmps23
  go_wp2_with fail
  refine H.out.mono ?_
  rintro e w1 ⟨rfl, hb1⟩
  have c3 := hb1.cell (p := ⟨w.heap.size, 3, none⟩) (by simp)
  simp [go_sem] at c3
  have hB1 : Below w.heap.size w w1 := ((Below.refl _ _).alloc (Nat.le_refl _) _).trans (hb1.mono (by simp))
  cases b
  · obtain ⟨i0', i1', i2', i3', i4', i5', i6'⟩ := H1.out.below hB1
    go_wp2_with fail
    go_ret
    exact ⟨rfl, hB1⟩
  · obtain ⟨i0', i1', i2', i3', i4', i5', i6'⟩ := H0.out.below hB1
    go_wp2_with fail
    go_ret
    exact ⟨rfl, hB1⟩

set_option maxRecDepth 100000 in
set_option maxHeartbeats 4000000 in
theorem has_any (f v : Value) (a b i j : Int) (w : World) (a0 : 0 ≤ a) (a1 : a ≤ 200) (b0 : 0 ≤ b) (b1 : b ≤ 200) :
    Calls Tryz.prog 22 #[.agg #[f, .int .i64 a, .int .i64 b, v], .int .i64 i, .int .i64 j] w fun e w' => e = .returned (.bool (btw i 0 (a - 1) && btw j 0 (b - 1))) ∧ Below w.heap.size w w' := by
  by_cases h : btw i 0 (a - 1) = true
  · rw [h]
    have H := Lib.hid h
    clear h
    go_enter Tryz.func22, Tryz.ntmps22
    go_wp2_with (first | (go_at_call 10; refine (between_any _ _ _ _).mono ?_; rintro e w' ⟨rfl, rfl⟩; try rw [H.out]))
    go_ret
    exact ⟨by rw [Bool.true_and]; rfl, by go_grown⟩
  · have h' : btw i 0 (a - 1) = false := by simpa using h
    rw [h']
    have H := Lib.hid h'
    clear h h'
    go_enter Tryz.func22, Tryz.ntmps22
    go_wp2_with (first | (go_at_call 10; refine (between_any _ _ _ _).mono ?_; rintro e w' ⟨rfl, rfl⟩; try rw [H.out]))
    go_ret
    exact ⟨rfl, by go_grown⟩

theorem faceB_ex : faceB 1 60 0 exIts = true := by first | decide +kernel | simp [faceB, exIts, It.ok, itB, fv, btw, kSizes, kPlaces, kTexts]

set_option maxRecDepth 100000 in
set_option maxHeartbeats 4000000 in
theorem at_ex (blk off cap : Nat) (i : Int) (w : World) (hL : LettersAt w) (hK : KindsAt w) (i0 : 0 ≤ i) (i1 : i < 60) (b : Bool) (hw : rndB 60 (2 * i + 1 - 60) 1 0 = true) (hr : rndB 60 (2 * i + 1 - 60) 1 8 = b)
    (h0 : ItemAt w blk off ⟨1, 1, 0, 0, 0, 0, ByteArray.empty⟩) (h1 : ItemAt w blk (off + 7) ⟨2, 4, 0, 0, 8, 0, ByteArray.empty⟩) :
    Calls Tryz.prog 9 #[.agg #[.int .i64 1, .int .i64 60, .int .i64 0, .slice (some ⟨blk, off, none⟩) 2 cap], .int .i64 i, .int .i64 30] w fun e w' => e = .returned (.tuple #[.int .i64 (if b then 1 else 4), .int .i64 0]) ∧ Below w.heap.size w w' := by
  have hI : ItemsAt w (some ⟨blk, off, none⟩) exIts := ⟨by decide, by decide, blk, off, fun _ => rfl, fun k hk => by
    have : k = 0 ∨ k = 1 := by have : k < 2 := hk; omega
    rcases this with rfl | rfl
    · exact h0
    · exact h1⟩
  have hV : ∀ W, Below w.heap.size w W → Hid (Calls Tryz.prog 20 #[.agg #[.int .i64 1, .int .i64 60, .int .i64 0, .slice (some ⟨blk, off, none⟩) 2 cap]] W fun e w' => e = .returned (.bool true) ∧ Below W.heap.size W w') := fun W hb => Lib.hid (by
    have := valid_any 1 60 0 (some ⟨blk, off, none⟩) cap exIts W (hL.below hb hL.1) (hK.below hb hL.1) (hI.below hb)
    rw [faceB_ex] at this
    exact this)
  have hC : ∀ W, Below w.heap.size w W → Hid (Calls Tryz.prog 23 #[exCanvas blk off cap, .int .i64 i, .int .i64 30] W fun e w' => e = .returned (.int .i64 (if b then 1 else 4)) ∧ Below W.heap.size W w') := fun W hb => Lib.hid (colour_ex blk off cap i W i0 i1 b hw hr (h0.below hb) (h1.below hb))
  have HV := hV (w.alloc (.cells #[.int .i64 1, .int .i64 60, .int .i64 0, .slice (some ⟨blk, off, none⟩) 2 cap] 28)) ((Below.refl _ _).alloc (Nat.le_refl _) _)
  have hb60 : btw i 0 59 = true := (btw_iff _ _ _).2 ⟨i0, by omega⟩
  have H60 := Lib.hid hb60
  have HC := Lib.hid hC
  clear hw hr h0 h1 hV hI hC hb60
  go_enter Tryz.func9, Tryz.ntmps9
  go_wp2_with fail
  refine HV.out.mono ?_
  rintro e w1 ⟨rfl, hb1⟩
  have hbs := hb1.size
  have hB1 : Below w.heap.size w w1 := ((Below.refl _ _).alloc (Nat.le_refl _) _).trans (hb1.mono (by simp))
  have c0 := hb1.cell (p := ⟨w.heap.size, 0, none⟩) (by simp)
  have c1 := hb1.cell (p := ⟨w.heap.size, 1, none⟩) (by simp)
  have c2 := hb1.cell (p := ⟨w.heap.size, 2, none⟩) (by simp)
  have c3 := hb1.cell (p := ⟨w.heap.size, 3, none⟩) (by simp)
  simp [go_sem] at c0 c1 c2 c3 hbs
  go_wp2_with fail
  refine (canvasOf_ex _ _ _ _).mono ?_
  rintro e w2 ⟨rfl, hb2⟩
  have hB2 : Below w.heap.size w w2 := hB1.trans (hb2.mono (by omega))
  clear c0 c1 c2 c3
  have H30 : Hid (btw 30 0 59 = true) := Lib.hid (by decide)
  go_wp2_with fail
  refine (has_any _ _ _ _ _ _ _ (by omega) (by omega) (by omega) (by omega)).mono ?_
  rintro e w3 ⟨rfl, hb3⟩
  rw [show ((60 : Int) - 1) = 59 from rfl, H60.out, H30.out, Bool.and_self]
  have z0 := fun o => hb3.cell (p := ⟨w2.heap.size, o, none⟩) (by simp)
  have z1 := z0 0
  have z2 := z0 1
  have z3 := z0 2
  have z4 := z0 3
  simp [go_sem] at z1 z2 z3 z4
  clear z0
  have hB3 : Below w.heap.size w w3 := (hB2.alloc hB2.size _).trans (hb3.mono (by have := hB2.size; simp <;> omega))
  have HC3 := HC.out w3 hB3
  clear HC
  go_wp2_with fail
  refine HC3.out.mono ?_
  rintro e w4 ⟨rfl, hb4⟩
  go_wp2_with fail
  all_goals
    go_ret2
    exact ⟨rfl, hB3.trans (hb4.mono hB3.size)⟩
end Go.Proofs.YtbogmdelceikgaaGreatDoor
