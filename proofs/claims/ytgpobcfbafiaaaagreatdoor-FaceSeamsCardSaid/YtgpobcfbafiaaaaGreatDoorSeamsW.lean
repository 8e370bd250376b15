/-
  The walk of the law FaceSeams: it answers true. By an AI agent.
-/
import Derived.Test.YtgpobcfbafiaaaaGreatDoorSeamsE
namespace Go.Proofs.YtgpobcfbafiaaaaGreatDoor
open Go.RowKit

set_option maxRecDepth 100000 in
set_option maxHeartbeats 4000000 in
theorem faceSeams_any (sh sz h wd : Int) (a : Option Addr) (cap : Nat) (its : List It) (w : World) (hT : Tabs w) (hI : ItemsAt w a its) :
    Calls Tryz.prog 13 #[.agg #[.int .i64 sh, .int .i64 sz, .int .i64 h, .slice a its.length cap], .int .i64 wd] w fun e w' => e = .returned (.bool true) ∧ Below w.heap.size w w' := by
  have HT := Lib.hid hT
  have HL : Hid (∀ W, Below w.heap.size w W → Calls Tryz.prog 15 #[.agg #[.int .i64 sh, .int .i64 sz, .int .i64 h, .slice a its.length cap]] W fun e w' => e = .returned (.bool (longB its)) ∧ Below W.heap.size W w') := Lib.hid fun W hb => long_any sh sz h a cap its W (hI.below hb)
  have HR : Hid (∀ W, Below w.heap.size w W → Calls Tryz.prog 18 #[.agg #[.int .i64 sh, .int .i64 sz, .int .i64 h, .slice a its.length cap]] W fun e w' => e = .returned (.bool (faceB sh sz h its)) ∧ Below W.heap.size W w') := Lib.hid fun W hb => refValid_any sh sz h a cap its W (hI.below hb)
  have HV : ∀ W, Below w.heap.size w W → Calls Tryz.prog 19 #[.agg #[.int .i64 sh, .int .i64 sz, .int .i64 h, .slice a its.length cap]] W fun e w' => e = .returned (.bool (faceB sh sz h its)) ∧ Below W.heap.size W w' := fun W hb => valid_any sh sz h a cap its W (hT.below hb).letters (hT.below hb).kinds (hI.below hb)
  have HS0 : Hid (faceB sh sz h its = false → ∀ W, Below w.heap.size w W → Calls Tryz.prog 50 #[.agg #[.int .i64 sh, .int .i64 sz, .int .i64 h, .slice a its.length cap], .int .i64 wd] W fun e w' => e = .returned (.tuple #[.slice none 0 0, .int .i64 10]) ∧ Below W.heap.size W w') := Lib.hid fun hf W hb => seams_face sh sz h wd _ W (Lib.hid fun W' hb' => by have := HV W' (hb.trans (hb'.mono hb.size)); rwa [hf] at this)
  have HS1 : Hid (faceB sh sz h its = true → btw wd 1 200 = false → ∀ W, Below w.heap.size w W → Calls Tryz.prog 50 #[.agg #[.int .i64 sh, .int .i64 sz, .int .i64 h, .slice a its.length cap], .int .i64 wd] W fun e w' => e = .returned (.tuple #[.slice none 0 0, .int .i64 2]) ∧ Below W.heap.size W w') := Lib.hid fun hf hw W hb => seams_arg sh sz h wd _ W (Lib.hid fun W' hb' => by have := HV W' (hb.trans (hb'.mono hb.size)); rwa [hf] at this) hw
  have HS2 : Hid (faceB sh sz h its = true → btw wd 1 200 = true → ∀ W, Below w.heap.size w W → Calls Tryz.prog 50 #[.agg #[.int .i64 sh, .int .i64 sz, .int .i64 h, .slice a its.length cap], .int .i64 wd] W (SeamsEnd W (seamsOf (forbB its) sz wd))) := Lib.hid fun hf hw W hb => seams_any sh sz h wd a cap its W (hT.below hb) (hI.below hb) hf hw
  have HM2 : Hid (faceB sh sz h its = true → btw wd 1 200 = true → ∀ W, Below w.heap.size w W → Calls Tryz.prog 51 #[.agg #[.int .i64 sh, .int .i64 sz, .int .i64 h, .slice a its.length cap], .int .i64 wd] W (SeamsEnd W (seamsOf (forbB its) sz wd))) := Lib.hid fun hf hw W hb => refSeams_any sh sz h wd a cap its W (hI.below hb) hf hw
  have HZ : Hid (∀ l, faceB sh sz h its = true → seamsOf (forbB its) sz wd = some l → l.length ≤ 100000) := Lib.hid fun l hf hl => by
    obtain ⟨_, _, s0, s1, _⟩ := faceB_bd hf
    exact seams_len _ _ _ _ (by omega) hl
  clear hT hI HV
  generalize longB its = lb at *
  generalize faceB sh sz h its = fb at *
  generalize seamsOf (forbB its) sz wd = so at *
  generalize its.length = len at *
  cases lb
  · cases fb
    · have HX := Lib.hid (HS0.out rfl)
      clear HS0 HS1 HS2 HM2 HZ
      go_enter Tryz.func13, Tryz.ntmps13
      go_wp2_with fail
      refine (HL.out _ ((Below.refl _ _).alloc (Nat.le_refl _) _)).mono ?_
      rintro e w1 ⟨rfl, hb1⟩
      have hs1 : w.heap.size + 1 ≤ w1.heap.size := by have := hb1.size; simpa using this
      have hB1 : Below w.heap.size w w1 := ((Below.refl _ _).alloc (Nat.le_refl _) _).trans (hb1.mono (by simp))
      have p0 := hb1.cell (p := ⟨w.heap.size, 0, none⟩) (by simp)
      have p1 := hb1.cell (p := ⟨w.heap.size, 1, none⟩) (by simp)
      have p2 := hb1.cell (p := ⟨w.heap.size, 2, none⟩) (by simp)
      have p3 := hb1.cell (p := ⟨w.heap.size, 3, none⟩) (by simp)
      simp [go_sem] at p0 p1 p2 p3
      go_wp2_with fail
      refine (HX.out _ hB1).mono ?_
      rintro e w2 ⟨rfl, hb2⟩
      have hs2 : w.heap.size + 1 ≤ w2.heap.size := Nat.le_trans hs1 hb2.size
      have hB2 : Below w.heap.size w w2 := hB1.trans (hb2.mono hB1.size)
      have p0 := (hb2.cell (p := ⟨w.heap.size, 0, none⟩) (by show w.heap.size < w1.heap.size; omega)).trans p0
      have p1 := (hb2.cell (p := ⟨w.heap.size, 1, none⟩) (by show w.heap.size < w1.heap.size; omega)).trans p1
      have p2 := (hb2.cell (p := ⟨w.heap.size, 2, none⟩) (by show w.heap.size < w1.heap.size; omega)).trans p2
      have p3 := (hb2.cell (p := ⟨w.heap.size, 3, none⟩) (by show w.heap.size < w1.heap.size; omega)).trans p3
      go_wp2_with fail
      refine (HR.out _ hB2).mono ?_
      rintro e w3 ⟨rfl, hb3⟩
      have hB3 : Below w.heap.size w w3 := hB2.trans (hb3.mono hB2.size)
      go_wp2_with fail
      refine (first_any _ (HT.out.below hB3)).mono ?_
      rintro e w9 ⟨rfl, hb9⟩
      go_wp2_with fail
      go_ret
      exact ⟨rfl, hB3.trans (hb9.mono hB3.size)⟩
    · by_cases hwd : btw wd 1 200 = true
      · have HX := Lib.hid (HS2.out rfl hwd)
        have HY := Lib.hid (HM2.out rfl hwd)
        clear HS0 HS1 HS2 HM2 hwd
        cases so with
        | none =>
          go_enter Tryz.func13, Tryz.ntmps13
          go_wp2_with fail
          refine (HL.out _ ((Below.refl _ _).alloc (Nat.le_refl _) _)).mono ?_
          rintro e w1 ⟨rfl, hb1⟩
          have hs1 : w.heap.size + 1 ≤ w1.heap.size := by have := hb1.size; simpa using this
          have hB1 : Below w.heap.size w w1 := ((Below.refl _ _).alloc (Nat.le_refl _) _).trans (hb1.mono (by simp))
          have p0 := hb1.cell (p := ⟨w.heap.size, 0, none⟩) (by simp)
          have p1 := hb1.cell (p := ⟨w.heap.size, 1, none⟩) (by simp)
          have p2 := hb1.cell (p := ⟨w.heap.size, 2, none⟩) (by simp)
          have p3 := hb1.cell (p := ⟨w.heap.size, 3, none⟩) (by simp)
          simp [go_sem] at p0 p1 p2 p3
          go_wp2_with fail
          refine (HX.out _ hB1).mono ?_
          rintro e w2 ⟨hb2, rfl⟩
          have hs2 : w.heap.size + 1 ≤ w2.heap.size := Nat.le_trans hs1 hb2.size
          have hB2 : Below w.heap.size w w2 := hB1.trans (hb2.mono hB1.size)
          have p0 := (hb2.cell (p := ⟨w.heap.size, 0, none⟩) (by show w.heap.size < w1.heap.size; omega)).trans p0
          have p1 := (hb2.cell (p := ⟨w.heap.size, 1, none⟩) (by show w.heap.size < w1.heap.size; omega)).trans p1
          have p2 := (hb2.cell (p := ⟨w.heap.size, 2, none⟩) (by show w.heap.size < w1.heap.size; omega)).trans p2
          have p3 := (hb2.cell (p := ⟨w.heap.size, 3, none⟩) (by show w.heap.size < w1.heap.size; omega)).trans p3
          go_wp2_with fail
          refine (HR.out _ hB2).mono ?_
          rintro e w3 ⟨rfl, hb3⟩
          have hs3 : w.heap.size + 1 ≤ w3.heap.size := Nat.le_trans hs2 hb3.size
          have hB3 : Below w.heap.size w w3 := hB2.trans (hb3.mono hB2.size)
          have p0 := (hb3.cell (p := ⟨w.heap.size, 0, none⟩) (by show w.heap.size < w2.heap.size; omega)).trans p0
          have p1 := (hb3.cell (p := ⟨w.heap.size, 1, none⟩) (by show w.heap.size < w2.heap.size; omega)).trans p1
          have p2 := (hb3.cell (p := ⟨w.heap.size, 2, none⟩) (by show w.heap.size < w2.heap.size; omega)).trans p2
          have p3 := (hb3.cell (p := ⟨w.heap.size, 3, none⟩) (by show w.heap.size < w2.heap.size; omega)).trans p3
          go_wp2_with fail
          refine (HY.out _ hB3).mono ?_
          rintro e w4 ⟨hb4, rfl⟩
          have hB4 : Below w.heap.size w w4 := hB3.trans (hb4.mono hB3.size)
          go_wp2_with fail
          refine (sameInts_eq _ _ [] _ ⟨none, 0, rfl, fun h => absurd rfl h⟩ ⟨none, 0, rfl, fun h => absurd rfl h⟩ (by decide)).mono ?_
          rintro e w5 ⟨rfl, hb5⟩
          have hB5 : Below w.heap.size w w5 := hB4.trans (hb5.mono hB4.size)
          go_wp2_with fail
          refine (first_any _ (HT.out.below hB5)).mono ?_
          rintro e w9 ⟨rfl, hb9⟩
          go_wp2_with fail
          go_ret
          exact ⟨rfl, hB5.trans (hb9.mono hB5.size)⟩
        | some l =>
          go_enter Tryz.func13, Tryz.ntmps13
          go_wp2_with fail
          refine (HL.out _ ((Below.refl _ _).alloc (Nat.le_refl _) _)).mono ?_
          rintro e w1 ⟨rfl, hb1⟩
          have hs1 : w.heap.size + 1 ≤ w1.heap.size := by have := hb1.size; simpa using this
          have hB1 : Below w.heap.size w w1 := ((Below.refl _ _).alloc (Nat.le_refl _) _).trans (hb1.mono (by simp))
          have p0 := hb1.cell (p := ⟨w.heap.size, 0, none⟩) (by simp)
          have p1 := hb1.cell (p := ⟨w.heap.size, 1, none⟩) (by simp)
          have p2 := hb1.cell (p := ⟨w.heap.size, 2, none⟩) (by simp)
          have p3 := hb1.cell (p := ⟨w.heap.size, 3, none⟩) (by simp)
          simp [go_sem] at p0 p1 p2 p3
          go_wp2_with fail
          refine (HX.out _ hB1).mono ?_
          rintro e w2 ⟨hb2, v1, rfl, ho1⟩
          have ho1 := ints_of ho1
          have hs2 : w.heap.size + 1 ≤ w2.heap.size := Nat.le_trans hs1 hb2.size
          have hB2 : Below w.heap.size w w2 := hB1.trans (hb2.mono hB1.size)
          have p0 := (hb2.cell (p := ⟨w.heap.size, 0, none⟩) (by show w.heap.size < w1.heap.size; omega)).trans p0
          have p1 := (hb2.cell (p := ⟨w.heap.size, 1, none⟩) (by show w.heap.size < w1.heap.size; omega)).trans p1
          have p2 := (hb2.cell (p := ⟨w.heap.size, 2, none⟩) (by show w.heap.size < w1.heap.size; omega)).trans p2
          have p3 := (hb2.cell (p := ⟨w.heap.size, 3, none⟩) (by show w.heap.size < w1.heap.size; omega)).trans p3
          go_wp2_with fail
          refine (HR.out _ hB2).mono ?_
          rintro e w3 ⟨rfl, hb3⟩
          have hs3 : w.heap.size + 1 ≤ w3.heap.size := Nat.le_trans hs2 hb3.size
          have hB3 : Below w.heap.size w w3 := hB2.trans (hb3.mono hB2.size)
          have p0 := (hb3.cell (p := ⟨w.heap.size, 0, none⟩) (by show w.heap.size < w2.heap.size; omega)).trans p0
          have p1 := (hb3.cell (p := ⟨w.heap.size, 1, none⟩) (by show w.heap.size < w2.heap.size; omega)).trans p1
          have p2 := (hb3.cell (p := ⟨w.heap.size, 2, none⟩) (by show w.heap.size < w2.heap.size; omega)).trans p2
          have p3 := (hb3.cell (p := ⟨w.heap.size, 3, none⟩) (by show w.heap.size < w2.heap.size; omega)).trans p3
          have ho1 := ho1.below hb3
          go_wp2_with fail
          refine (HY.out _ hB3).mono ?_
          rintro e w4 ⟨hb4, v2, rfl, ho2⟩
          have ho2 := ints_of ho2
          have ho1 := ho1.below hb4
          have hlen : l.length ≤ 100000 := HZ.out l (by first | rfl | trivial) (by first | rfl | trivial)
          have hB4 : Below w.heap.size w w4 := hB3.trans (hb4.mono hB3.size)
          go_wp2_with fail
          refine (sameInts_eq _ _ l _ ho1 ho2 hlen).mono ?_
          rintro e w5 ⟨rfl, hb5⟩
          have hB5 : Below w.heap.size w w5 := hB4.trans (hb5.mono hB4.size)
          go_wp2_with fail
          refine (first_any _ (HT.out.below hB5)).mono ?_
          rintro e w9 ⟨rfl, hb9⟩
          go_wp2_with fail
          go_ret
          exact ⟨rfl, hB5.trans (hb9.mono hB5.size)⟩
      · have hw2 : btw wd 1 200 = false := by simpa using hwd
        have HX := Lib.hid (HS1.out rfl hw2)
        have HY : Hid (∀ W, Calls Tryz.prog 51 #[.agg #[.int .i64 sh, .int .i64 sz, .int .i64 h, .slice a len cap], .int .i64 wd] W fun e w' => e = .returned (.tuple #[.slice none 0 0, .int .i64 2]) ∧ Below W.heap.size W w') := Lib.hid fun W => refSeams_arg sh sz h wd _ W hw2
        clear HS0 HS1 HS2 HM2 HZ hwd hw2
        go_enter Tryz.func13, Tryz.ntmps13
        go_wp2_with fail
        refine (HL.out _ ((Below.refl _ _).alloc (Nat.le_refl _) _)).mono ?_
        rintro e w1 ⟨rfl, hb1⟩
        have hs1 : w.heap.size + 1 ≤ w1.heap.size := by have := hb1.size; simpa using this
        have hB1 : Below w.heap.size w w1 := ((Below.refl _ _).alloc (Nat.le_refl _) _).trans (hb1.mono (by simp))
        have p0 := hb1.cell (p := ⟨w.heap.size, 0, none⟩) (by simp)
        have p1 := hb1.cell (p := ⟨w.heap.size, 1, none⟩) (by simp)
        have p2 := hb1.cell (p := ⟨w.heap.size, 2, none⟩) (by simp)
        have p3 := hb1.cell (p := ⟨w.heap.size, 3, none⟩) (by simp)
        simp [go_sem] at p0 p1 p2 p3
        go_wp2_with fail
        refine (HX.out _ hB1).mono ?_
        rintro e w2 ⟨rfl, hb2⟩
        have hs2 : w.heap.size + 1 ≤ w2.heap.size := Nat.le_trans hs1 hb2.size
        have hB2 : Below w.heap.size w w2 := hB1.trans (hb2.mono hB1.size)
        have p0 := (hb2.cell (p := ⟨w.heap.size, 0, none⟩) (by show w.heap.size < w1.heap.size; omega)).trans p0
        have p1 := (hb2.cell (p := ⟨w.heap.size, 1, none⟩) (by show w.heap.size < w1.heap.size; omega)).trans p1
        have p2 := (hb2.cell (p := ⟨w.heap.size, 2, none⟩) (by show w.heap.size < w1.heap.size; omega)).trans p2
        have p3 := (hb2.cell (p := ⟨w.heap.size, 3, none⟩) (by show w.heap.size < w1.heap.size; omega)).trans p3
        go_wp2_with fail
        refine (HR.out _ hB2).mono ?_
        rintro e w3 ⟨rfl, hb3⟩
        have hs3 : w.heap.size + 1 ≤ w3.heap.size := Nat.le_trans hs2 hb3.size
        have hB3 : Below w.heap.size w w3 := hB2.trans (hb3.mono hB2.size)
        have p0 := (hb3.cell (p := ⟨w.heap.size, 0, none⟩) (by show w.heap.size < w2.heap.size; omega)).trans p0
        have p1 := (hb3.cell (p := ⟨w.heap.size, 1, none⟩) (by show w.heap.size < w2.heap.size; omega)).trans p1
        have p2 := (hb3.cell (p := ⟨w.heap.size, 2, none⟩) (by show w.heap.size < w2.heap.size; omega)).trans p2
        have p3 := (hb3.cell (p := ⟨w.heap.size, 3, none⟩) (by show w.heap.size < w2.heap.size; omega)).trans p3
        go_wp2_with fail
        refine (HY.out _).mono ?_
        rintro e w4 ⟨rfl, hb4⟩
        have hB4 : Below w.heap.size w w4 := hB3.trans (hb4.mono hB3.size)
        go_wp2_with fail
        refine (sameInts_eq _ _ [] _ ⟨none, 0, rfl, fun h => absurd rfl h⟩ ⟨none, 0, rfl, fun h => absurd rfl h⟩ (by decide)).mono ?_
        rintro e w5 ⟨rfl, hb5⟩
        have hB5 : Below w.heap.size w w5 := hB4.trans (hb5.mono hB4.size)
        go_wp2_with fail
        refine (first_any _ (HT.out.below hB5)).mono ?_
        rintro e w9 ⟨rfl, hb9⟩
        go_wp2_with fail
        go_ret
        exact ⟨rfl, hB5.trans (hb9.mono hB5.size)⟩
  · clear HS0 HS1 HS2 HM2 HZ
    go_enter Tryz.func13, Tryz.ntmps13
    go_wp2_with fail
    refine (HL.out _ ((Below.refl _ _).alloc (Nat.le_refl _) _)).mono ?_
    rintro e w1 ⟨rfl, hb1⟩
    have hs1 : w.heap.size + 1 ≤ w1.heap.size := by have := hb1.size; simpa using this
    have hB1 : Below w.heap.size w w1 := ((Below.refl _ _).alloc (Nat.le_refl _) _).trans (hb1.mono (by simp))
    go_wp2_with fail
    refine (first_any _ (HT.out.below hB1)).mono ?_
    rintro e w9 ⟨rfl, hb9⟩
    go_wp2_with fail
    go_ret
    exact ⟨rfl, hB1.trans (hb9.mono hB1.size)⟩
end Go.Proofs.YtgpobcfbafiaaaaGreatDoor
