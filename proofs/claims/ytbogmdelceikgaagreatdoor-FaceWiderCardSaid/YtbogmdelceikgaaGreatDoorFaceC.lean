/-
  The walks of spells, spelt and both Lengths. By an AI agent.
-/
import Derived.Test.YtbogmdelceikgaaGreatDoorFaceB
import Derived.Laws.RangeString
import Derived.Laws.RangeAny
namespace Go.Proofs.YtbogmdelceikgaaGreatDoor
open Go.RowKit

/-- Is every byte a letter; is a text one of 1 to 24 letters. -/
def allLet (l : List UInt8) : Bool := l.all fun c => isLet (c.toNat : Int)
def spB (s : ByteArray) : Bool := allLet s.data.toList && btw s.size 1 24
theorem take_snoc (s : ByteArray) (k : Nat) (h : k < s.size) : s.data.toList.take (k + 1) = s.data.toList.take k ++ [s[k]] := by
  rw [List.take_succ_eq_append_getElem (by simpa using h)]; rfl
theorem allLet_snoc (s : ByteArray) (k : Nat) (h : k < s.size) (ha : allLet (s.data.toList.take k) = true) : allLet (s.data.toList.take (k + 1)) = isLet (s[k].toNat : Int) := by
  rw [take_snoc s k h]; unfold allLet at *; rw [List.all_append, ha]; simp
theorem allLet_take (l : List UInt8) (k : Nat) (h : allLet (l.take k) = false) : allLet l = false := by
  cases e : allLet l
  · rfl
  · unfold allLet at *
    rw [List.all_eq_true] at e
    have : (l.take k).all (fun c => isLet (c.toNat : Int)) = true := List.all_eq_true.2 fun x hx => e x (List.mem_of_mem_take hx)
    rw [this] at h; cases h
theorem allLet_all (s : ByteArray) (h : allLet (s.data.toList.take s.size) = true) : allLet s.data.toList = true := by
  rwa [List.take_of_length_le (by simp)] at h
theorem isLet_high (r : Int) (h : 128 ≤ r) : isLet r = false := by simp [isLet, btw]; omega

/-- What the range hands out at a place: a letter just where the byte there is one. -/
theorem rune_let (s : ByteArray) (pos : Nat) (h : pos < s.size) :
    isLet ((Utf8.decode s pos).1 : Int) = isLet (s[pos].toNat : Int) ∧ (isLet (s[pos].toNat : Int) = true → (Utf8.decode s pos).2 = 1) := by
  by_cases ha : (s[pos]'h).toNat < 128
  · rw [decode_ascii s pos h ha]; exact ⟨rfl, fun _ => rfl⟩
  · have hd := decode_high s pos h (by omega)
    have e1 := isLet_high ((Utf8.decode s pos).1 : Int) (by omega)
    have e2 := isLet_high ((s[pos]'h).toNat : Int) (by omega)
    exact ⟨by rw [e1, e2], fun h => by rw [e2] at h; cases h⟩

set_option maxRecDepth 100000 in
set_option maxHeartbeats 1000000 in
theorem spells_any (s : ByteArray) (w : World) (hL : LettersAt w) (_hs : s.size ≤ maxLen) :
    Calls Tryz.prog 16 #[.string s] w fun e w' => e = .returned (.bool (spB s)) ∧ Below w.heap.size w w' := by
  unfold maxLen at _hs
  by_cases hb : btw s.size 1 24 = true
  · have hlen := (btw_iff _ _ _).1 hb
    have e0 : spB s = allLet s.data.toList := by unfold spB; rw [hb]; simp
    rw [e0]
    have HB := Lib.hid hb
    clear hb e0
    go_enter Tryz.func16, Tryz.ntmps16
    go_wp2_with (go_at_call 10; refine (between_any _ _ _ _).mono ?_; rintro e w' ⟨rfl, rfl⟩; rw [HB.out])
    go_loopw [4, 5, 6] (fun _ _ _ wr => ∃ pos : Nat, pos ≤ s.size ∧ wr = w.iter s pos ∧ Hid (allLet (s.data.toList.take pos) = true)) (fun _ _ _ wr => s.size - wr.iterPos w.heap.size)
    case atStart => exact ⟨0, Nat.zero_le _, rfl, Lib.hid rfl⟩
    case round =>
      obtain ⟨pos, hpos, rfl, HA⟩ := hrel
      have hL' : LettersAt (w.iter s pos) := hL.below ((Below.refl _ _).alloc (Nat.le_refl _) _) hL.1
      by_cases hp : pos < s.size
      · have hnx : ∀ ty, (Instr.next (.pointer (some ⟨w.heap.size, 0, none⟩)) true ty).run Tryz.prog (w.iter s pos) = _ := fun ty => run_next_any w s pos ty hp
        obtain ⟨hr1, hr2⟩ := rune_let s pos hp
        have hr3 := decode_le s pos
        have hsn := allLet_snoc s pos hp HA.out
        have hL2 : LettersAt (w.iter s (pos + (Utf8.decode s pos).2)) := hL.below ((Below.refl _ _).alloc (Nat.le_refl _) _) hL.1
        have HC := Lib.hid (squaresOf_any ((Utf8.decode s pos).1 : Int) _ hL2 (by omega) (by omega))
        by_cases hl : isLet (s[pos].toNat : Int) = true
        · have hw := hr2 hl
          rw [hl] at hsn
          rw [hr1, hl] at HC
          have HS := Lib.hid hsn
          have HW := Lib.hid hw
          clear hr1 hr2 hsn hl hw hL2
          go_wp2_with (go_at_call 25; refine HC.out.mono ?_; rintro e w' ⟨rfl, rfl⟩)
          go_roundw
          case rel => exact ⟨pos + 1, by omega, by rw [HW.out], HS⟩
          case measure => rw [HW.out]; simp; omega
        · have hl' : isLet (s[pos].toNat : Int) = false := by simpa using hl
          rw [hl'] at hsn
          rw [hr1, hl'] at HC
          have HS := Lib.hid (allLet_take _ _ hsn)
          clear hr1 hr2 hsn hl hl' hL2
          go_wp2_with (go_at_call 25; refine HC.out.mono ?_; rintro e w' ⟨rfl, rfl⟩)
          go_ret
          rw [HS.out]
          exact ⟨rfl, (Below.refl _ _).alloc (Nat.le_refl _) _⟩
      · have hnx : ∀ ty, (Instr.next (.pointer (some ⟨w.heap.size, 0, none⟩)) true ty).run Tryz.prog (w.iter s pos) = _ := fun ty => run_next_end w s pos ty hp
        have e : pos = s.size := by omega
        have HE := Lib.hid (allLet_all s (by rw [← e]; exact HA.out))
        clear e
        go_wp2
        go_ret
        rw [HE.out]
        exact ⟨rfl, (Below.refl _ _).alloc (Nat.le_refl _) _⟩
  · have hb' : btw s.size 1 24 = false := by simpa using hb
    have e0 : spB s = false := by unfold spB; rw [hb']; simp
    rw [e0]
    have HB := Lib.hid hb'
    clear hb e0 hb'
    go_enter Tryz.func16, Tryz.ntmps16
    go_wp2_with (go_at_call 10; refine (between_any _ _ _ _).mono ?_; rintro e w' ⟨rfl, rfl⟩; rw [HB.out])
    go_ret
    exact ⟨rfl, Below.refl _ _⟩

set_option maxRecDepth 100000 in
set_option maxHeartbeats 1000000 in
theorem spelt_any (s : ByteArray) (w : World) (hs : s.size ≤ maxLen) :
    Calls Tryz.prog 24 #[.string s] w fun e w' => e = .returned (.bool (spB s)) ∧ Below w.heap.size w w' := by
  unfold maxLen at hs
  go_enter Tryz.func24, Tryz.ntmps24
  go_wp2_with fail
  go_loopw [3] (fun i wr => ∃ k : Nat, k ≤ s.size ∧ i = .int .i64 k ∧ Below w.heap.size w wr ∧ Hid (allLet (s.data.toList.take k) = true)) (fun i wr => s.size - (intOf i).toNat)
  case atStart => exact ⟨0, Nat.zero_le _, rfl, Below.refl _ _, Lib.hid rfl⟩
  case round =>
    obtain ⟨k, hk, rfl, hb, HA⟩ := hrel
    by_cases hlt : k < s.size
    · have hsn := allLet_snoc s k hlt HA.out
      by_cases hl : isLet (s[k].toNat : Int) = true
      · rw [hl] at hsn
        have HS := Lib.hid hsn
        have HL := Lib.hid hl
        clear hsn hl
        go_wp2_with (go_at_call 37; refine (refLetter_any _ _).mono ?_; rintro e w1 ⟨rfl, hb1⟩; rw [HL.out])
        go_roundw
        case rel => exact ⟨k + 1, by omega, by go_num, (hb.trans (hb1.mono hb.size)).alloc (Nat.le_trans hb.size hb1.size) _, HS⟩
        case measure => simp [intOf]; omega
      · have hl' : isLet (s[k].toNat : Int) = false := by simpa using hl
        rw [hl'] at hsn
        have HS := Lib.hid (allLet_take _ _ hsn)
        have HL := Lib.hid hl'
        clear hsn hl hl'
        have HF : Hid (spB s = false) := Lib.hid (by unfold spB; rw [HS.out]; rfl)
        go_wp2_with (go_at_call 37; refine (refLetter_any _ _).mono ?_; rintro e w1 ⟨rfl, hb1⟩; rw [HL.out])
        go_ret
        rw [HF.out]
        exact ⟨rfl, (hb.trans (hb1.mono hb.size)).alloc (Nat.le_trans hb.size hb1.size) _⟩
    · have e : k = s.size := by omega
      have HE : Hid (spB s = btw s.size 1 24) := Lib.hid (by unfold spB; rw [allLet_all s (by rw [← e]; exact HA.out)]; simp)
      clear e
      go_wp2_with (go_at_call 14; refine (within_any _ _ _ _).mono ?_; rintro e w' ⟨rfl, rfl⟩)
      go_ret
      rw [HE.out]
      exact ⟨rfl, hb⟩

/-- What Length returns. -/
def lenV (s : ByteArray) (u : Int) : Int := if btw u 1 200 && spB s then (6 * (s.size : Int) - 1) * u else 0
def lenE (s : ByteArray) (u : Int) : Int := if btw u 1 200 && spB s then 0 else 2
theorem spB_bd (s : ByteArray) (h : spB s = true) : 1 ≤ (s.size : Int) ∧ (s.size : Int) ≤ 24 := by
  unfold spB at h
  rw [Bool.and_eq_true] at h
  exact (btw_iff _ _ _).1 h.2

set_option maxRecDepth 100000 in
set_option maxHeartbeats 1000000 in
theorem length_any (s : ByteArray) (u : Int) (w : World) (hL : LettersAt w) (hs : s.size ≤ maxLen) :
    Calls Tryz.prog 7 #[.string s, .int .i64 u] w fun e w' => e = .returned (.tuple #[.int .i64 (lenV s u), .int .i64 (lenE s u)]) ∧ Below w.heap.size w w' := by
  by_cases hu : btw u 1 200 = true
  · obtain ⟨u0, u1⟩ := (btw_iff _ _ _).1 hu
    have HU := Lib.hid hu
    by_cases hp : spB s = true
    · obtain ⟨s0, s1⟩ := spB_bd s hp
      have e1 : lenV s u = (6 * (s.size : Int) - 1) * u := by unfold lenV; rw [hu, hp]; rfl
      have e2 : lenE s u = 0 := by unfold lenE; rw [hu, hp]; rfl
      have hm1 : (6 * (s.size : Int) - 1) * u ≤ 143 * 200 := Int.mul_le_mul (by omega) u1 (by omega) (by omega)
      have hm0 : 0 ≤ (6 * (s.size : Int) - 1) * u := Int.mul_nonneg (by omega) (by omega)
      rw [e1, e2]
      have hv : (6 * (s.size : Int) - 6 + 5) * u = (6 * (s.size : Int) - 1) * u := by rw [show 6 * (s.size : Int) - 6 + 5 = 6 * (s.size : Int) - 1 from by omega]
      have hm2 : (6 * (s.size : Int) - 6 + 5) * u ≤ 143 * 200 := by rw [hv]; exact hm1
      have hm3 : 0 ≤ (6 * (s.size : Int) - 6 + 5) * u := by rw [hv]; exact hm0
      have HP := Lib.hid hp
      have HV := Lib.hid hv
      clear e1 e2 hu hp hv hm1 hm0
      go_enter Tryz.func7, Tryz.ntmps7
      go_wp2_with (first | (go_at_call 10; refine (between_any _ _ _ _).mono ?_; rintro e w' ⟨rfl, rfl⟩; rw [HU.out]) | (go_at_call 16; refine (spells_any _ _ hL hs).mono ?_; rintro e w1 ⟨rfl, hb1⟩; rw [HP.out]))
      go_ret2
      refine ⟨?_, hb1⟩
      rw [← HV.out]
      rfl
    · have hp' : spB s = false := by simpa using hp
      have e1 : lenV s u = 0 := by unfold lenV; rw [hp']; simp
      have e2 : lenE s u = 2 := by unfold lenE; rw [hp']; simp
      rw [e1, e2]
      have HP := Lib.hid hp'
      clear e1 e2 hu hp hp'
      go_enter Tryz.func7, Tryz.ntmps7
      go_wp2_with (first | (go_at_call 10; refine (between_any _ _ _ _).mono ?_; rintro e w' ⟨rfl, rfl⟩; rw [HU.out]) | (go_at_call 16; refine (spells_any _ _ hL hs).mono ?_; rintro e w1 ⟨rfl, hb1⟩; rw [HP.out]))
      go_ret2
      exact ⟨rfl, hb1⟩
  · have hu' : btw u 1 200 = false := by simpa using hu
    have e1 : lenV s u = 0 := by unfold lenV; rw [hu']; simp
    have e2 : lenE s u = 2 := by unfold lenE; rw [hu']; simp
    rw [e1, e2]
    have HU := Lib.hid hu'
    clear e1 e2 hu hu'
    go_enter Tryz.func7, Tryz.ntmps7
    go_wp2_with (first | (go_at_call 10; refine (between_any _ _ _ _).mono ?_; rintro e w' ⟨rfl, rfl⟩; rw [HU.out]))
    go_ret2
    exact ⟨rfl, Below.refl _ _⟩

set_option maxRecDepth 100000 in
set_option maxHeartbeats 1000000 in
theorem refLength_any (s : ByteArray) (u : Int) (w : World) (hs : s.size ≤ maxLen) :
    Calls Tryz.prog 15 #[.string s, .int .i64 u] w fun e w' => e = .returned (.tuple #[.int .i64 (lenV s u), .int .i64 (lenE s u)]) ∧ Below w.heap.size w w' := by
  by_cases hu : btw u 1 200 = true
  · obtain ⟨u0, u1⟩ := (btw_iff _ _ _).1 hu
    have HU := Lib.hid hu
    by_cases hp : spB s = true
    · obtain ⟨s0, s1⟩ := spB_bd s hp
      have e1 : lenV s u = (6 * (s.size : Int) - 1) * u := by unfold lenV; rw [hu, hp]; rfl
      have e2 : lenE s u = 0 := by unfold lenE; rw [hu, hp]; rfl
      have hm1 : (6 * (s.size : Int) - 1) * u ≤ 143 * 200 := Int.mul_le_mul (by omega) u1 (by omega) (by omega)
      have hm0 : 0 ≤ (6 * (s.size : Int) - 1) * u := Int.mul_nonneg (by omega) (by omega)
      rw [e1, e2]
      have HP := Lib.hid hp
      clear e1 e2 hu hp
      go_enter Tryz.func15, Tryz.ntmps15
      go_wp2_with (first | (go_at_call 14; refine (within_any _ _ _ _).mono ?_; rintro e w' ⟨rfl, rfl⟩; rw [HU.out]) | (go_at_call 24; refine (spelt_any _ _ hs).mono ?_; rintro e w1 ⟨rfl, hb1⟩; rw [HP.out]))
      go_ret2
      exact ⟨rfl, hb1⟩
    · have hp' : spB s = false := by simpa using hp
      have e1 : lenV s u = 0 := by unfold lenV; rw [hp']; simp
      have e2 : lenE s u = 2 := by unfold lenE; rw [hp']; simp
      rw [e1, e2]
      have HP := Lib.hid hp'
      clear e1 e2 hu hp hp'
      go_enter Tryz.func15, Tryz.ntmps15
      go_wp2_with (first | (go_at_call 14; refine (within_any _ _ _ _).mono ?_; rintro e w' ⟨rfl, rfl⟩; rw [HU.out]) | (go_at_call 24; refine (spelt_any _ _ hs).mono ?_; rintro e w1 ⟨rfl, hb1⟩; rw [HP.out]))
      go_ret2
      exact ⟨rfl, hb1⟩
  · have hu' : btw u 1 200 = false := by simpa using hu
    have e1 : lenV s u = 0 := by unfold lenV; rw [hu']; simp
    have e2 : lenE s u = 2 := by unfold lenE; rw [hu']; simp
    rw [e1, e2]
    have HU := Lib.hid hu'
    clear e1 e2 hu hu'
    go_enter Tryz.func15, Tryz.ntmps15
    go_wp2_with (first | (go_at_call 14; refine (within_any _ _ _ _).mono ?_; rintro e w' ⟨rfl, rfl⟩; rw [HU.out]))
    go_ret2
    exact ⟨rfl, Below.refl _ _⟩
end Go.Proofs.YtbogmdelceikgaaGreatDoor
