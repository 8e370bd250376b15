/-
  The walk of the reference's item: it answers itB. By an AI agent.
-/
import Derived.Test.YtgpobcfbafiaaabGreatDoorFaceD
import Derived.Deep.QuietTactic
import Derived.BigQuiet
namespace Go.Proofs.YtgpobcfbafiaaabGreatDoor
open Go.RowKit

theorem below_drewN' {B : Nat} {w w' : World} (h : Below B w w') (n : Nat) : Below B w (w'.drewN n) := below_drewN h n

set_option maxRecDepth 100000 in
set_option maxHeartbeats 4000000 in
theorem refItem_1 (c l o a b : Int) (t : ByteArray) (w : World) (Hc : Hid (btw c 1 8 = true)) :
    Calls Tryz.prog 28 #[.agg #[.int .i64 1, .int .i64 c, .int .i64 l, .int .i64 o, .int .i64 a, .int .i64 b, .string t]] w fun e w' => e = .returned (.bool (fv a false 1 && (fv b false 1 && (fv l false 0 && (fv o false 0 && t.toList.isEmpty))))) ∧ Below w.heap.size w w' := by
  go_enter Tryz.func28, Tryz.ntmps28
  go_wp2_with (go_at_call 27; refine (within_any _ _ _ _).mono ?_; rintro e w' ⟨rfl, rfl⟩; try rw [Hc.out])
  all_goals
    go_quiet ((go_at_call 27; exact Calls.quiet_of_same ((within_any _ _ _ _).mono fun e w' h => ⟨h.1, h.2.symm⟩)))
    go_wp2_with (first | fail)
  all_goals
    go_ret
    refine ⟨?_, ?_⟩
    · show Ending.returned (.bool _) = Ending.returned (.bool _)
      simp_all [fv]
    · exact below_drewN' ((Below.refl _ _).alloc (Nat.le_refl _) _) _

set_option maxRecDepth 100000 in
set_option maxHeartbeats 4000000 in
theorem refItem_2 (c l o a b : Int) (t : ByteArray) (w : World) (Hc : Hid (btw c 1 8 = true)) :
    Calls Tryz.prog 28 #[.agg #[.int .i64 2, .int .i64 c, .int .i64 l, .int .i64 o, .int .i64 a, .int .i64 b, .string t]] w fun e w' => e = .returned (.bool (fv a true 1 && (fv b false 1 && (fv l false 0 && (fv o false 0 && t.toList.isEmpty))))) ∧ Below w.heap.size w w' := by
  go_enter Tryz.func28, Tryz.ntmps28
  go_wp2_with (go_at_call 27; refine (within_any _ _ _ _).mono ?_; rintro e w' ⟨rfl, rfl⟩; try rw [Hc.out])
  all_goals
    go_quiet ((go_at_call 27; exact Calls.quiet_of_same ((within_any _ _ _ _).mono fun e w' h => ⟨h.1, h.2.symm⟩)))
    go_wp2_with (first | fail)
  all_goals
    go_ret
    refine ⟨?_, ?_⟩
    · show Ending.returned (.bool _) = Ending.returned (.bool _)
      simp_all [fv]
    · exact below_drewN' ((Below.refl _ _).alloc (Nat.le_refl _) _) _

set_option maxRecDepth 100000 in
set_option maxHeartbeats 4000000 in
theorem refItem_3 (c l o a b : Int) (t : ByteArray) (w : World) (Hc : Hid (btw c 1 8 = true)) :
    Calls Tryz.prog 28 #[.agg #[.int .i64 3, .int .i64 c, .int .i64 l, .int .i64 o, .int .i64 a, .int .i64 b, .string t]] w fun e w' => e = .returned (.bool (fv a true 1 && (fv b true 1 && (fv l true 0 && (fv o true 0 && t.toList.isEmpty))))) ∧ Below w.heap.size w w' := by
  go_enter Tryz.func28, Tryz.ntmps28
  go_wp2_with (go_at_call 27; refine (within_any _ _ _ _).mono ?_; rintro e w' ⟨rfl, rfl⟩; try rw [Hc.out])
  all_goals
    go_quiet ((go_at_call 27; exact Calls.quiet_of_same ((within_any _ _ _ _).mono fun e w' h => ⟨h.1, h.2.symm⟩)))
    go_wp2_with (first | fail)
  all_goals
    go_ret
    refine ⟨?_, ?_⟩
    · show Ending.returned (.bool _) = Ending.returned (.bool _)
      simp_all [fv]
    · exact below_drewN' ((Below.refl _ _).alloc (Nat.le_refl _) _) _

set_option maxRecDepth 100000 in
set_option maxHeartbeats 4000000 in
theorem refItem_4 (c l o a b : Int) (t : ByteArray) (w : World) (Hc : Hid (btw c 1 8 = true)) :
    Calls Tryz.prog 28 #[.agg #[.int .i64 4, .int .i64 c, .int .i64 l, .int .i64 o, .int .i64 a, .int .i64 b, .string t]] w fun e w' => e = .returned (.bool (fv a true 1 && (fv b false 1 && (fv l true 0 && (fv o true 0 && t.toList.isEmpty))))) ∧ Below w.heap.size w w' := by
  go_enter Tryz.func28, Tryz.ntmps28
  go_wp2_with (go_at_call 27; refine (within_any _ _ _ _).mono ?_; rintro e w' ⟨rfl, rfl⟩; try rw [Hc.out])
  all_goals
    go_quiet ((go_at_call 27; exact Calls.quiet_of_same ((within_any _ _ _ _).mono fun e w' h => ⟨h.1, h.2.symm⟩)))
    go_wp2_with (first | fail)
  all_goals
    go_ret
    refine ⟨?_, ?_⟩
    · show Ending.returned (.bool _) = Ending.returned (.bool _)
      simp_all [fv]
    · exact below_drewN' ((Below.refl _ _).alloc (Nat.le_refl _) _) _

set_option maxRecDepth 100000 in
set_option maxHeartbeats 4000000 in
theorem refItem_5 (c l o a b : Int) (t : ByteArray) (w : World) (Hc : Hid (btw c 1 8 = true)) :
    Calls Tryz.prog 28 #[.agg #[.int .i64 5, .int .i64 c, .int .i64 l, .int .i64 o, .int .i64 a, .int .i64 b, .string t]] w fun e w' => e = .returned (.bool (fv a true 1 && (fv b false 1 && (fv l false 0 && (fv o false 0 && t.toList.isEmpty))))) ∧ Below w.heap.size w w' := by
  go_enter Tryz.func28, Tryz.ntmps28
  go_wp2_with (go_at_call 27; refine (within_any _ _ _ _).mono ?_; rintro e w' ⟨rfl, rfl⟩; try rw [Hc.out])
  all_goals
    go_quiet ((go_at_call 27; exact Calls.quiet_of_same ((within_any _ _ _ _).mono fun e w' h => ⟨h.1, h.2.symm⟩)))
    go_wp2_with (first | fail)
  all_goals
    go_ret
    refine ⟨?_, ?_⟩
    · show Ending.returned (.bool _) = Ending.returned (.bool _)
      simp_all [fv]
    · exact below_drewN' ((Below.refl _ _).alloc (Nat.le_refl _) _) _

set_option maxRecDepth 100000 in
set_option maxHeartbeats 4000000 in
theorem refItem_6 (c l o a b : Int) (t : ByteArray) (w : World) (ht : t.size ≤ maxLen) (Hc : Hid (btw c 1 8 = true)) :
    Calls Tryz.prog 28 #[.agg #[.int .i64 6, .int .i64 c, .int .i64 l, .int .i64 o, .int .i64 a, .int .i64 b, .string t]] w fun e w' => e = .returned (.bool (fv a true 1 && (fv b false 1 && (fv l true 0 && (fv o true 0 && spB t))))) ∧ Below w.heap.size w w' := by
  go_enter Tryz.func28, Tryz.ntmps28
  go_wp2_with (go_at_call 27; refine (within_any _ _ _ _).mono ?_; rintro e w' ⟨rfl, rfl⟩; try rw [Hc.out])
  all_goals
    go_quiet ((go_at_call 27; exact Calls.quiet_of_same ((within_any _ _ _ _).mono fun e w' h => ⟨h.1, h.2.symm⟩)))
    go_wp2_with (first | fail | (go_at_call 44; refine (spelt_any _ _ ht).mono ?_; rintro e w1 ⟨rfl, hb1⟩))
  all_goals
    go_ret
    refine ⟨?_, ?_⟩
    · show Ending.returned (.bool _) = Ending.returned (.bool _)
      simp_all [fv]
    · first | exact below_drewN' ((Below.refl _ _).alloc (Nat.le_refl _) _) _ | exact (below_drewN' ((Below.refl _ _).alloc (Nat.le_refl _) _) _).trans (hb1.mono (by simp))

set_option maxRecDepth 100000 in
set_option maxHeartbeats 4000000 in
theorem refItem_any (k c l o a b : Int) (t : ByteArray) (w : World) (ht : t.size ≤ maxLen) :
    Calls Tryz.prog 28 #[.agg #[.int .i64 k, .int .i64 c, .int .i64 l, .int .i64 o, .int .i64 a, .int .i64 b, .string t]] w fun e w' => e = .returned (.bool (itB k c l o a b t)) ∧ Below w.heap.size w w' := by
  by_cases hc : btw c 1 8 = true
  · by_cases hk : btw k 1 6 = true
    · obtain ⟨k0, k1⟩ := (btw_iff _ _ _).1 hk
      obtain ⟨n, rfl⟩ := Int.eq_ofNat_of_zero_le (show 0 ≤ k by omega)
      have e0 : itB n c l o a b t = (fv a (decide (0 < kSizes.getD n 0)) 1 && (fv b (decide (1 < kSizes.getD n 0)) 1 && (fv l (kPlaces.getD n false) 0 && (fv o (kPlaces.getD n false) 0 && (if kTexts.getD n false then spB t else t.toList.isEmpty))))) := by
        unfold itB; rw [hk, hc, Int.toNat_natCast]; simp only [Bool.true_and]
      rw [e0]
      have hn : n = 1 ∨ n = 2 ∨ n = 3 ∨ n = 4 ∨ n = 5 ∨ n = 6 := by omega
      rcases hn with rfl | rfl | rfl | rfl | rfl | rfl
      · exact refItem_1 c l o a b t w (Lib.hid hc)
      · exact refItem_2 c l o a b t w (Lib.hid hc)
      · exact refItem_3 c l o a b t w (Lib.hid hc)
      · exact refItem_4 c l o a b t w (Lib.hid hc)
      · exact refItem_5 c l o a b t w (Lib.hid hc)
      · exact refItem_6 c l o a b t w ht (Lib.hid hc)
    · have hk' : btw k 1 6 = false := by simpa using hk
      have hn := (btw_false _ _ _).1 hk'
      have e0 : itB k c l o a b t = false := by unfold itB; rw [hk']; rfl
      rw [e0]
      have Hc := Lib.hid hc
      have n1 : (k == 1) = false := by simp; omega
      have n2 : (k == 2) = false := by simp; omega
      have n3 : (k == 3) = false := by simp; omega
      have n4 : (k == 4) = false := by simp; omega
      have n5 : (k == 5) = false := by simp; omega
      have n6 : (k == 6) = false := by simp; omega
      clear hk hc hk' e0 hn
      go_enter Tryz.func28, Tryz.ntmps28
      go_wp2_with (go_at_call 27; refine (within_any _ _ _ _).mono ?_; rintro e w' ⟨rfl, rfl⟩; try rw [Hc.out])
      all_goals
        go_quiet ((go_at_call 27; exact Calls.quiet_of_same ((within_any _ _ _ _).mono fun e w' h => ⟨h.1, h.2.symm⟩)))
        go_wp2_with fail
      all_goals
        go_ret
        exact ⟨rfl, below_drewN' ((Below.refl _ _).alloc (Nat.le_refl _) _) _⟩
  · have hc' : btw c 1 8 = false := by simpa using hc
    have e0 : itB k c l o a b t = false := by unfold itB; rw [hc']; simp
    rw [e0]
    have Hc := Lib.hid hc'
    clear hc hc' e0
    go_enter Tryz.func28, Tryz.ntmps28
    go_wp2_with (go_at_call 27; refine (within_any _ _ _ _).mono ?_; rintro e w' ⟨rfl, rfl⟩; rw [Hc.out])
    go_ret
    refine ⟨rfl, ?_⟩
    go_grown
end Go.Proofs.YtgpobcfbafiaaabGreatDoor
