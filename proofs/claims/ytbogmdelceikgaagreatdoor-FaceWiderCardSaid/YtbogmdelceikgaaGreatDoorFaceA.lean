/-
  The walks of the small functions of package face and of its reference: between, within, abs, squaresOf, squareRow, digit. By an AI agent.
-/
import Derived.Test.YtbogmdelceikgaaGreatDoorProg
import Derived.WalkKit
import Derived.WalkSpells
import Derived.WalkLawsBesides
import Derived.Handy
import Derived.Lib.Hide
import Derived.Laws.Bits64b
namespace Go.Proofs.YtbogmdelceikgaaGreatDoor
open Go.RowKit

/-- least ≤ n ≤ most, as a Bool. -/
def btw (n a b : Int) : Bool := decide (a ≤ n) && decide (n ≤ b)
theorem btw_iff (n a b : Int) : btw n a b = true ↔ a ≤ n ∧ n ≤ b := by simp [btw]
theorem btw_false (n a b : Int) : btw n a b = false ↔ ¬ (a ≤ n ∧ n ≤ b) := by rw [← btw_iff]; simp

set_option maxHeartbeats 400000 in
theorem between_any (n a b : Int) (w : World) :
    Calls Tryz.prog 10 #[.int .i64 n, .int .i64 a, .int .i64 b] w fun e w' => e = .returned (.bool (btw n a b)) ∧ w = w' := by
  by_cases h1 : a ≤ n
  · by_cases h2 : n ≤ b
    · have hb := (btw_iff n a b).2 ⟨h1, h2⟩
      rw [hb]
      go_enter Tryz.func10, Tryz.ntmps10
      go_wp2
      go_ret
      exact ⟨rfl, rfl⟩
    · have hb := (btw_false n a b).2 (fun h => h2 h.2)
      rw [hb]
      go_enter Tryz.func10, Tryz.ntmps10
      go_wp2
      go_ret
      exact ⟨rfl, rfl⟩
  · have hb := (btw_false n a b).2 (fun h => h1 h.1)
    rw [hb]
    go_enter Tryz.func10, Tryz.ntmps10
    go_wp2
    go_ret
    exact ⟨rfl, rfl⟩

set_option maxHeartbeats 400000 in
theorem within_any (n a b : Int) (w : World) :
    Calls Tryz.prog 14 #[.int .i64 n, .int .i64 a, .int .i64 b] w fun e w' => e = .returned (.bool (btw n a b)) ∧ w = w' := by
  by_cases h1 : a ≤ n
  · by_cases h2 : n ≤ b
    · have hb := (btw_iff n a b).2 ⟨h1, h2⟩
      rw [hb]
      go_enter Tryz.func14, Tryz.ntmps14
      go_wp2
      go_ret
      exact ⟨rfl, rfl⟩
    · have hb := (btw_false n a b).2 (fun h => h2 h.2)
      rw [hb]
      go_enter Tryz.func14, Tryz.ntmps14
      go_wp2
      go_ret
      exact ⟨rfl, rfl⟩
  · have hb := (btw_false n a b).2 (fun h => h1 h.1)
    rw [hb]
    go_enter Tryz.func14, Tryz.ntmps14
    go_wp2
    go_ret
    exact ⟨rfl, rfl⟩

set_option maxHeartbeats 400000 in
theorem digit_lo (c : UInt8) (w : World) (h : (c.toNat : Int) ≤ 57) (h0 : 48 ≤ (c.toNat : Int)) :
    Calls Tryz.prog 45 #[.int .u8 c.toNat] w fun e w' => e = .returned (.int .i64 ((c.toNat : Int) - 48)) ∧ w = w' := by
  go_enter Tryz.func45, Tryz.ntmps45
  go_wp2
  go_ret
  exact ⟨rfl, rfl⟩

/-- 31 as a mask takes the rest by 32. -/
theorem and31 (E : Int) (h0 : 0 ≤ E) (h1 : E ≤ 18446744073709551615) : bits BinOp.and IntKind.u64 E 31 = E % 32 := by
  obtain ⟨a, rfl⟩ := Int.eq_ofNat_of_zero_le h0
  have := bits_and_u64_nat a 31 (by omega) (by omega)
  rw [show ((31 : Int)) = ((31 : Nat) : Int) from rfl, this]
  have h := Nat.and_two_pow_sub_one_eq_mod a 5
  have e : (2 ^ 5 - 1 : Nat) = 31 := rfl
  rw [e] at h
  rw [h]
  rfl

/-- Row n (counted from below) of a letter's squares. -/
def sqRow (q : Int) (n : Nat) : Int := q / 2 ^ (8 * n) % 32
theorem sqRow_bd (q : Int) (n : Nat) : 0 ≤ sqRow q n ∧ sqRow q n < 32 := by unfold sqRow; omega

set_option maxHeartbeats 400000 in
theorem squareRow_any (q n : Int) (w : World) (h0 : 0 ≤ n) (h1 : n ≤ 6) (hq : 0 ≤ q) (hq2 : q ≤ 18446744073709551615) :
    Calls Tryz.prog 80 #[.int .u64 q, .int .i64 n] w fun e w' => e = .returned (.int .i64 (sqRow q n.toNat)) ∧ w = w' := by
  go_enter Tryz.func80, Tryz.ntmps80
  go_wp2
  go_ret
  refine ⟨?_, rfl⟩
  have e1 : (8 * n).toNat = 8 * n.toNat := by omega
  have e0 : 0 ≤ q / 2 ^ (8 * n.toNat) := Int.ediv_nonneg hq (by exact Int.pow_nonneg (by omega))
  have e2 : q / 2 ^ (8 * n.toNat) ≤ 18446744073709551615 := Int.le_trans (Int.ediv_le_self _ hq) hq2
  have hb := sqRow_bd q n.toNat
  show Ending.returned (.int .i64 (wrap64 (bits BinOp.and IntKind.u64 (q / 2 ^ (8 * n).toNat) 31))) = _
  rw [e1, and31 _ e0 e2]
  show Ending.returned (.int .i64 (wrap64 (sqRow q n.toNat))) = _
  rw [IntWalk.wrap64_in _ ⟨by omega, by omega⟩]

/-- The document's letters: what the table of package face holds. -/
def lets : List Int := [3959423329964302, 1139111293617166, 3959345700407327, 8727940514779406, 569590276882946, 8743445329940750, 1697715177197838, 8726832447227912, 3959414622064910, 3959414637789708, 3959414673314065, 8463014517870878, 3959410360586510, 7901163857973788, 8743385687920671, 8743385687920656, 3959410478092559, 4803839837409553, 3945064967701518, 1972532483854860, 4804952116695569, 4521260802379807, 4814851965784337, 4803874029506833, 3959414672396558, 8463014517805072, 3959414672658957, 8463014518067729, 4239785791127838, 8730139571782660, 4803839602528526, 4803839602526724, 4803839669900554, 4803809319194897, 4803839484232708, 8726832447229983]
theorem lets_bd (i : Nat) : 0 ≤ lets.getD i 0 ∧ lets.getD i 0 ≤ 18446744073709551615 := by
  by_cases h : i < 36
  · have : ∀ i, i < 36 → 0 ≤ lets.getD i 0 ∧ lets.getD i 0 ≤ 18446744073709551615 := by decide
    exact this i h
  · have e : lets.getD i 0 = 0 := by simp [List.getD, List.getElem?_eq_none (show lets.length ≤ i by show 36 ≤ i; omega)]
    omega

/-- The table of the letters lies in its variable. -/
def LettersAt (w : World) : Prop := 12 ≤ w.heap.size ∧ ∀ i, i < 36 → w.cell? ⟨1, i, none⟩ = some (.int .u64 (lets.getD i 0))
theorem LettersAt.below {w w' : World} {B : Nat} (h : LettersAt w) (hb : Below B w w') (hB : 12 ≤ B) : LettersAt w' :=
  ⟨Nat.le_trans h.1 hb.size, fun i hi => by rw [hb.cell (p := ⟨1, i, none⟩) (by show 1 < B; omega)]; exact h.2 i hi⟩

/-- Is r a letter; its squares. -/
def isLet (r : Int) : Bool := decide (r = 32) || btw r 48 57 || btw r 65 90
def sqOf (r : Int) : Int := if 48 ≤ r ∧ r ≤ 57 then lets.getD (r - 48).toNat 0 else if 65 ≤ r ∧ r ≤ 90 then lets.getD (r - 55).toNat 0 else 0
theorem sqOf_bd (r : Int) : 0 ≤ sqOf r ∧ sqOf r ≤ 18446744073709551615 := by
  unfold sqOf; split
  · exact lets_bd _
  · split
    · exact lets_bd _
    · omega

set_option maxHeartbeats 400000 in
theorem squaresOf_any (r : Int) (w : World) (hL : LettersAt w) (h0 : 0 ≤ r) (h1 : r ≤ 2147483647) :
    Calls Tryz.prog 25 #[.int .i32 r] w fun e w' => e = .returned (.tuple #[.int .u64 (sqOf r), .bool (isLet r)]) ∧ w = w' := by
  by_cases h32 : r = 32
  · subst h32
    go_enter Tryz.func25, Tryz.ntmps25
    go_wp2
    go_ret2
    exact ⟨rfl, rfl⟩
  · have hb32 : (r == 32) = false := by simpa using h32
    by_cases hd : 48 ≤ r ∧ r ≤ 57
    · obtain ⟨d0, d1⟩ := hd
      have hc := hL.2 (r - 48).toNat (by omega)
      have e1 : sqOf r = lets.getD (r - 48).toNat 0 := by unfold sqOf; rw [if_pos ⟨d0, d1⟩]
      have e2 : isLet r = true := by simp [isLet, btw]; omega
      rw [e1, e2]
      generalize lets.getD (r - 48).toNat 0 = q at *
      clear e1 e2 hL
      go_enter Tryz.func25, Tryz.ntmps25
      go_wp2
      go_ret2
      exact ⟨rfl, rfl⟩
    · by_cases hu : 65 ≤ r ∧ r ≤ 90
      · obtain ⟨u0, u1⟩ := hu
        have hn : ¬ r ≤ 57 := by omega
        have hc := hL.2 (r - 55).toNat (by omega)
        have e1 : sqOf r = lets.getD (r - 55).toNat 0 := by unfold sqOf; rw [if_neg hd, if_pos ⟨u0, u1⟩]
        have e2 : isLet r = true := by simp [isLet, btw]; omega
        rw [e1, e2]
        rw [show (r - 55).toNat = (10 + r - 65).toNat from by omega] at *
        generalize lets.getD (10 + r - 65).toNat 0 = q at *
        clear e1 e2 hL hd
        go_enter Tryz.func25, Tryz.ntmps25
        go_wp2
        go_ret2
        exact ⟨rfl, rfl⟩
      · have e1 : sqOf r = 0 := by unfold sqOf; rw [if_neg hd, if_neg hu]
        have e2 : isLet r = false := by simp [isLet, btw]; omega
        rw [e1, e2]
        clear e1 e2 hL
        by_cases a0 : 48 ≤ r
        · have a1 : ¬ r ≤ 57 := by omega
          clear hd
          by_cases a2 : 65 ≤ r
          · have a3 : ¬ r ≤ 90 := by omega
            clear hu
            go_enter Tryz.func25, Tryz.ntmps25
            go_wp2
            go_ret2
            exact ⟨rfl, rfl⟩
          · clear hu
            go_enter Tryz.func25, Tryz.ntmps25
            go_wp2
            go_ret2
            exact ⟨rfl, rfl⟩
        · have a2 : ¬ 65 ≤ r := by omega
          clear hd hu
          go_enter Tryz.func25, Tryz.ntmps25
          go_wp2
          go_ret2
          exact ⟨rfl, rfl⟩

end Go.Proofs.YtbogmdelceikgaaGreatDoor
