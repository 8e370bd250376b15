/-
  The walk of the reference's Letter. By an AI agent.
-/
import Derived.Test.YtbogmdelceikgaaGreatDoorFaceA
import Derived.Deep.RegionWith
import Derived.Deep.DeepCutAuto
import Derived.StillTailTactics
namespace Go.Proofs.YtbogmdelceikgaaGreatDoor
open Go.RowKit

/-- A region whose last operation alone writes: the ones ahead of it are walked in a world that bears a name. -/
theorem region_tail {P : Program} {id : Nat} {Q : Exit → Act → World → Prop} {a : Act} {w : World} {l : List Oper} (n : Nat) (hm : P.follows .mixedOrders = true) (hB : Region.lexTailB .any l.toArray n = true)
    (h : ∀ W1, Hid (w.drew = W1) → wpStill P l.toArray W1 (fun a' => wpList P l.toArray Q (l.drop n) a' W1) (l.take n) a) : (Code.region id l.toArray true).wp P Q a w :=
  wp_region_still_tail n hm hB (h w.drew (Lib.hid rfl))

/-- What a hexadecimal digit is worth (a byte). -/
def hexv (c : Int) : Int := if c ≤ 57 then c - 48 else c - 55

set_option maxHeartbeats 400000 in
theorem digit_any (c : Int) (w : World) (h0 : 48 ≤ c) (h : c ≤ 57 ∨ 65 ≤ c) (h1 : c ≤ 255) :
    Calls Tryz.prog 45 #[.int .u8 c] w fun e w' => e = .returned (.int .i64 (hexv c)) ∧ w = w' := by
  by_cases h9 : c ≤ 57
  · have e : hexv c = c - 48 := by unfold hexv; rw [if_pos h9]
    rw [e]
    clear e h
    go_enter Tryz.func45, Tryz.ntmps45
    go_wp2
    go_ret
    exact ⟨rfl, rfl⟩
  · have e : hexv c = c - 65 + 10 := by unfold hexv; rw [if_neg h9]; omega
    rw [e]
    have h65 : 65 ≤ c := by omega
    clear e h
    go_enter Tryz.func45, Tryz.ntmps45
    go_wp2
    go_ret
    exact ⟨rfl, rfl⟩

/-- The reference's table of rows, as a list of bytes. -/
theorem rowv (S : ByteArray) (n k : Nat) (hn : n < 36) (hk : k < 7) (_hl : S.size = 504) (hS : Hid (∀ n, n < 36 → ∀ k, k < 7 → IntKind.i64.wrap (IntKind.i64.wrap (16 * hexv ((S.data.toList.getD (14 * n + 2 * k) 0).toNat : Int)) + hexv ((S.data.toList.getD (14 * n + 2 * k + 1) 0).toNat : Int)) = sqRow (lets.getD n 0) (6 - k)))
    (i j : Nat) (hi : i = 14 * n + 2 * k) (hj : j = 14 * n + 2 * k + 1) (h1 : i < S.size) (h2 : j < S.size) :
    IntKind.i64.wrap (IntKind.i64.wrap (16 * hexv (S[i].toNat : Int)) + hexv (S[j].toNat : Int)) = sqRow (lets.getD n 0) (6 - k) := by
  subst hi hj
  have g : ∀ q (h : q < S.size), S[q] = S.data.toList.getD q 0 := by
    intro q h
    rw [List.getD_eq_getElem?_getD, List.getElem?_eq_getElem (by simpa using h)]
    rfl
  rw [g, g]
  exact hS.out n hn k hk
theorem rowd (S : ByteArray) (j : Nat) (h : j < S.size) (hl : S.size = 504) (hS : Hid (∀ j, j < 504 → 48 ≤ ((S.data.toList.getD j 0).toNat : Int) ∧ (((S.data.toList.getD j 0).toNat : Int) ≤ 57 ∨ 65 ≤ ((S.data.toList.getD j 0).toNat : Int)))) :
    48 ≤ (S[j].toNat : Int) ∧ ((S[j].toNat : Int) ≤ 57 ∨ 65 ≤ (S[j].toNat : Int)) ∧ (S[j].toNat : Int) ≤ 255 := by
  have g : S[j] = S.data.toList.getD j 0 := by
    rw [List.getD_eq_getElem?_getD, List.getElem?_eq_getElem (by simpa using h)]
    rfl
  have h255 := S[j].toNat_lt
  rw [g] at *
  have := hS.out j (by omega)
  exact ⟨this.1, this.2, by omega⟩

set_option maxRecDepth 100000 in
set_option maxHeartbeats 4000000 in
theorem refLetter_digit (n : Nat) (w : World) (h1 : (n : Int) ≤ 9) :
    Calls Tryz.prog 37 #[.int .u8 ((n : Int) + 48)] w fun e w' => e = .returned (.tuple #[.agg #[.int .i64 (sqRow (lets.getD n 0) 6), .int .i64 (sqRow (lets.getD n 0) 5), .int .i64 (sqRow (lets.getD n 0) 4), .int .i64 (sqRow (lets.getD n 0) 3), .int .i64 (sqRow (lets.getD n 0) 2), .int .i64 (sqRow (lets.getD n 0) 1), .int .i64 (sqRow (lets.getD n 0) 0)], .bool true]) ∧ Below w.heap.size w w' := by
  have h32 : ((n : Int) + 48 == 32) = false := by simp; omega
  go_enter Tryz.func37, Tryz.ntmps37
  go_wp2_with fail
  refine wp_loop_rounds 8 ?_
  generalize hS : (ByteArray.mk _ : ByteArray) = S
  have hs : S.size = 504 := by subst hS; rfl
  have HD : Hid (∀ j, j < 504 → 48 ≤ ((S.data.toList.getD j 0).toNat : Int) ∧ (((S.data.toList.getD j 0).toNat : Int) ≤ 57 ∨ 65 ≤ ((S.data.toList.getD j 0).toNat : Int))) := Lib.hid (by subst hS; decide +kernel)
  have HR : Hid (∀ n, n < 36 → ∀ k, k < 7 → IntKind.i64.wrap (IntKind.i64.wrap (16 * hexv ((S.data.toList.getD (14 * n + 2 * k) 0).toNat : Int)) + hexv ((S.data.toList.getD (14 * n + 2 * k + 1) 0).toNat : Int)) = sqRow (lets.getD n 0) (6 - k)) := Lib.hid (by subst hS; decide +kernel)
  clear hS
  have v14 : IntKind.i64.wrap (14 * (n : Int)) = 14 * (n : Int) := IntWalk.i64_in _ (by omega)
  have a0 : IntKind.i64.wrap 0 = 0 := by decide
  have c0 : IntKind.i64.wrap (14 * (n : Int) + 1) = 14 * (n : Int) + 1 := IntWalk.i64_in _ (by omega)
  have p0 : 0 ≤ 14 * (n : Int) ∧ 14 * (n : Int) < 504 := by omega
  have q0 : 0 ≤ 14 * (n : Int) + 1 ∧ 14 * (n : Int) + 1 < 504 := by omega
  have R0 := rowv S n 0 (by omega) (by omega) hs HR (14 * (n : Int)).toNat (14 * (n : Int) + 1).toNat (by omega) (by omega) (by omega) (by omega)
  have d0 := rowd S (14 * (n : Int)).toNat (by omega) hs HD
  have f0 := rowd S (14 * (n : Int) + 1).toNat (by omega) hs HD
  have a1 : IntKind.i64.wrap 2 = 2 := by decide
  have b1 : IntKind.i64.wrap (14 * (n : Int) + 2) = 14 * (n : Int) + 2 := IntWalk.i64_in _ (by omega)
  have c1 : IntKind.i64.wrap (14 * (n : Int) + 2 + 1) = 14 * (n : Int) + 2 + 1 := IntWalk.i64_in _ (by omega)
  have p1 : 0 ≤ 14 * (n : Int) + 2 ∧ 14 * (n : Int) + 2 < 504 := by omega
  have q1 : 0 ≤ 14 * (n : Int) + 2 + 1 ∧ 14 * (n : Int) + 2 + 1 < 504 := by omega
  have R1 := rowv S n 1 (by omega) (by omega) hs HR (14 * (n : Int) + 2).toNat (14 * (n : Int) + 2 + 1).toNat (by omega) (by omega) (by omega) (by omega)
  have d1 := rowd S (14 * (n : Int) + 2).toNat (by omega) hs HD
  have f1 := rowd S (14 * (n : Int) + 2 + 1).toNat (by omega) hs HD
  have a2 : IntKind.i64.wrap 4 = 4 := by decide
  have b2 : IntKind.i64.wrap (14 * (n : Int) + 4) = 14 * (n : Int) + 4 := IntWalk.i64_in _ (by omega)
  have c2 : IntKind.i64.wrap (14 * (n : Int) + 4 + 1) = 14 * (n : Int) + 4 + 1 := IntWalk.i64_in _ (by omega)
  have p2 : 0 ≤ 14 * (n : Int) + 4 ∧ 14 * (n : Int) + 4 < 504 := by omega
  have q2 : 0 ≤ 14 * (n : Int) + 4 + 1 ∧ 14 * (n : Int) + 4 + 1 < 504 := by omega
  have R2 := rowv S n 2 (by omega) (by omega) hs HR (14 * (n : Int) + 4).toNat (14 * (n : Int) + 4 + 1).toNat (by omega) (by omega) (by omega) (by omega)
  have d2 := rowd S (14 * (n : Int) + 4).toNat (by omega) hs HD
  have f2 := rowd S (14 * (n : Int) + 4 + 1).toNat (by omega) hs HD
  have a3 : IntKind.i64.wrap 6 = 6 := by decide
  have b3 : IntKind.i64.wrap (14 * (n : Int) + 6) = 14 * (n : Int) + 6 := IntWalk.i64_in _ (by omega)
  have c3 : IntKind.i64.wrap (14 * (n : Int) + 6 + 1) = 14 * (n : Int) + 6 + 1 := IntWalk.i64_in _ (by omega)
  have p3 : 0 ≤ 14 * (n : Int) + 6 ∧ 14 * (n : Int) + 6 < 504 := by omega
  have q3 : 0 ≤ 14 * (n : Int) + 6 + 1 ∧ 14 * (n : Int) + 6 + 1 < 504 := by omega
  have R3 := rowv S n 3 (by omega) (by omega) hs HR (14 * (n : Int) + 6).toNat (14 * (n : Int) + 6 + 1).toNat (by omega) (by omega) (by omega) (by omega)
  have d3 := rowd S (14 * (n : Int) + 6).toNat (by omega) hs HD
  have f3 := rowd S (14 * (n : Int) + 6 + 1).toNat (by omega) hs HD
  have a4 : IntKind.i64.wrap 8 = 8 := by decide
  have b4 : IntKind.i64.wrap (14 * (n : Int) + 8) = 14 * (n : Int) + 8 := IntWalk.i64_in _ (by omega)
  have c4 : IntKind.i64.wrap (14 * (n : Int) + 8 + 1) = 14 * (n : Int) + 8 + 1 := IntWalk.i64_in _ (by omega)
  have p4 : 0 ≤ 14 * (n : Int) + 8 ∧ 14 * (n : Int) + 8 < 504 := by omega
  have q4 : 0 ≤ 14 * (n : Int) + 8 + 1 ∧ 14 * (n : Int) + 8 + 1 < 504 := by omega
  have R4 := rowv S n 4 (by omega) (by omega) hs HR (14 * (n : Int) + 8).toNat (14 * (n : Int) + 8 + 1).toNat (by omega) (by omega) (by omega) (by omega)
  have d4 := rowd S (14 * (n : Int) + 8).toNat (by omega) hs HD
  have f4 := rowd S (14 * (n : Int) + 8 + 1).toNat (by omega) hs HD
  have a5 : IntKind.i64.wrap 10 = 10 := by decide
  have b5 : IntKind.i64.wrap (14 * (n : Int) + 10) = 14 * (n : Int) + 10 := IntWalk.i64_in _ (by omega)
  have c5 : IntKind.i64.wrap (14 * (n : Int) + 10 + 1) = 14 * (n : Int) + 10 + 1 := IntWalk.i64_in _ (by omega)
  have p5 : 0 ≤ 14 * (n : Int) + 10 ∧ 14 * (n : Int) + 10 < 504 := by omega
  have q5 : 0 ≤ 14 * (n : Int) + 10 + 1 ∧ 14 * (n : Int) + 10 + 1 < 504 := by omega
  have R5 := rowv S n 5 (by omega) (by omega) hs HR (14 * (n : Int) + 10).toNat (14 * (n : Int) + 10 + 1).toNat (by omega) (by omega) (by omega) (by omega)
  have d5 := rowd S (14 * (n : Int) + 10).toNat (by omega) hs HD
  have f5 := rowd S (14 * (n : Int) + 10 + 1).toNat (by omega) hs HD
  have a6 : IntKind.i64.wrap 12 = 12 := by decide
  have b6 : IntKind.i64.wrap (14 * (n : Int) + 12) = 14 * (n : Int) + 12 := IntWalk.i64_in _ (by omega)
  have c6 : IntKind.i64.wrap (14 * (n : Int) + 12 + 1) = 14 * (n : Int) + 12 + 1 := IntWalk.i64_in _ (by omega)
  have p6 : 0 ≤ 14 * (n : Int) + 12 ∧ 14 * (n : Int) + 12 < 504 := by omega
  have q6 : 0 ≤ 14 * (n : Int) + 12 + 1 ∧ 14 * (n : Int) + 12 + 1 < 504 := by omega
  have R6 := rowv S n 6 (by omega) (by omega) hs HR (14 * (n : Int) + 12).toNat (14 * (n : Int) + 12 + 1).toNat (by omega) (by omega) (by omega) (by omega)
  have d6 := rowd S (14 * (n : Int) + 12).toNat (by omega) hs HD
  have f6 := rowd S (14 * (n : Int) + 12 + 1).toNat (by omega) hs HD
  have D0 := Lib.hid d0
  have F0 := Lib.hid f0
  have S0 := Lib.hid R0
  have D1 := Lib.hid d1
  have F1 := Lib.hid f1
  have S1 := Lib.hid R1
  have D2 := Lib.hid d2
  have F2 := Lib.hid f2
  have S2 := Lib.hid R2
  have D3 := Lib.hid d3
  have F3 := Lib.hid f3
  have S3 := Lib.hid R3
  have D4 := Lib.hid d4
  have F4 := Lib.hid f4
  have S4 := Lib.hid R4
  have D5 := Lib.hid d5
  have F5 := Lib.hid f5
  have S5 := Lib.hid R5
  have D6 := Lib.hid d6
  have F6 := Lib.hid f6
  have S6 := Lib.hid R6
  clear d0 f0 R0 d1 f1 R1 d2 f2 R2 d3 f3 R3 d4 f4 R4 d5 f5 R5 d6 f6 R6
  rw [rounds_succ]
  go_wp2_with fail
  refine region_tail 19 (by kernel_rfl) (by kernel_rfl) ?_
  intro W1 HW
  simp only [List.take_succ_cons, List.take_zero, List.drop_succ_cons, List.drop_zero]
  repeat still_step
  refine wpStill_step (fun K hK => ?_)
  go_simp
  refine ⟨_, (digit_any _ _ D0.out.1 D0.out.2.1 D0.out.2.2).mono (fun e w'' h => ⟨h.1, h.2.symm⟩), hK _ ?_⟩
  clear hK K
  repeat still_step
  refine wpStill_step (fun K hK => ?_)
  go_simp
  refine ⟨_, (digit_any _ _ F0.out.1 F0.out.2.1 F0.out.2.2).mono (fun e w'' h => ⟨h.1, h.2.symm⟩), hK _ ?_⟩
  clear hK K
  repeat still_step
  refine wpStill_nil ?_
  rw [S0.out]
  obtain rfl := HW.out
  clear HW
  go_wp2_with fail
  rw [rounds_succ]
  go_wp2_with fail
  refine region_tail 19 (by kernel_rfl) (by kernel_rfl) ?_
  intro W1 HW
  simp only [List.take_succ_cons, List.take_zero, List.drop_succ_cons, List.drop_zero]
  repeat still_step
  refine wpStill_step (fun K hK => ?_)
  go_simp
  refine ⟨_, (digit_any _ _ D1.out.1 D1.out.2.1 D1.out.2.2).mono (fun e w'' h => ⟨h.1, h.2.symm⟩), hK _ ?_⟩
  clear hK K
  repeat still_step
  refine wpStill_step (fun K hK => ?_)
  go_simp
  refine ⟨_, (digit_any _ _ F1.out.1 F1.out.2.1 F1.out.2.2).mono (fun e w'' h => ⟨h.1, h.2.symm⟩), hK _ ?_⟩
  clear hK K
  repeat still_step
  refine wpStill_nil ?_
  rw [S1.out]
  obtain rfl := HW.out
  clear HW
  go_wp2_with fail
  rw [rounds_succ]
  go_wp2_with fail
  refine region_tail 19 (by kernel_rfl) (by kernel_rfl) ?_
  intro W1 HW
  simp only [List.take_succ_cons, List.take_zero, List.drop_succ_cons, List.drop_zero]
  repeat still_step
  refine wpStill_step (fun K hK => ?_)
  go_simp
  refine ⟨_, (digit_any _ _ D2.out.1 D2.out.2.1 D2.out.2.2).mono (fun e w'' h => ⟨h.1, h.2.symm⟩), hK _ ?_⟩
  clear hK K
  repeat still_step
  refine wpStill_step (fun K hK => ?_)
  go_simp
  refine ⟨_, (digit_any _ _ F2.out.1 F2.out.2.1 F2.out.2.2).mono (fun e w'' h => ⟨h.1, h.2.symm⟩), hK _ ?_⟩
  clear hK K
  repeat still_step
  refine wpStill_nil ?_
  rw [S2.out]
  obtain rfl := HW.out
  clear HW
  go_wp2_with fail
  rw [rounds_succ]
  go_wp2_with fail
  refine region_tail 19 (by kernel_rfl) (by kernel_rfl) ?_
  intro W1 HW
  simp only [List.take_succ_cons, List.take_zero, List.drop_succ_cons, List.drop_zero]
  repeat still_step
  refine wpStill_step (fun K hK => ?_)
  go_simp
  refine ⟨_, (digit_any _ _ D3.out.1 D3.out.2.1 D3.out.2.2).mono (fun e w'' h => ⟨h.1, h.2.symm⟩), hK _ ?_⟩
  clear hK K
  repeat still_step
  refine wpStill_step (fun K hK => ?_)
  go_simp
  refine ⟨_, (digit_any _ _ F3.out.1 F3.out.2.1 F3.out.2.2).mono (fun e w'' h => ⟨h.1, h.2.symm⟩), hK _ ?_⟩
  clear hK K
  repeat still_step
  refine wpStill_nil ?_
  rw [S3.out]
  obtain rfl := HW.out
  clear HW
  go_wp2_with fail
  rw [rounds_succ]
  go_wp2_with fail
  refine region_tail 19 (by kernel_rfl) (by kernel_rfl) ?_
  intro W1 HW
  simp only [List.take_succ_cons, List.take_zero, List.drop_succ_cons, List.drop_zero]
  repeat still_step
  refine wpStill_step (fun K hK => ?_)
  go_simp
  refine ⟨_, (digit_any _ _ D4.out.1 D4.out.2.1 D4.out.2.2).mono (fun e w'' h => ⟨h.1, h.2.symm⟩), hK _ ?_⟩
  clear hK K
  repeat still_step
  refine wpStill_step (fun K hK => ?_)
  go_simp
  refine ⟨_, (digit_any _ _ F4.out.1 F4.out.2.1 F4.out.2.2).mono (fun e w'' h => ⟨h.1, h.2.symm⟩), hK _ ?_⟩
  clear hK K
  repeat still_step
  refine wpStill_nil ?_
  rw [S4.out]
  obtain rfl := HW.out
  clear HW
  go_wp2_with fail
  rw [rounds_succ]
  go_wp2_with fail
  refine region_tail 19 (by kernel_rfl) (by kernel_rfl) ?_
  intro W1 HW
  simp only [List.take_succ_cons, List.take_zero, List.drop_succ_cons, List.drop_zero]
  repeat still_step
  refine wpStill_step (fun K hK => ?_)
  go_simp
  refine ⟨_, (digit_any _ _ D5.out.1 D5.out.2.1 D5.out.2.2).mono (fun e w'' h => ⟨h.1, h.2.symm⟩), hK _ ?_⟩
  clear hK K
  repeat still_step
  refine wpStill_step (fun K hK => ?_)
  go_simp
  refine ⟨_, (digit_any _ _ F5.out.1 F5.out.2.1 F5.out.2.2).mono (fun e w'' h => ⟨h.1, h.2.symm⟩), hK _ ?_⟩
  clear hK K
  repeat still_step
  refine wpStill_nil ?_
  rw [S5.out]
  obtain rfl := HW.out
  clear HW
  go_wp2_with fail
  rw [rounds_succ]
  go_wp2_with fail
  refine region_tail 19 (by kernel_rfl) (by kernel_rfl) ?_
  intro W1 HW
  simp only [List.take_succ_cons, List.take_zero, List.drop_succ_cons, List.drop_zero]
  repeat still_step
  refine wpStill_step (fun K hK => ?_)
  go_simp
  refine ⟨_, (digit_any _ _ D6.out.1 D6.out.2.1 D6.out.2.2).mono (fun e w'' h => ⟨h.1, h.2.symm⟩), hK _ ?_⟩
  clear hK K
  repeat still_step
  refine wpStill_step (fun K hK => ?_)
  go_simp
  refine ⟨_, (digit_any _ _ F6.out.1 F6.out.2.1 F6.out.2.2).mono (fun e w'' h => ⟨h.1, h.2.symm⟩), hK _ ?_⟩
  clear hK K
  repeat still_step
  refine wpStill_nil ?_
  rw [S6.out]
  obtain rfl := HW.out
  clear HW
  go_wp2_with fail
  rw [rounds_succ]
  go_wp2_with fail
  go_returns
  refine ⟨rfl, ?_⟩
  go_grown

set_option maxRecDepth 100000 in
set_option maxHeartbeats 4000000 in
theorem refLetter_upper (m : Nat) (w : World) (h1 : (m : Int) ≤ 25) :
    Calls Tryz.prog 37 #[.int .u8 ((m : Int) + 65)] w fun e w' => e = .returned (.tuple #[.agg #[.int .i64 (sqRow (lets.getD (m + 10) 0) 6), .int .i64 (sqRow (lets.getD (m + 10) 0) 5), .int .i64 (sqRow (lets.getD (m + 10) 0) 4), .int .i64 (sqRow (lets.getD (m + 10) 0) 3), .int .i64 (sqRow (lets.getD (m + 10) 0) 2), .int .i64 (sqRow (lets.getD (m + 10) 0) 1), .int .i64 (sqRow (lets.getD (m + 10) 0) 0)], .bool true]) ∧ Below w.heap.size w w' := by
  have h32 : ((m : Int) + 65 == 32) = false := by simp; omega
  have h57 : ¬ ((m : Int) + 65 ≤ 57) := by omega
  obtain ⟨n, hn⟩ : ∃ n : Nat, n = m + 10 := ⟨_, rfl⟩
  have Hn := Lib.hid hn
  rw [← hn]
  clear hn
  go_enter Tryz.func37, Tryz.ntmps37
  go_wp2_with fail
  rw [show ((m : Int) + 10) = (n : Int) from by rw [Hn.out]; rfl]
  have hn25 : (n : Int) ≤ 35 := by have := Hn.out; omega
  refine wp_loop_rounds 8 ?_
  generalize hS : (ByteArray.mk _ : ByteArray) = S
  have hs : S.size = 504 := by subst hS; rfl
  have HD : Hid (∀ j, j < 504 → 48 ≤ ((S.data.toList.getD j 0).toNat : Int) ∧ (((S.data.toList.getD j 0).toNat : Int) ≤ 57 ∨ 65 ≤ ((S.data.toList.getD j 0).toNat : Int))) := Lib.hid (by subst hS; decide +kernel)
  have HR : Hid (∀ n, n < 36 → ∀ k, k < 7 → IntKind.i64.wrap (IntKind.i64.wrap (16 * hexv ((S.data.toList.getD (14 * n + 2 * k) 0).toNat : Int)) + hexv ((S.data.toList.getD (14 * n + 2 * k + 1) 0).toNat : Int)) = sqRow (lets.getD n 0) (6 - k)) := Lib.hid (by subst hS; decide +kernel)
  clear hS
  have v14 : IntKind.i64.wrap (14 * (n : Int)) = 14 * (n : Int) := IntWalk.i64_in _ (by omega)
  have a0 : IntKind.i64.wrap 0 = 0 := by decide
  have c0 : IntKind.i64.wrap (14 * (n : Int) + 1) = 14 * (n : Int) + 1 := IntWalk.i64_in _ (by omega)
  have p0 : 0 ≤ 14 * (n : Int) ∧ 14 * (n : Int) < 504 := by omega
  have q0 : 0 ≤ 14 * (n : Int) + 1 ∧ 14 * (n : Int) + 1 < 504 := by omega
  have R0 := rowv S n 0 (by omega) (by omega) hs HR (14 * (n : Int)).toNat (14 * (n : Int) + 1).toNat (by omega) (by omega) (by omega) (by omega)
  have d0 := rowd S (14 * (n : Int)).toNat (by omega) hs HD
  have f0 := rowd S (14 * (n : Int) + 1).toNat (by omega) hs HD
  have a1 : IntKind.i64.wrap 2 = 2 := by decide
  have b1 : IntKind.i64.wrap (14 * (n : Int) + 2) = 14 * (n : Int) + 2 := IntWalk.i64_in _ (by omega)
  have c1 : IntKind.i64.wrap (14 * (n : Int) + 2 + 1) = 14 * (n : Int) + 2 + 1 := IntWalk.i64_in _ (by omega)
  have p1 : 0 ≤ 14 * (n : Int) + 2 ∧ 14 * (n : Int) + 2 < 504 := by omega
  have q1 : 0 ≤ 14 * (n : Int) + 2 + 1 ∧ 14 * (n : Int) + 2 + 1 < 504 := by omega
  have R1 := rowv S n 1 (by omega) (by omega) hs HR (14 * (n : Int) + 2).toNat (14 * (n : Int) + 2 + 1).toNat (by omega) (by omega) (by omega) (by omega)
  have d1 := rowd S (14 * (n : Int) + 2).toNat (by omega) hs HD
  have f1 := rowd S (14 * (n : Int) + 2 + 1).toNat (by omega) hs HD
  have a2 : IntKind.i64.wrap 4 = 4 := by decide
  have b2 : IntKind.i64.wrap (14 * (n : Int) + 4) = 14 * (n : Int) + 4 := IntWalk.i64_in _ (by omega)
  have c2 : IntKind.i64.wrap (14 * (n : Int) + 4 + 1) = 14 * (n : Int) + 4 + 1 := IntWalk.i64_in _ (by omega)
  have p2 : 0 ≤ 14 * (n : Int) + 4 ∧ 14 * (n : Int) + 4 < 504 := by omega
  have q2 : 0 ≤ 14 * (n : Int) + 4 + 1 ∧ 14 * (n : Int) + 4 + 1 < 504 := by omega
  have R2 := rowv S n 2 (by omega) (by omega) hs HR (14 * (n : Int) + 4).toNat (14 * (n : Int) + 4 + 1).toNat (by omega) (by omega) (by omega) (by omega)
  have d2 := rowd S (14 * (n : Int) + 4).toNat (by omega) hs HD
  have f2 := rowd S (14 * (n : Int) + 4 + 1).toNat (by omega) hs HD
  have a3 : IntKind.i64.wrap 6 = 6 := by decide
  have b3 : IntKind.i64.wrap (14 * (n : Int) + 6) = 14 * (n : Int) + 6 := IntWalk.i64_in _ (by omega)
  have c3 : IntKind.i64.wrap (14 * (n : Int) + 6 + 1) = 14 * (n : Int) + 6 + 1 := IntWalk.i64_in _ (by omega)
  have p3 : 0 ≤ 14 * (n : Int) + 6 ∧ 14 * (n : Int) + 6 < 504 := by omega
  have q3 : 0 ≤ 14 * (n : Int) + 6 + 1 ∧ 14 * (n : Int) + 6 + 1 < 504 := by omega
  have R3 := rowv S n 3 (by omega) (by omega) hs HR (14 * (n : Int) + 6).toNat (14 * (n : Int) + 6 + 1).toNat (by omega) (by omega) (by omega) (by omega)
  have d3 := rowd S (14 * (n : Int) + 6).toNat (by omega) hs HD
  have f3 := rowd S (14 * (n : Int) + 6 + 1).toNat (by omega) hs HD
  have a4 : IntKind.i64.wrap 8 = 8 := by decide
  have b4 : IntKind.i64.wrap (14 * (n : Int) + 8) = 14 * (n : Int) + 8 := IntWalk.i64_in _ (by omega)
  have c4 : IntKind.i64.wrap (14 * (n : Int) + 8 + 1) = 14 * (n : Int) + 8 + 1 := IntWalk.i64_in _ (by omega)
  have p4 : 0 ≤ 14 * (n : Int) + 8 ∧ 14 * (n : Int) + 8 < 504 := by omega
  have q4 : 0 ≤ 14 * (n : Int) + 8 + 1 ∧ 14 * (n : Int) + 8 + 1 < 504 := by omega
  have R4 := rowv S n 4 (by omega) (by omega) hs HR (14 * (n : Int) + 8).toNat (14 * (n : Int) + 8 + 1).toNat (by omega) (by omega) (by omega) (by omega)
  have d4 := rowd S (14 * (n : Int) + 8).toNat (by omega) hs HD
  have f4 := rowd S (14 * (n : Int) + 8 + 1).toNat (by omega) hs HD
  have a5 : IntKind.i64.wrap 10 = 10 := by decide
  have b5 : IntKind.i64.wrap (14 * (n : Int) + 10) = 14 * (n : Int) + 10 := IntWalk.i64_in _ (by omega)
  have c5 : IntKind.i64.wrap (14 * (n : Int) + 10 + 1) = 14 * (n : Int) + 10 + 1 := IntWalk.i64_in _ (by omega)
  have p5 : 0 ≤ 14 * (n : Int) + 10 ∧ 14 * (n : Int) + 10 < 504 := by omega
  have q5 : 0 ≤ 14 * (n : Int) + 10 + 1 ∧ 14 * (n : Int) + 10 + 1 < 504 := by omega
  have R5 := rowv S n 5 (by omega) (by omega) hs HR (14 * (n : Int) + 10).toNat (14 * (n : Int) + 10 + 1).toNat (by omega) (by omega) (by omega) (by omega)
  have d5 := rowd S (14 * (n : Int) + 10).toNat (by omega) hs HD
  have f5 := rowd S (14 * (n : Int) + 10 + 1).toNat (by omega) hs HD
  have a6 : IntKind.i64.wrap 12 = 12 := by decide
  have b6 : IntKind.i64.wrap (14 * (n : Int) + 12) = 14 * (n : Int) + 12 := IntWalk.i64_in _ (by omega)
  have c6 : IntKind.i64.wrap (14 * (n : Int) + 12 + 1) = 14 * (n : Int) + 12 + 1 := IntWalk.i64_in _ (by omega)
  have p6 : 0 ≤ 14 * (n : Int) + 12 ∧ 14 * (n : Int) + 12 < 504 := by omega
  have q6 : 0 ≤ 14 * (n : Int) + 12 + 1 ∧ 14 * (n : Int) + 12 + 1 < 504 := by omega
  have R6 := rowv S n 6 (by omega) (by omega) hs HR (14 * (n : Int) + 12).toNat (14 * (n : Int) + 12 + 1).toNat (by omega) (by omega) (by omega) (by omega)
  have d6 := rowd S (14 * (n : Int) + 12).toNat (by omega) hs HD
  have f6 := rowd S (14 * (n : Int) + 12 + 1).toNat (by omega) hs HD
  have D0 := Lib.hid d0
  have F0 := Lib.hid f0
  have S0 := Lib.hid R0
  have D1 := Lib.hid d1
  have F1 := Lib.hid f1
  have S1 := Lib.hid R1
  have D2 := Lib.hid d2
  have F2 := Lib.hid f2
  have S2 := Lib.hid R2
  have D3 := Lib.hid d3
  have F3 := Lib.hid f3
  have S3 := Lib.hid R3
  have D4 := Lib.hid d4
  have F4 := Lib.hid f4
  have S4 := Lib.hid R4
  have D5 := Lib.hid d5
  have F5 := Lib.hid f5
  have S5 := Lib.hid R5
  have D6 := Lib.hid d6
  have F6 := Lib.hid f6
  have S6 := Lib.hid R6
  clear d0 f0 R0 d1 f1 R1 d2 f2 R2 d3 f3 R3 d4 f4 R4 d5 f5 R5 d6 f6 R6
  rw [rounds_succ]
  go_wp2_with fail
  refine region_tail 19 (by kernel_rfl) (by kernel_rfl) ?_
  intro W1 HW
  simp only [List.take_succ_cons, List.take_zero, List.drop_succ_cons, List.drop_zero]
  repeat still_step
  refine wpStill_step (fun K hK => ?_)
  go_simp
  refine ⟨_, (digit_any _ _ D0.out.1 D0.out.2.1 D0.out.2.2).mono (fun e w'' h => ⟨h.1, h.2.symm⟩), hK _ ?_⟩
  clear hK K
  repeat still_step
  refine wpStill_step (fun K hK => ?_)
  go_simp
  refine ⟨_, (digit_any _ _ F0.out.1 F0.out.2.1 F0.out.2.2).mono (fun e w'' h => ⟨h.1, h.2.symm⟩), hK _ ?_⟩
  clear hK K
  repeat still_step
  refine wpStill_nil ?_
  rw [S0.out]
  obtain rfl := HW.out
  clear HW
  go_wp2_with fail
  rw [rounds_succ]
  go_wp2_with fail
  refine region_tail 19 (by kernel_rfl) (by kernel_rfl) ?_
  intro W1 HW
  simp only [List.take_succ_cons, List.take_zero, List.drop_succ_cons, List.drop_zero]
  repeat still_step
  refine wpStill_step (fun K hK => ?_)
  go_simp
  refine ⟨_, (digit_any _ _ D1.out.1 D1.out.2.1 D1.out.2.2).mono (fun e w'' h => ⟨h.1, h.2.symm⟩), hK _ ?_⟩
  clear hK K
  repeat still_step
  refine wpStill_step (fun K hK => ?_)
  go_simp
  refine ⟨_, (digit_any _ _ F1.out.1 F1.out.2.1 F1.out.2.2).mono (fun e w'' h => ⟨h.1, h.2.symm⟩), hK _ ?_⟩
  clear hK K
  repeat still_step
  refine wpStill_nil ?_
  rw [S1.out]
  obtain rfl := HW.out
  clear HW
  go_wp2_with fail
  rw [rounds_succ]
  go_wp2_with fail
  refine region_tail 19 (by kernel_rfl) (by kernel_rfl) ?_
  intro W1 HW
  simp only [List.take_succ_cons, List.take_zero, List.drop_succ_cons, List.drop_zero]
  repeat still_step
  refine wpStill_step (fun K hK => ?_)
  go_simp
  refine ⟨_, (digit_any _ _ D2.out.1 D2.out.2.1 D2.out.2.2).mono (fun e w'' h => ⟨h.1, h.2.symm⟩), hK _ ?_⟩
  clear hK K
  repeat still_step
  refine wpStill_step (fun K hK => ?_)
  go_simp
  refine ⟨_, (digit_any _ _ F2.out.1 F2.out.2.1 F2.out.2.2).mono (fun e w'' h => ⟨h.1, h.2.symm⟩), hK _ ?_⟩
  clear hK K
  repeat still_step
  refine wpStill_nil ?_
  rw [S2.out]
  obtain rfl := HW.out
  clear HW
  go_wp2_with fail
  rw [rounds_succ]
  go_wp2_with fail
  refine region_tail 19 (by kernel_rfl) (by kernel_rfl) ?_
  intro W1 HW
  simp only [List.take_succ_cons, List.take_zero, List.drop_succ_cons, List.drop_zero]
  repeat still_step
  refine wpStill_step (fun K hK => ?_)
  go_simp
  refine ⟨_, (digit_any _ _ D3.out.1 D3.out.2.1 D3.out.2.2).mono (fun e w'' h => ⟨h.1, h.2.symm⟩), hK _ ?_⟩
  clear hK K
  repeat still_step
  refine wpStill_step (fun K hK => ?_)
  go_simp
  refine ⟨_, (digit_any _ _ F3.out.1 F3.out.2.1 F3.out.2.2).mono (fun e w'' h => ⟨h.1, h.2.symm⟩), hK _ ?_⟩
  clear hK K
  repeat still_step
  refine wpStill_nil ?_
  rw [S3.out]
  obtain rfl := HW.out
  clear HW
  go_wp2_with fail
  rw [rounds_succ]
  go_wp2_with fail
  refine region_tail 19 (by kernel_rfl) (by kernel_rfl) ?_
  intro W1 HW
  simp only [List.take_succ_cons, List.take_zero, List.drop_succ_cons, List.drop_zero]
  repeat still_step
  refine wpStill_step (fun K hK => ?_)
  go_simp
  refine ⟨_, (digit_any _ _ D4.out.1 D4.out.2.1 D4.out.2.2).mono (fun e w'' h => ⟨h.1, h.2.symm⟩), hK _ ?_⟩
  clear hK K
  repeat still_step
  refine wpStill_step (fun K hK => ?_)
  go_simp
  refine ⟨_, (digit_any _ _ F4.out.1 F4.out.2.1 F4.out.2.2).mono (fun e w'' h => ⟨h.1, h.2.symm⟩), hK _ ?_⟩
  clear hK K
  repeat still_step
  refine wpStill_nil ?_
  rw [S4.out]
  obtain rfl := HW.out
  clear HW
  go_wp2_with fail
  rw [rounds_succ]
  go_wp2_with fail
  refine region_tail 19 (by kernel_rfl) (by kernel_rfl) ?_
  intro W1 HW
  simp only [List.take_succ_cons, List.take_zero, List.drop_succ_cons, List.drop_zero]
  repeat still_step
  refine wpStill_step (fun K hK => ?_)
  go_simp
  refine ⟨_, (digit_any _ _ D5.out.1 D5.out.2.1 D5.out.2.2).mono (fun e w'' h => ⟨h.1, h.2.symm⟩), hK _ ?_⟩
  clear hK K
  repeat still_step
  refine wpStill_step (fun K hK => ?_)
  go_simp
  refine ⟨_, (digit_any _ _ F5.out.1 F5.out.2.1 F5.out.2.2).mono (fun e w'' h => ⟨h.1, h.2.symm⟩), hK _ ?_⟩
  clear hK K
  repeat still_step
  refine wpStill_nil ?_
  rw [S5.out]
  obtain rfl := HW.out
  clear HW
  go_wp2_with fail
  rw [rounds_succ]
  go_wp2_with fail
  refine region_tail 19 (by kernel_rfl) (by kernel_rfl) ?_
  intro W1 HW
  simp only [List.take_succ_cons, List.take_zero, List.drop_succ_cons, List.drop_zero]
  repeat still_step
  refine wpStill_step (fun K hK => ?_)
  go_simp
  refine ⟨_, (digit_any _ _ D6.out.1 D6.out.2.1 D6.out.2.2).mono (fun e w'' h => ⟨h.1, h.2.symm⟩), hK _ ?_⟩
  clear hK K
  repeat still_step
  refine wpStill_step (fun K hK => ?_)
  go_simp
  refine ⟨_, (digit_any _ _ F6.out.1 F6.out.2.1 F6.out.2.2).mono (fun e w'' h => ⟨h.1, h.2.symm⟩), hK _ ?_⟩
  clear hK K
  repeat still_step
  refine wpStill_nil ?_
  rw [S6.out]
  obtain rfl := HW.out
  clear HW
  go_wp2_with fail
  rw [rounds_succ]
  go_wp2_with fail
  go_returns
  refine ⟨rfl, ?_⟩
  go_grown


theorem sqOf_zero (r : Int) (h : isLet r = false ∨ r = 32) : sqOf r = 0 := by
  unfold sqOf
  rcases h with h | h
  · simp [isLet, btw] at h
    rw [if_neg (by omega), if_neg (by omega)]
  · rw [if_neg (by omega), if_neg (by omega)]
theorem sqRow_zero (n : Nat) : sqRow 0 n = 0 := by unfold sqRow; simp

set_option maxRecDepth 100000 in
set_option maxHeartbeats 1000000 in
theorem refLetter_any (c : UInt8) (w : World) :
    Calls Tryz.prog 37 #[.int .u8 c.toNat] w fun e w' =>
      e = .returned (.tuple #[.agg #[.int .i64 (sqRow (sqOf c.toNat) 6), .int .i64 (sqRow (sqOf c.toNat) 5), .int .i64 (sqRow (sqOf c.toNat) 4), .int .i64 (sqRow (sqOf c.toNat) 3), .int .i64 (sqRow (sqOf c.toNat) 2), .int .i64 (sqRow (sqOf c.toNat) 1), .int .i64 (sqRow (sqOf c.toNat) 0)], .bool (isLet c.toNat)]) ∧ Below w.heap.size w w' := by
  have hc := c.toNat_lt
  generalize c.toNat = r at *
  by_cases hd : 48 ≤ r ∧ r ≤ 57
  · obtain ⟨n, rfl⟩ : ∃ n, r = n + 48 := ⟨r - 48, by omega⟩
    have e1 : sqOf ((n + 48 : Nat) : Int) = lets.getD n 0 := by
      unfold sqOf; rw [if_pos ⟨by omega, by omega⟩, show (((n + 48 : Nat) : Int) - 48).toNat = n from by omega]
    have e2 : isLet ((n + 48 : Nat) : Int) = true := by simp [isLet, btw]; omega
    rw [e1, e2, show ((n + 48 : Nat) : Int) = (n : Int) + 48 from rfl]
    exact refLetter_digit n w (by omega)
  · by_cases hu : 65 ≤ r ∧ r ≤ 90
    · obtain ⟨n, rfl⟩ : ∃ n, r = n + 65 := ⟨r - 65, by omega⟩
      have e1 : sqOf ((n + 65 : Nat) : Int) = lets.getD (n + 10) 0 := by
        unfold sqOf; rw [if_neg (by omega), if_pos ⟨by omega, by omega⟩, show (((n + 65 : Nat) : Int) - 55).toNat = n + 10 from by omega]
      have e2 : isLet ((n + 65 : Nat) : Int) = true := by simp [isLet, btw]; omega
      rw [e1, e2, show ((n + 65 : Nat) : Int) = (n : Int) + 65 from rfl]
      exact refLetter_upper n w (by omega)
    · have HQ : Hid (∀ k, sqRow (sqOf (r : Int)) k = 0) := Lib.hid fun k => by
        rw [sqOf_zero (r : Int) (by by_cases h : (r : Int) = 32; exact .inr h; left; simp [isLet, btw]; omega)]; exact sqRow_zero k
      rw [HQ.out 6, HQ.out 5, HQ.out 4, HQ.out 3, HQ.out 2, HQ.out 1, HQ.out 0]
      have r255 : (r : Int) ≤ 255 := by omega
      by_cases h : r = 32
      · have e2 : isLet (r : Int) = true := by subst h; rfl
        rw [e2]
        subst h
        clear HQ e2
        go_enter Tryz.func37, Tryz.ntmps37
        go_wp2_with fail
        go_returns
        refine ⟨rfl, ?_⟩
        go_grown
      · have e2 : isLet (r : Int) = false := by simp [isLet, btw]; omega
        rw [e2]
        have h32 : ((r : Int) == 32) = false := by simp; omega
        clear HQ e2 hc
        by_cases b1 : 48 ≤ (r : Int)
        · have b2 : ¬ (r : Int) ≤ 57 := by omega
          by_cases b3 : 65 ≤ (r : Int)
          · have b4 : ¬ (r : Int) ≤ 90 := by omega
            clear hd hu h
            go_enter Tryz.func37, Tryz.ntmps37
            go_wp2_with fail
            go_returns
            refine ⟨rfl, ?_⟩
            go_grown
          · clear hd hu h
            go_enter Tryz.func37, Tryz.ntmps37
            go_wp2_with fail
            go_returns
            refine ⟨rfl, ?_⟩
            go_grown
        · have b3 : ¬ 65 ≤ (r : Int) := by omega
          clear hd hu h
          go_enter Tryz.func37, Tryz.ntmps37
          go_wp2_with fail
          go_returns
          refine ⟨rfl, ?_⟩
          go_grown
end Go.Proofs.YtbogmdelceikgaaGreatDoor
