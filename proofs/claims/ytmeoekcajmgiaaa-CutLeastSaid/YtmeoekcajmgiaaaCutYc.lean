/-
  The loads of begun rolls: what one more piece changes, and when a roll fits. By an AI agent.
-/
import Derived.Test.YtmeoekcajmgiaaaCutYb
import Derived.Test.YtmeoekcajmgiaaaCutC
namespace Go.Proofs.Ytmeoekcajmgiaaa
set_option linter.unusedVariables false
set_option linter.unusedSimpArgs false
open Go.RowKit

theorem gi_setY (q : List Int) (x j : Nat) (y : Int) : gi (q.set x y) j = if j = x ∧ x < q.length then y else gi q j := by
  unfold gi
  rw [List.getD_eq_getElem?_getD, List.getD_eq_getElem?_getD, List.getElem?_set]
  by_cases e : x = j
  · subst e
    by_cases h : x < q.length
    · simp [h]
    · simp [h]
  · simp [e, show ¬ j = x from fun g => e g.symm]
theorem gi_nilY (j : Nat) : gi [] j = 0 := rfl
theorem sumF_nil (K : Int) (l : List (Int × Int)) : ∀ k, sumF K l [] k = 0
  | 0 => rfl
  | k + 1 => by rw [sumF, sumF_nil K l k, gi_nilY]; simp
theorem sumF_zero (K : Int) (l : List (Int × Int)) (n : Nat) : ∀ k, sumF K l (List.replicate n 0) k = 0
  | 0 => rfl
  | k + 1 => by
    rw [sumF, sumF_zero K l n k]
    have : gi (List.replicate n (0 : Int)) k = 0 := by
      unfold gi
      rw [List.getD_eq_getElem?_getD, List.getElem?_replicate]
      split <;> rfl
    rw [this]; simp
theorem sumF_set (K : Int) (l : List (Int × Int)) (q : List Int) {x : Nat} (hx : x < q.length) : ∀ k, sumF K l (q.set x (gi q x + 1)) k = sumF K l q k + if x < k then (gp l x).1 + K else 0
  | 0 => by simp [sumF]
  | k + 1 => by
    rw [sumF, sumF, sumF_set K l q hx k, gi_setY]
    by_cases e : k = x
    · subst e
      rw [if_neg (Nat.lt_irrefl k), if_pos (And.intro rfl hx), if_pos (Nat.lt_succ_self k), Int.add_mul, Int.one_mul]; omega
    · rw [if_neg (show ¬ (k = x ∧ x < q.length) from fun h => e h.1)]
      by_cases g : x < k
      · rw [if_pos g, if_pos (show x < k + 1 by omega)]; omega
      · rw [if_neg g, if_neg (show ¬ x < k + 1 by omega)]; omega
/-- Rolls that hold at most i pieces of each ask. -/
def RwOk (A : Nat) (C : List (List Int)) (i : Nat) : Prop := ∀ j, j < C.length → (gr C j).length = A ∧ ∀ x, x < A → 0 ≤ gi (gr C j) x ∧ gi (gr C j) x ≤ i
/-- The loads. -/
def ldL (K : Int) (l : List (Int × Int)) (C : List (List Int)) : Nat → Int := fun j => sumF K l (gr C j) l.length
/-- One more roll, where one is begun. -/
def moreR (A : Nat) (C : List (List Int)) (k : Nat) : List (List Int) := if k = C.length then C ++ [List.replicate A 0] else C
/-- One piece more in roll k. -/
def putR (C : List (List Int)) (k x : Nat) : List (List Int) := C.set k ((gr C k).set x (gi (gr C k) x + 1))
theorem gr_nilY {C : List (List Int)} {j : Nat} (h : C.length ≤ j) : gr C j = [] := by
  unfold gr
  rw [List.getD_eq_getElem?_getD, List.getElem?_eq_none h]; rfl
theorem gr_putR (C : List (List Int)) {k : Nat} (x : Nat) (hk : k < C.length) (j : Nat) : gr (putR C k x) j = if j = k then (gr C k).set x (gi (gr C k) x + 1) else gr C j := by
  unfold putR
  generalize (gr C k).set x (gi (gr C k) x + 1) = z
  unfold gr
  rw [List.getD_eq_getElem?_getD, List.getD_eq_getElem?_getD, List.getElem?_set]
  by_cases e : k = j
  · subst e; simp [hk]
  · simp [e, show ¬ j = k from fun g => e g.symm]
theorem putR_len (C : List (List Int)) (k x : Nat) : (putR C k x).length = C.length := by unfold putR; simp
theorem moreR_len (A : Nat) (C : List (List Int)) (k : Nat) : (moreR A C k).length = if k = C.length then C.length + 1 else C.length := by unfold moreR; split <;> simp
theorem gr_moreR (A : Nat) (C : List (List Int)) (k : Nat) (j : Nat) : gr (moreR A C k) j = if k = C.length ∧ j = C.length then List.replicate A 0 else gr C j := by
  unfold moreR
  by_cases e : k = C.length
  · rw [if_pos e]
    unfold gr
    rw [List.getD_eq_getElem?_getD, List.getD_eq_getElem?_getD]
    by_cases g : j = C.length
    · rw [if_pos ⟨e, g⟩]; subst g; simp
    · rw [if_neg (fun h => g h.2)]
      rcases Nat.lt_or_ge j C.length with h | h
      · rw [List.getElem?_append_left h]
      · rw [List.getElem?_eq_none (by simp; omega), List.getElem?_eq_none h]
  · rw [if_neg e, if_neg (fun h => e h.1)]
theorem RwOk.more {A : Nat} {C : List (List Int)} {i : Nat} (h : RwOk A C i) (k : Nat) : RwOk A (moreR A C k) i := by
  intro j hj
  rw [moreR_len] at hj
  rw [gr_moreR]
  by_cases e : k = C.length ∧ j = C.length
  · rw [if_pos e]
    refine ⟨by simp, fun x hx => ?_⟩
    have : gi (List.replicate A (0 : Int)) x = 0 := by
      unfold gi
      rw [List.getD_eq_getElem?_getD, List.getElem?_replicate]
      split <;> rfl
    rw [this]; omega
  · rw [if_neg e]
    exact h j (by split at hj <;> omega)
theorem RwOk.put {A : Nat} {C : List (List Int)} {i k x : Nat} (h : RwOk A C i) (hk : k < C.length) : RwOk A (putR C k x) (i + 1) := by
  intro j hj
  rw [putR_len] at hj
  rw [gr_putR C x hk]
  by_cases e : j = k
  · subst e
    rw [if_pos rfl]
    refine ⟨by rw [List.length_set]; exact (h j hk).1, fun y hy => ?_⟩
    rw [gi_setY]
    have h2 := (h j hk).2 y hy
    by_cases g : y = x ∧ x < (gr C j).length
    · rw [if_pos g, ← g.1]; omega
    · rw [if_neg g]; omega
  · rw [if_neg e]
    exact ⟨(h j hj).1, fun y hy => by have := (h j hj).2 y hy; omega⟩
theorem ldL_more (K : Int) (l : List (Int × Int)) (C : List (List Int)) (k : Nat) : ldL K l (moreR l.length C k) = ldL K l C := by
  funext j
  unfold ldL
  rw [gr_moreR]
  by_cases e : k = C.length ∧ j = C.length
  · rw [if_pos e, sumF_zero, gr_nilY (by omega), sumF_nil]
  · rw [if_neg e]
theorem ldL_put (K : Int) {l : List (Int × Int)} {C : List (List Int)} {k x : Nat} (hk : k < C.length) (hl : (gr C k).length = l.length) (hx : x < l.length) : ldL K l (putR C k x) = updI (ldL K l C) k (ldL K l C k + ((gp l x).1 + K)) := by
  funext j
  unfold ldL updI
  rw [gr_putR C x hk]
  by_cases e : j = k
  · rw [if_pos e, if_pos e, sumF_set K l _ (by omega), if_pos hx]
  · rw [if_neg e, if_neg e]
/-- The roll fits just where its load does. -/
theorem fit_ld {L K : Int} {l : List (Int × Int)} {C : List (List Int)} {i k : Nat} (h : RwOk l.length C i) (hi : i ≤ 50) (hk : k < C.length) : fitB L K l (gr C k) = decide (ldL K l C k ≤ L + K) := by
  have hl := (h k hk).1
  by_cases e : ldL K l C k ≤ L + K
  · rw [decide_eq_true e]
    refine fitB_t ⟨fun j hj => ?_, by rw [hl]; exact e⟩
    have := (h k hk).2 j (by omega)
    exact ⟨this.1, by omega⟩
  · rw [decide_eq_false e]
    exact fitB_f fun g => e (by have := g.2; rw [hl] at this; exact this)
def szP (K : Int) (l : List (Int × Int)) (P : List Int) : List Int := P.map fun x => (gp l x.toNat).1 + K
/-- What the search answers for roll k. -/
noncomputable def pkT (L K : Int) (l : List (Int × Int)) (n : Nat) (T : List Int) (C : List (List Int)) (k x : Nat) : Bool :=
  fitB L K l (gr (putR (moreR l.length C k) k x) k) && pkF n (L + K) T (putR (moreR l.length C k) k x).length (ldL K l (putR (moreR l.length C k) k x))
theorem pkT_eq {L K : Int} {l : List (Int × Int)} {n : Nat} {T : List Int} {C : List (List Int)} {i k x : Nat} (h : RwOk l.length C i) (hi : i < 50) (hk : k ≤ C.length) (hx : x < l.length) :
    pkT L K l n T C k x = (decide (ldL K l C k + ((gp l x).1 + K) ≤ L + K) && pkF n (L + K) T (if k = C.length then C.length + 1 else C.length) (updI (ldL K l C) k (ldL K l C k + ((gp l x).1 + K)))) := by
  have hkm : k < (moreR l.length C k).length := by rw [moreR_len]; split <;> omega
  have hp := (h.more k).put (x := x) hkm
  unfold pkT
  rw [fit_ld hp (by omega) (by rw [putR_len]; exact hkm), ldL_put K hkm ((h.more k) k hkm).1 hx, putR_len, moreR_len, updI_same, ldL_more]
theorem pk_true {L K : Int} {l : List (Int × Int)} {n : Nat} {T : List Int} {C : List (List Int)} {i k x : Nat} (h : RwOk l.length C i) (hi : i < 50) (hk : k ≤ C.length) (hn : k < n) (hx : x < l.length) (ht : pkT L K l n T C k x = true) :
    pkF n (L + K) (((gp l x).1 + K) :: T) C.length (ldL K l C) = true := by
  rw [pkF, List.any_eq_true]
  exact ⟨k, by rw [List.mem_range]; omega, by rw [← pkT_eq h hi hk hx]; exact ht⟩
theorem pk_false {L K : Int} {l : List (Int × Int)} {n : Nat} {T : List Int} {C : List (List Int)} {i x : Nat} (h : RwOk l.length C i) (hi : i < 50) (hx : x < l.length) (ht : ∀ k, k ≤ C.length → k < n → pkT L K l n T C k x = false) :
    pkF n (L + K) (((gp l x).1 + K) :: T) C.length (ldL K l C) = false := by
  rw [pkF, List.any_eq_false]
  intro k hk
  rw [List.mem_range] at hk
  have := ht k (by omega) (by omega)
  rw [pkT_eq h hi (by omega) hx] at this
  rw [this]; decide
end Go.Proofs.Ytmeoekcajmgiaaa
