/-
  Plain mathematics of FaceWider: the texts of a panel lie within its rim, and a letter more never gives a smaller panel. By an AI agent.
-/
import Derived.Test.YtbogmdelceikgaaGreatDoorPanA
namespace Go.Proofs.YtbogmdelceikgaaGreatDoor

theorem longest_mono (u : Int) (ls ls' : List ByteArray) (hl : ls'.length = ls.length) (h : ∀ j (h1 : j < ls.length) (h2 : j < ls'.length), lenV ls[j] u ≤ lenV ls'[j] u) : longest u ls ≤ longest u ls' := by
  have key : ∀ k, k ≤ ls.length → longest u (ls.take k) ≤ longest u (ls'.take k) := by
    intro k
    induction k with
    | zero => intro _; rw [List.take_zero, List.take_zero]; exact Int.le_refl _
    | succ k ih =>
      intro hk
      rw [longest_snoc u ls k (by omega), longest_snoc u ls' k (by omega)]
      have := ih (by omega)
      have := h k (by omega) (by omega)
      omega
  have := key ls.length (Nat.le_refl _)
  rwa [List.take_length, ← hl, List.take_length] at this
theorem lenV_more {s t : ByteArray} {u : Int} (hu : btw u 1 200 = true) (hs : spB s = true) (ht : spB t = true) (h : s.size ≤ t.size) : lenV s u ≤ lenV t u := by
  obtain ⟨u0, u1⟩ := (btw_iff _ _ _).1 hu
  unfold lenV
  rw [hu, hs, ht]
  show (6 * (s.size : Int) - 1) * u ≤ (6 * (t.size : Int) - 1) * u
  exact Int.mul_le_mul_of_nonneg_right (by omega) (by omega)
/-- What the law asks of the text of line k. -/
theorem line_lies {u n S q H T l : Int} {k : Nat} (u0 : 1 ≤ u) (hk : (k : Int) < n) (hq : q = (11 * n + 2) * u) (h0 : q ≤ H) (hT : T = H - 3 * u - (H - q) / 2) (hl : l + 6 * u ≤ S) :
    u ≤ (S - l) / 2 ∧ (S - l) / 2 + l ≤ S - u ∧ u ≤ T - 7 * u - 11 * u * k ∧ T ≤ H - u := by
  have hp : 11 * u * (k : Int) ≤ 11 * u * (n - 1) := Int.mul_le_mul_of_nonneg_left (by omega) (by omega)
  have e : 11 * u * (n - 1) = 11 * (n * u) - 11 * u := by rw [Int.mul_sub, Int.mul_one, Int.mul_assoc, Int.mul_comm u n]
  have e2 : q = 11 * (n * u) + 2 * u := by rw [hq, Int.add_mul, Int.mul_assoc]
  refine ⟨by omega, by omega, by omega, by omega⟩
theorem line_next (u T : Int) (k : Nat) (u0 : 1 ≤ u) : T - 7 * u - 11 * u * ((k + 1 : Nat) : Int) + 7 * u ≤ T - 7 * u - 11 * u * (k : Int) := by
  have e : 11 * u * ((k + 1 : Nat) : Int) = 11 * u * (k : Int) + 11 * u := by rw [Int.natCast_add, Int.mul_add]; simp
  omega
end Go.Proofs.YtbogmdelceikgaaGreatDoor
