/-
  Shortage of package night. By an AI agent.
-/
import Derived.Test.YtghlhjiomebmhaaNiIs
import Derived.Test.YtghlhjiomebmhaaNiQd
import Derived.Deep.RegionHeld3
import Derived.BigQuiet
import Derived.Carry
namespace Go.Proofs.Ytghlhjiomebmhaa
set_option linter.unusedVariables false
set_option linter.unusedSimpArgs false
open Go.RowKit

theorem idxK_cases (p : Nat → Bool) : ∀ n, idxK p n = -1 ∨ ∃ k, k < n ∧ idxK p n = (k : Int) ∧ p k = true
  | 0 => .inl rfl
  | n + 1 => by
    rcases idxK_cases p n with h | ⟨k, h1, h2, h3⟩
    · unfold idxK
      rw [if_pos h]
      by_cases e : p n = true
      · rw [if_pos e]; exact .inr ⟨n, by omega, rfl, e⟩
      · rw [if_neg e]; exact .inl rfl
    · refine .inr ⟨k, by omega, ?_, h3⟩
      unfold idxK
      rw [if_neg (by rw [h2]; omega)]
      exact h2
set_option maxRecDepth 100000 in
set_option maxHeartbeats 1000000 in
theorem index_v (a : Option Addr) (l : List Int) (ca : Nat) (x : Int) (w : World) (hA : IntsC w a l) :
    Calls Try.prog 66 #[.slice a l.length ca, .int .i64 x] w fun e w' => e = .returned (.int .i64 (idxK (fun k => x == gi l k) l.length)) ∧ w' = w := by
  obtain ⟨hlen, blk, off, hadr, hc⟩ := hA
  have HC := Lib.hid hc
  have HL : Hid (0 < l.length → a = some ⟨blk, off, none⟩) := Lib.hid fun h => hadr (pos_ne (n := 0) h)
  have HH : Hid (∀ k, k < l.length → (x == gi l k) = true → (∀ j, j < k → (x == gi l j) = false) → idxK (fun k => x == gi l k) l.length = k) := Lib.hid fun k hk h hb => idxK_hit h hb _ hk
  have HM : Hid ((∀ j, j < l.length → (x == gi l j) = false) → idxK (fun k => x == gi l k) l.length = -1) := Lib.hid fun h => idxK_miss _ h
  generalize idxK (fun k => x == gi l k) l.length = R at *
  clear hc hadr
  go_enter Try.func66, Try.ntmps66
  go_wp2_with fail
  go_loopw [8] (fun i wr => ∃ k : Nat, k ≤ l.length ∧ i = .int .i64 k ∧ wr = w ∧ Hid (∀ j, j < k → (x == gi l j) = false)) (fun i _ => l.length - (intOf i).toNat)
  case atStart => exact ⟨0, Nat.zero_le _, rfl, rfl, Lib.hid fun j hj => absurd hj (Nat.not_lt_zero _)⟩
  case round =>
    obtain ⟨k, hk, rfl, rfl, HA⟩ := hrel
    by_cases hlt : k < l.length
    · obtain rfl := HL.out (by omega)
      have c0 := HC.out k hlt
      have HHk := Lib.hid (HH.out k hlt)
      have HN : Hid ((x == gi l k) = false → ∀ j, j < k + 1 → (x == gi l j) = false) := Lib.hid fun h j hj => by
        by_cases e : j = k
        · subst e; exact h
        · exact HA.out j (by omega)
      clear HC HM HL HH
      generalize hy : gi l k = y at *
      have hy := Lib.hid hy
      cases hpk : (x == y) with
      | true =>
        have HR := Lib.hid (HHk.out hpk HA.out)
        clear HHk HN
        go_wp2_with fail
        go_ret
        exact ⟨by rw [HR.out]; rfl, rfl⟩
      | false =>
        have HR := Lib.hid (HN.out hpk)
        clear HHk HN
        go_wp2_with fail
        go_roundw
        case rel => exact ⟨k + 1, by omega, by go_num, by first | rfl | trivial, HR⟩
        case measure => simp [intOf]; omega
    · obtain rfl : k = l.length := by omega
      have HR := Lib.hid (HM.out HA.out)
      go_wp2_with fail
      go_ret
      exact ⟨by rw [HR.out]; rfl, rfl⟩
end Go.Proofs.Ytghlhjiomebmhaa
