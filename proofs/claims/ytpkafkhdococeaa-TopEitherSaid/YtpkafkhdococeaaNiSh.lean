/-
  Shortage of package night. By an AI agent.
-/
import Derived.Test.YtpkafkhdococeaaNiIs
import Derived.Test.YtpkafkhdococeaaNiQd
import Derived.Deep.RegionHeld3
import Derived.BigQuiet
import Derived.Carry
namespace Go.Proofs.Ytpkafkhdococeaa
set_option linter.unusedVariables false
set_option linter.unusedSimpArgs false
open Go.RowKit

theorem idxK_cases (p : Nat → Bool) : ∀ n, idxK p n = -1 ∨ ∃ k, k < n ∧ idxK p n = (k : Int) ∧ p k = true
  | 0 => .inl rfl
  | n + 1 => by
    rcases idxK_cases p n with h | ⟨k, h1, h2, h3⟩
    · unfold idxK
      rw [if_pos h]
      by_cases e : p n = true
      · rw [if_pos e]; exact .inr ⟨n, by omega, rfl, e⟩
      · rw [if_neg e]; exact .inl rfl
    · refine .inr ⟨k, by omega, ?_, h3⟩
      unfold idxK
      rw [if_neg (by rw [h2]; omega)]
      exact h2
set_option maxRecDepth 100000 in
set_option maxHeartbeats 1000000 in
theorem index_v (a : Option Addr) (l : List Int) (ca : Nat) (x : Int) (w : World) (hA : IntsC w a l) :
    Calls Try.prog 67 #[.slice a l.length ca, .int .i64 x] w fun e w' => e = .returned (.int .i64 (idxK (fun k => x == gi l k) l.length)) ∧ w' = w := by
  obtain ⟨hlen, blk, off, hadr, hc⟩ := hA
  have HC := Lib.hid hc
  have HL : Hid (0 < l.length → a = some ⟨blk, off, none⟩) := Lib.hid fun h => hadr (pos_ne (n := 0) h)
  have HH : Hid (∀ k, k < l.length → (x == gi l k) = true → (∀ j, j < k → (x == gi l j) = false) → idxK (fun k => x == gi l k) l.length = k) := Lib.hid fun k hk h hb => idxK_hit h hb _ hk
  have HM : Hid ((∀ j, j < l.length → (x == gi l j) = false) → idxK (fun k => x == gi l k) l.length = -1) := Lib.hid fun h => idxK_miss _ h
  generalize idxK (fun k => x == gi l k) l.length = R at *
  clear hc hadr
  go_enter Try.func67, Try.ntmps67
  go_wp2_with fail
  go_loopw [8] (fun i wr => ∃ k : Nat, k ≤ l.length ∧ i = .int .i64 k ∧ wr = w ∧ Hid (∀ j, j < k → (x == gi l j) = false)) (fun i _ => l.length - (intOf i).toNat)
  case atStart => exact ⟨0, Nat.zero_le _, rfl, rfl, Lib.hid fun j hj => absurd hj (Nat.not_lt_zero _)⟩
  case round =>
    obtain ⟨k, hk, rfl, rfl, HA⟩ := hrel
    by_cases hlt : k < l.length
    · obtain rfl := HL.out (by omega)
      have c0 := HC.out k hlt
      have HHk := Lib.hid (HH.out k hlt)
      have HN : Hid ((x == gi l k) = false → ∀ j, j < k + 1 → (x == gi l j) = false) := Lib.hid fun h j hj => by
        by_cases e : j = k
        · subst e; exact h
        · exact HA.out j (by omega)
      clear HC HM HL HH
      generalize hy : gi l k = y at *
      have hy := Lib.hid hy
      cases hpk : (x == y) with
      | true =>
        have HR := Lib.hid (HHk.out hpk HA.out)
        clear HHk HN
        go_wp2_with fail
        go_ret
        exact ⟨by rw [HR.out]; rfl, rfl⟩
      | false =>
        have HR := Lib.hid (HN.out hpk)
        clear HHk HN
        go_wp2_with fail
        go_roundw
        case rel => exact ⟨k + 1, by omega, by go_num, by first | rfl | trivial, HR⟩
        case measure => simp [intOf]; omega
    · obtain rfl : k = l.length := by omega
      have HR := Lib.hid (HM.out HA.out)
      go_wp2_with fail
      go_ret
      exact ⟨by rw [HR.out]; rfl, rfl⟩
set_option maxRecDepth 100000 in
set_option maxHeartbeats 1000000 in
theorem sh1_r (u g cg bt nt Bu Bt Bp k L : Nat) (pl : List Int) (T : Int → Bool) (hL : pl.length = L) (hk : k < L) (w : World) (cu : w.cell? ⟨Bu, 0, none⟩ = some (.int .i64 u)) (ct : w.cell? ⟨Bt, 0, none⟩ = some (.map (some bt))) (cp : w.cell? ⟨Bp, 0, none⟩ = some (.slice (some ⟨g, 0, none⟩) L cg))
    (hP : PlanR w g pl) (hM : MB w bt nt T) (hb0 : -1 ≤ gi pl k) (hb1 : gi pl k ≤ 1000) :
    Calls Try.prog 69 (#[.int .i64 k] ++ #[.pointer (some ⟨Bu, 0, none⟩), .pointer (some ⟨Bt, 0, none⟩), .pointer (some ⟨Bp, 0, none⟩)]) w fun e w' => e = .returned (.bool ((k == u) || T (gi pl k))) ∧ Below w.heap.size w w' := by
  have cg := hP.1 k (by rw [hL]; exact hk)
  have hMd : MB w.drew bt nt T := hM.drew
  generalize gi pl k = x at *
  have hlk := hM.look (t := 92) underI underMB underB (zeroB _) x (wf64 (by omega) (by omega))
  have hlkd := hMd.look (t := 92) underI underMB underB (zeroB _) x (wf64 (by omega) (by omega))
  have hk1 : decide ((0 : Int) ≤ k) = true := decide_eq_true (by omega)
  have hk2 : decide ((k : Int) < L) = true := decide_eq_true (by omega)
  clear hP hM hMd hL
  by_cases hku : k = u
  · subst hku
    have e1 : ((k : Int) == (k : Int)) = true := by simp
    have hR : Hid (((k == k) || T x) = true) := Lib.hid (by simp)
    go_enter Try.func69, Try.ntmps69
    go_wp2_with fail
    go_quiet (fail)
    go_wp2_with fail
    go_ret
    exact ⟨by rw [hR.out]; rfl, below_drewN (Below.refl _ _) _⟩
  · have e1 : ((k : Int) == (u : Int)) = false := beq_false_of_ne (by omega)
    have hR : Hid (((k == u) || T x) = T x) := Lib.hid (by rw [show (k == u) = false from beq_false_of_ne hku]; rfl)
    clear hku
    generalize T x = b at *
    go_enter Try.func69, Try.ntmps69
    go_wp2_with fail
    go_region_law (fail)
    all_goals
      go_wp2_with fail
      go_ret
      exact ⟨by rw [hR.out]; rfl, by first | exact (Below.refl _ _).drew | exact below_drewN (Below.refl _ _) _ | exact Below.refl _ _⟩
end Go.Proofs.Ytpkafkhdococeaa
