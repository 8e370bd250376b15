/-
  The walks of locate above all slopes, of the reference's cell, and of both coefficients. By an AI agent.
-/
import Derived.Test.YtkddmjadilmldaaLightC
namespace Go.Proofs.Ytkddmjadilmldaa
set_option linter.unusedVariables false
set_option linter.unusedSimpArgs false
open Go.RowKit

set_option maxRecDepth 100000 in
set_option maxHeartbeats 1000000 in
/-- locate, of a slope above all. -/
theorem locate_out (a : Option Addr) (l : List Int) (cap : Nat) (x : Int) (w : World) (hI : IntsS w a l) (hcap : l.length ≤ cap) (hS : SlopesOk l) (hx0 : I64 x) (hx : above l x) :
    Calls Try.prog 61 #[.slice a l.length cap, .int .i64 x] w fun e w' => e = .returned (.tuple #[.int .i64 0, .int .i64 0, .bool false]) ∧ w = w' := by
  obtain ⟨hlen, hbd, blk, off, hadr, hc⟩ := hI
  have n0 := hS.1
  have n1 := hS.2.1
  obtain rfl := hadr (fun h => by rw [h] at n0; simp at n0)
  have c0 := hc 0 (by omega)
  rw [Nat.add_zero] at c0
  have hle : ∀ k, k < l.length → gi l k < x := fun k hk => by have := slopes_le hS (show k ≤ l.length - 1 by omega) (by omega); unfold above at hx; omega
  have HC : Hid (∀ k : Nat, k < l.length - 1 → w.cell? ⟨blk, off + 1 + k, none⟩ = some (.int .i64 (gi l (k + 1))) ∧ I64 (gi l (k + 1)) ∧ gi l (k + 1) < x) := Lib.hid fun k h1 => by
    rw [show off + 1 + k = off + (k + 1) from by omega]; exact ⟨hc (k + 1) (by omega), hbd (k + 1) (by omega), hle (k + 1) (by omega)⟩
  have hb0 := slopes_bd hS (i := 0) (by omega)
  have h00 := hle 0 (by omega)
  obtain ⟨x0, x1⟩ := hx0
  obtain ⟨p0, p1⟩ := hb0
  clear hc hbd hS hadr hx hle
  generalize gi l 0 = g at *
  have hcap1 : ¬ cap = 1 := by omega
  have hcap2 : 1 < cap := by omega
  go_enter Try.func61, Try.ntmps61
  go_wp2_with fail
  go_loop [17] (fun i => ∃ k : Nat, k + 1 ≤ l.length ∧ i = .int .i64 k) (fun i => l.length - (intOf i).toNat)
  case atStart => exact ⟨0, by omega, rfl⟩
  case round =>
    obtain ⟨k, hk, rfl⟩ := hrel
    by_cases hlt : k < l.length - 1
    · obtain ⟨hck, ⟨y0, y1⟩, y2⟩ := HC.out k hlt
      generalize gi l (k + 1) = y at *
      go_wp2_with fail
      go_round
      case rel => exact ⟨k + 1, by omega, by go_num⟩
      case measure => simp [intOf]; omega
    · go_wp2_with fail
      go_returns
      exact ⟨rfl, rfl⟩

set_option maxRecDepth 100000 in
set_option maxHeartbeats 1000000 in
theorem cell_out (a : Option Addr) (l : List Int) (cap : Nat) (x : Int) (w : World) (hI : IntsS w a l) (hS : SlopesOk l) (hx0 : I64 x) (hx : above l x) :
    Calls Try.prog 64 #[.slice a l.length cap, .int .i64 x] w fun e w' => e = .returned (.tuple #[.int .i64 0, .bool false]) ∧ w = w' := by
  obtain ⟨hlen, hbd, blk, off, hadr, hc⟩ := hI
  have n0 := hS.1
  have n1 := hS.2.1
  obtain rfl := hadr (fun h => by rw [h] at n0; simp at n0)
  obtain ⟨m, hm⟩ : ∃ m, l.length = m + 1 := ⟨l.length - 1, by omega⟩
  have cl := hc m (by omega)
  have hb0 := slopes_bd hS (i := m) (by omega)
  unfold above at hx
  rw [hm, Nat.add_sub_cancel] at hx
  obtain ⟨x0, x1⟩ := hx0
  obtain ⟨p0, p1⟩ := hb0
  have hm1 : m ≤ 5 := by omega
  rw [hm]
  clear hc hbd hS hadr hm n0 n1 hlen
  generalize gi l m = g at *
  go_enter Try.func64, Try.ntmps64
  go_wp2_with fail
  go_returns
  exact ⟨rfl, rfl⟩

set_option maxRecDepth 100000 in
set_option maxHeartbeats 1000000 in
theorem cell_in (a : Option Addr) (l : List Int) (cap : Nat) (x : Int) (w : World) (hI : IntsS w a l) (hS : SlopesOk l) (hx0 : I64 x) (hx : ¬ above l x) (hx1 : gi l 0 ≤ x) :
    Calls Try.prog 64 #[.slice a l.length cap, .int .i64 x] w fun e w' => (∃ k : Nat, InCell l x k ∧ e = .returned (.tuple #[.int .i64 k, .bool true])) ∧ w = w' := by
  obtain ⟨hlen, hbd, blk, off, hadr, hc⟩ := hI
  have n0 := hS.1
  have n1 := hS.2.1
  obtain rfl := hadr (fun h => by rw [h] at n0; simp at n0)
  have cl := hc (l.length - 1) (by omega)
  have hb0 := slopes_bd hS (i := l.length - 1) (by omega)
  have HE : Hid (∀ k : Nat, k + 2 ≤ l.length → (∀ j, j < k → gi l (j + 1) ≤ x) → (k + 2 < l.length → x < gi l (k + 1)) → InCell l x k) := Lib.hid fun k h1 h2 h3 => ⟨by omega, by
    by_cases e : k = 0
    · subst e; exact hx1
    · have := h2 (k - 1) (by omega); rwa [show k - 1 + 1 = k from by omega] at this, by
    by_cases e : k + 2 < l.length
    · have := h3 e; omega
    · unfold above at hx; rw [show l.length - 1 = k + 1 from by omega] at hx; omega⟩
  have HC : Hid (∀ k : Nat, k + 2 < l.length → w.cell? ⟨blk, off + (k + 1), none⟩ = some (.int .i64 (gi l (k + 1))) ∧ I64 (gi l (k + 1))) := Lib.hid fun k h1 => ⟨hc (k + 1) (by omega), hbd (k + 1) (by omega)⟩
  unfold above at hx
  obtain ⟨x0, x1⟩ := hx0
  obtain ⟨p0, p1⟩ := hb0
  have e2 : ((l.length : Int) - 1).toNat = l.length - 1 := by omega
  clear hc hbd hS hadr hx1
  generalize gi l (l.length - 1) = g at *
  obtain ⟨m, hm⟩ : ∃ m, l.length = m + 2 := ⟨l.length - 2, by omega⟩
  generalize l.length = L at *
  subst hm
  rw [show m + 2 - 1 = m + 1 from by omega] at cl
  clear e2
  go_enter Try.func64, Try.ntmps64
  go_wp2_with fail
  go_loop [6] (fun i => ∃ k : Nat, k + 2 ≤ m + 2 ∧ i = .int .i64 k ∧ Hid (∀ j, j < k → gi l (j + 1) ≤ x)) (fun i => m + 2 - (intOf i).toNat)
  case atStart => exact ⟨0, by omega, rfl, Lib.hid fun j hj => absurd hj (Nat.not_lt_zero _)⟩
  case round =>
    obtain ⟨k, hk, rfl, HA⟩ := hrel
    by_cases hlt : k + 2 < m + 2
    · obtain ⟨hck, y0, y1⟩ := HC.out k hlt
      have HK := Lib.hid (HE.out k (by omega) HA.out)
      have HN : Hid (gi l (k + 1) ≤ x → ∀ j, j < k + 1 → gi l (j + 1) ≤ x) := Lib.hid fun h j hj => by
        by_cases e : j = k
        · subst e; exact h
        · exact HA.out j (by omega)
      have g2 : (k : Int) < (m : Int) := by omega
      generalize gi l (k + 1) = y at *
      by_cases hy : y ≤ x
      · have HR := Lib.hid (HN.out hy)
        clear HK HN
        go_wp2_with fail
        go_round
        case rel => exact ⟨k + 1, by omega, by go_num, HR⟩
        case measure => simp [intOf]; omega
      · have HR := Lib.hid (HK.out (fun _ => by omega))
        clear HK HN
        go_wp2_with fail
        go_returns
        exact ⟨⟨k, HR.out, rfl⟩, rfl⟩
    · have HR := Lib.hid (HE.out k (by omega) HA.out (fun h => absurd h hlt))
      obtain rfl : k = m := by omega
      go_wp2_with fail
      go_returns
      exact ⟨⟨k, HR.out, rfl⟩, rfl⟩
end Go.Proofs.Ytkddmjadilmldaa
