/-
  The walks of locate above all slopes, of the reference's cell, and of both coefficients. By an AI agent.
-/
import Derived.Test.YtelehohffcncaaaLightC
namespace Go.Proofs.Ytelehohffcncaaa
set_option linter.unusedVariables false
set_option linter.unusedSimpArgs false
open Go.RowKit

set_option maxRecDepth 100000 in
set_option maxHeartbeats 1000000 in
/-- locate, of a slope above all. -/
theorem locate_out (a : Option Addr) (l : List Int) (cap : Nat) (x : Int) (w : World) (hI : IntsS w a l) (hcap : l.length ≤ cap) (hS : SlopesOk l) (hx0 : I64 x) (hx : above l x) :
    Calls Try.prog 36 #[.slice a l.length cap, .int .i64 x] w fun e w' => e = .returned (.tuple #[.int .i64 0, .int .i64 0, .bool false]) ∧ w = w' := by
  obtain ⟨hlen, hbd, blk, off, hadr, hc⟩ := hI
  have n0 := hS.1
  have n1 := hS.2.1
  obtain rfl := hadr (fun h => by rw [h] at n0; simp at n0)
  have c0 := hc 0 (by omega)
  rw [Nat.add_zero] at c0
  have hle : ∀ k, k < l.length → gi l k < x := fun k hk => by have := slopes_le hS (show k ≤ l.length - 1 by omega) (by omega); unfold above at hx; omega
  have HC : Hid (∀ k : Nat, k < l.length - 1 → w.cell? ⟨blk, off + 1 + k, none⟩ = some (.int .i64 (gi l (k + 1))) ∧ I64 (gi l (k + 1)) ∧ gi l (k + 1) < x) := Lib.hid fun k h1 => by
    rw [show off + 1 + k = off + (k + 1) from by omega]; exact ⟨hc (k + 1) (by omega), hbd (k + 1) (by omega), hle (k + 1) (by omega)⟩
  have hb0 := slopes_bd hS (i := 0) (by omega)
  have h00 := hle 0 (by omega)
  obtain ⟨x0, x1⟩ := hx0
  obtain ⟨p0, p1⟩ := hb0
  clear hc hbd hS hadr hx hle
  generalize gi l 0 = g at *
  have hcap1 : ¬ cap = 1 := by omega
  have hcap2 : 1 < cap := by omega
  go_enter Try.func36, Try.ntmps36
  go_wp2_with fail
  go_loop [17] (fun i => ∃ k : Nat, k + 1 ≤ l.length ∧ i = .int .i64 k) (fun i => l.length - (intOf i).toNat)
  case atStart => exact ⟨0, by omega, rfl⟩
  case round =>
    obtain ⟨k, hk, rfl⟩ := hrel
    by_cases hlt : k < l.length - 1
    · obtain ⟨hck, ⟨y0, y1⟩, y2⟩ := HC.out k hlt
      generalize gi l (k + 1) = y at *
      go_wp2_with fail
      go_round
      case rel => exact ⟨k + 1, by omega, by go_num⟩
      case measure => simp [intOf]; omega
    · go_wp2_with fail
      go_returns
      exact ⟨rfl, rfl⟩

end Go.Proofs.Ytelehohffcncaaa
