/-
  The walks of Aged, of its callees, and of its reference. By an AI agent.
-/
import Derived.Test.YtpkafkhdococeaaLightA
namespace Go.Proofs.Ytpkafkhdococeaa
set_option linter.unusedVariables false
set_option linter.unusedSimpArgs false
open Go.RowKit

theorem coefValid_any (r : Int) (w : World) : Calls Try.prog 91 #[.int .i64 r] w fun e w' => e = .returned (.bool (btw r 0 100000)) ∧ w = w' := by
  go_enter Try.func91, Try.ntmps91
  go_wp2_with (go_at_call 103; refine (between_any _ _ _ _).mono ?_; rintro e w' ⟨rfl, rfl⟩)
  go_ret
  exact ⟨rfl, rfl⟩
def ageB (keep years : Int) : Bool := btw keep 0 1000 && btw years 0 300
theorem afterYear_any (r keep : Int) (w : World) (h0 : 0 ≤ r) (h1 : r ≤ 100000) (k0 : 0 ≤ keep) (k1 : keep ≤ 1000) : Calls Try.prog 92 #[.int .i64 r, .int .i64 keep] w fun e w' => e = .returned (.int .i64 (r * keep / 1000)) ∧ w = w' := by
  have p := prod_bd h0 h1 k0 k1
  obtain ⟨q, hq⟩ : ∃ q, r * keep = q := ⟨_, rfl⟩
  rw [hq] at p
  obtain ⟨p0, p1⟩ := p
  rw [hq]
  go_enter Try.func92, Try.ntmps92
  go_wp2
  go_ret
  exact ⟨rfl, rfl⟩
/-- What Aged answers. -/
def agedB (r keep years : Int) : Bool := btw r 0 100000 && ageB keep years
def agedV (r keep years : Int) : Int := if agedB r keep years then agV r keep years.toNat else 0
def agedE (r keep years : Int) : Int := if agedB r keep years then 0 else 2
theorem agedB_iff (r keep years : Int) : agedB r keep years = true ↔ (0 ≤ r ∧ r ≤ 100000) ∧ (0 ≤ keep ∧ keep ≤ 1000) ∧ 0 ≤ years ∧ years ≤ 300 := by
  unfold agedB ageB; rw [Bool.and_eq_true, Bool.and_eq_true, btw_iff, btw_iff, btw_iff]
end Go.Proofs.Ytpkafkhdococeaa
