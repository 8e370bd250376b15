/-
  The walks of Coefficient, of long, and of the statements' sanity check. By an AI agent.
-/
import Derived.Test.YtpkafkhdococeaaLightF
import Derived.Test.YtpkafkhdococeaaLightB
namespace Go.Proofs.Ytpkafkhdococeaa
set_option linter.unusedVariables false
set_option linter.unusedSimpArgs false
open Go.RowKit

/-- What Coefficient answers. -/
noncomputable def coV (o e : List Int) (r : List (List Int)) (x y : Int) : Int := if tableB o e r = true ∧ 0 ≤ x ∧ 0 ≤ y then coefV o e r x y else 0
noncomputable def coE (o e : List Int) (r : List (List Int)) (x y : Int) : Int := if tableB o e r = true then (if 0 ≤ x ∧ 0 ≤ y then 0 else 2) else 30

abbrev exR : List (List Int) := [[250, 110], [80, 10]]
theorem exOk : TableOk [3500, 17500] [90000, 580000] exR := by
  have S : ∀ a b : Int, 1 ≤ a → a < b → b ≤ 1000000 → SlopesOk [a, b] := fun a b h1 h2 h3 => ⟨by simp, by simp, fun i hi => by
    match i, hi with
    | 0, _ => exact ⟨by simpa [gi] using h1, by simp [gi]; omega, .inl rfl⟩
    | 1, _ => exact ⟨by simp [gi]; omega, by simpa [gi] using h3, .inr (by simpa [gi] using h2)⟩⟩
  refine ⟨S _ _ (by omega) (by omega) (by omega), S _ _ (by omega) (by omega) (by omega), rfl, fun i hi => ?_⟩
  match i, hi with
  | 0, _ => exact ⟨rfl, fun k hk => by
      match k, hk with
      | 0, _ => exact ⟨by simp [gi, gr], by simp [gi, gr], .inl rfl, .inl rfl⟩
      | 1, _ => exact ⟨by simp [gi, gr], by simp [gi, gr], .inr (by simp [gi, gr]), .inl rfl⟩⟩
  | 1, _ => exact ⟨rfl, fun k hk => by
      match k, hk with
      | 0, _ => exact ⟨by simp [gi, gr], by simp [gi, gr], .inl rfl, .inr (by simp [gi, gr])⟩
      | 1, _ => exact ⟨by simp [gi, gr], by simp [gi, gr], .inr (by simp [gi, gr]), .inr (by simp [gi, gr])⟩⟩
theorem exV : coV [3500, 17500] [90000, 580000] exR 10500 90000 = 165 := by
  unfold coV
  rw [if_pos ⟨tableB_t exOk, by omega, by omega⟩, coefV_at exOk.1 exOk.2.1 (i := 0) (k := 0) (by decide) (by decide) ⟨by decide, by decide, by decide⟩ ⟨by decide, by decide, by decide⟩]
  decide
theorem exE : coE [3500, 17500] [90000, 580000] exR 10500 90000 = 0 := by
  unfold coE
  rw [if_pos (tableB_t exOk), if_pos (by omega)]
theorem ints_two {W : World} {b : Nat} {x y : Int} (h0 : W.cell? ⟨b, 0, none⟩ = some (.int .i64 x)) (h1 : W.cell? ⟨b, 1, none⟩ = some (.int .i64 y)) (hx : I64 x) (hy : I64 y) : IntsS W (some ⟨b, 0, none⟩) [x, y] :=
  ⟨by simp, fun i hi => by
    match i, hi with
    | 0, _ => exact hx
    | 1, _ => exact hy, b, 0, fun _ => rfl, fun i hi => by
    match i, hi with
    | 0, _ => exact h0
    | 1, _ => exact h1⟩

end Go.Proofs.Ytpkafkhdococeaa
