/-
  Arguments, opened: times. By an AI agent.
-/
import Derived.Test.YtmdifgkalooaoaaShopO
namespace Go.Proofs.Ytmdifgkalooaoaa
set_option linter.unusedVariables false
set_option linter.unusedSimpArgs false
open Go.RowKit Go.ChangeShapes Go.WideShapes Go.ChangeAt
set_option maxRecDepth 100000
section
variable {H : Type} {enc : TypeId × Value → H} {W : World} {base : Nat} {sp : Nat → Bool} {held : Bool}
theorem open_times {v : Value} {d : DataW H} {p : List MemPlace} (hv : Value.okWide Try.prog W .any base 67 v) (h : DataW.Trod enc Try.prog W 0 sp held 67 v d p) :
    ∃ x0 x1 x2 x3 : Int, v = .agg #[.int .u16 x0, .int .u16 x1, .int .u16 x2, .int .u16 x3] ∧ (0 ≤ x0 ∧ x0 ≤ 65535) ∧ (0 ≤ x1 ∧ x1 ≤ 65535) ∧ (0 ≤ x2 ∧ x2 ≤ 65535) ∧ (0 ≤ x3 ∧ x3 ≤ 65535) := by
  obtain ⟨v0, v1, v2, v3, y0, y1, y2, y3, n, rfl, _, _, h0, h1, h2, h3⟩ := Joins.open_agg4 Try.underlying67 (by kernel_rfl) (by kernel_rfl) hv h
  obtain ⟨z0, e0, _, w0⟩ := DataW.trod_int Try.underlying65 (show DataW.trod enc Try.prog W 0 sp held n 65 [v0] = some y0 from h0)
  obtain ⟨z1, e1, _, w1⟩ := DataW.trod_int Try.underlying65 (show DataW.trod enc Try.prog W 0 sp held n 65 [v1] = some y1 from h1)
  obtain ⟨z2, e2, _, w2⟩ := DataW.trod_int Try.underlying65 (show DataW.trod enc Try.prog W 0 sp held n 65 [v2] = some y2 from h2)
  obtain ⟨z3, e3, _, w3⟩ := DataW.trod_int Try.underlying65 (show DataW.trod enc Try.prog W 0 sp held n 65 [v3] = some y3 from h3)
  obtain rfl : v0 = .int .u16 z0 := by simpa using e0
  obtain rfl : v1 = .int .u16 z1 := by simpa using e1
  obtain rfl : v2 = .int .u16 z2 := by simpa using e2
  obtain rfl : v3 = .int .u16 z3 := by simpa using e3
  exact ⟨z0, z1, z2, z3, rfl, bounds_u16 w0, bounds_u16 w1, bounds_u16 w2, bounds_u16 w3⟩
end
end Go.Proofs.Ytmdifgkalooaoaa
