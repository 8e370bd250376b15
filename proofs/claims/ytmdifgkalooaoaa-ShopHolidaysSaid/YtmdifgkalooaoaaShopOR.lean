/-
  Arguments, opened: rests. By an AI agent.
-/
import Derived.Test.YtmdifgkalooaoaaShopO
namespace Go.Proofs.Ytmdifgkalooaoaa
set_option linter.unusedVariables false
set_option linter.unusedSimpArgs false
open Go.RowKit Go.ChangeShapes Go.WideShapes Go.ChangeAt
set_option maxRecDepth 100000
section
variable {H : Type} {enc : TypeId × Value → H} {W : World} {base : Nat} {sp : Nat → Bool} {held : Bool}
theorem open_times {v : Value} {d : DataW H} {p : List MemPlace} (hv : Value.okWide Try.prog W .any base 67 v) (h : DataW.Trod enc Try.prog W 0 sp held 67 v d p) :
    ∃ x0 x1 x2 x3 : Int, v = .agg #[.int .u16 x0, .int .u16 x1, .int .u16 x2, .int .u16 x3] ∧ (0 ≤ x0 ∧ x0 ≤ 65535) ∧ (0 ≤ x1 ∧ x1 ≤ 65535) ∧ (0 ≤ x2 ∧ x2 ≤ 65535) ∧ (0 ≤ x3 ∧ x3 ≤ 65535) := by
  obtain ⟨v0, v1, v2, v3, y0, y1, y2, y3, n, rfl, _, _, h0, h1, h2, h3⟩ := Joins.open_agg4 Try.underlying67 (by kernel_rfl) (by kernel_rfl) hv h
  obtain ⟨z0, e0, _, w0⟩ := DataW.trod_int Try.underlying65 (show DataW.trod enc Try.prog W 0 sp held n 65 [v0] = some y0 from h0)
  obtain ⟨z1, e1, _, w1⟩ := DataW.trod_int Try.underlying65 (show DataW.trod enc Try.prog W 0 sp held n 65 [v1] = some y1 from h1)
  obtain ⟨z2, e2, _, w2⟩ := DataW.trod_int Try.underlying65 (show DataW.trod enc Try.prog W 0 sp held n 65 [v2] = some y2 from h2)
  obtain ⟨z3, e3, _, w3⟩ := DataW.trod_int Try.underlying65 (show DataW.trod enc Try.prog W 0 sp held n 65 [v3] = some y3 from h3)
  obtain rfl : v0 = .int .u16 z0 := by simpa using e0
  obtain rfl : v1 = .int .u16 z1 := by simpa using e1
  obtain rfl : v2 = .int .u16 z2 := by simpa using e2
  obtain rfl : v3 = .int .u16 z3 := by simpa using e3
  exact ⟨z0, z1, z2, z3, rfl, bounds_u16 w0, bounds_u16 w1, bounds_u16 w2, bounds_u16 w3⟩
theorem open_rest {v : Value} {d : DataW H} {p : List MemPlace} (hv : Value.okWide Try.prog W .any base 70 v) (h : DataW.Trod enc Try.prog W 0 sp held 70 v d p) :
    ∃ x0 x1 x2 x3 x4 : Int, v = .agg #[.int .u16 x0, .int .u16 x1, .int .u16 x2, .int .u8 x3, .int .u8 x4] ∧ (0 ≤ x0 ∧ x0 ≤ 65535) ∧ (0 ≤ x1 ∧ x1 ≤ 65535) ∧ (0 ≤ x2 ∧ x2 ≤ 65535) ∧ (0 ≤ x3 ∧ x3 ≤ 255) ∧ (0 ≤ x4 ∧ x4 ≤ 255) := by
  obtain ⟨⟨cs⟩, rfl, hsz⟩ := okWide_struct Try.underlying70 hv
  have hC : Try.prog.cellsOf 70 = 5 := by kernel_rfl
  match cs, hsz.trans hC with
  | [c0, c1, c2, c3, c4], _ =>
    obtain ⟨fuel, hf⟩ := h
    obtain ⟨xs, n, _, _, _, hlen, hg⟩ := DataW.trod_struct Try.underlying70 hf
    match xs, hlen with
    | [u0, u1, u2, u3, u4], _ =>
      have g0 := hg 0 _ rfl
      have g1 := hg 1 _ rfl
      have g2 := hg 2 _ rfl
      have g3 := hg 3 _ rfl
      have g4 := hg 4 _ rfl
      obtain ⟨z0, e0, _, w0⟩ := DataW.trod_int Try.underlying65 (show DataW.trod enc Try.prog W 0 sp held n 65 [c0] = some u0 from g0)
      obtain ⟨z1, e1, _, w1⟩ := DataW.trod_int Try.underlying65 (show DataW.trod enc Try.prog W 0 sp held n 65 [c1] = some u1 from g1)
      obtain ⟨z2, e2, _, w2⟩ := DataW.trod_int Try.underlying65 (show DataW.trod enc Try.prog W 0 sp held n 65 [c2] = some u2 from g2)
      obtain ⟨z3, e3, _, w3⟩ := DataW.trod_int Try.underlying5 (show DataW.trod enc Try.prog W 0 sp held n 5 [c3] = some u3 from g3)
      obtain ⟨z4, e4, _, w4⟩ := DataW.trod_int Try.underlying5 (show DataW.trod enc Try.prog W 0 sp held n 5 [c4] = some u4 from g4)
      obtain rfl : c0 = .int .u16 z0 := by simpa using e0
      obtain rfl : c1 = .int .u16 z1 := by simpa using e1
      obtain rfl : c2 = .int .u16 z2 := by simpa using e2
      obtain rfl : c3 = .int .u8 z3 := by simpa using e3
      obtain rfl : c4 = .int .u8 z4 := by simpa using e4
      exact ⟨z0, z1, z2, z3, z4, rfl, bounds_u16 w0, bounds_u16 w1, bounds_u16 w2, bounds_u8 w3, bounds_u8 w4⟩
end
end Go.Proofs.Ytmdifgkalooaoaa
