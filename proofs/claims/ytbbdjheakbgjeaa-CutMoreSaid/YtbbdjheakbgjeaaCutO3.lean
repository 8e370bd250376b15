/-
  Arguments, opened: three small numbers. By an AI agent.
-/
import Derived.Test.YtbbdjheakbgjeaaCutO
namespace Go.Proofs.Ytbbdjheakbgjeaa
set_option linter.unusedVariables false
set_option linter.unusedSimpArgs false
open Go.RowKit Go.ChangeShapes Go.WideShapes Go.ChangeAt
set_option maxRecDepth 100000

theorem cTri8 : Try.prog.cellsOf 59 = 3 := by kernel_rfl
theorem cU8 : Try.prog.cellsOf 5 = 1 := by kernel_rfl
section
variable {H : Type} {enc : TypeId × Value → H} {W : World} {base : Nat} {sp : Nat → Bool} {held : Bool}
theorem open_tri8 {v : Value} {d : DataW H} {p : List MemPlace} (hv : Value.okWide Try.prog W .any base 59 v) (h : DataW.Trod enc Try.prog W 0 sp held 59 v d p) :
    ∃ x y z : Int, v = .agg #[.int .u8 x, .int .u8 y, .int .u8 z] ∧ (0 ≤ x ∧ x ≤ 255) ∧ (0 ≤ y ∧ y ≤ 255) ∧ (0 ≤ z ∧ z ≤ 255) := by
  obtain ⟨⟨cs⟩, rfl, hsz⟩ := okWide_array Try.underlying59 hv
  match cs, hsz.trans cTri8 with
  | [c0, c1, c2], _ =>
    obtain ⟨fuel, hf⟩ := h
    obtain ⟨xs, n, _, _, _, hlen, hg⟩ := DataW.trod_array Try.underlying59 hf
    match xs, hlen with
    | [u0, u1, u2], _ =>
      have g0 := hg 0 (by omega)
      have g1 := hg 1 (by omega)
      have g2 := hg 2 (by omega)
      rw [cU8] at g0 g1 g2
      obtain ⟨z0, e0, _, w0⟩ := DataW.trod_int Try.underlying5 (show DataW.trod enc Try.prog W 0 sp held n 5 [c0] = some u0 from g0)
      obtain ⟨z1, e1, _, w1⟩ := DataW.trod_int Try.underlying5 (show DataW.trod enc Try.prog W 0 sp held n 5 [c1] = some u1 from g1)
      obtain ⟨z2, e2, _, w2⟩ := DataW.trod_int Try.underlying5 (show DataW.trod enc Try.prog W 0 sp held n 5 [c2] = some u2 from g2)
      obtain rfl : c0 = .int .u8 z0 := by simpa using e0
      obtain rfl : c1 = .int .u8 z1 := by simpa using e1
      obtain rfl : c2 = .int .u8 z2 := by simpa using e2
      exact ⟨z0, z1, z2, rfl, bounds_u8 w0, bounds_u8 w1, bounds_u8 w2⟩
end
end Go.Proofs.Ytbbdjheakbgjeaa
