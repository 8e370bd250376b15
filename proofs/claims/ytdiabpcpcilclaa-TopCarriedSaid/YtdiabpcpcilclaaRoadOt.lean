/-
  Arguments, opened: a journey (a road, a stretch, three small numbers). By an AI agent.
-/
import Derived.Test.YtdiabpcpcilclaaRoadOp
namespace Go.Proofs.Ytdiabpcpcilclaa
set_option linter.unusedVariables false
set_option linter.unusedSimpArgs false
open Go.RowKit Go.ChangeShapes Go.WideShapes Go.ChangeAt
set_option maxRecDepth 100000

theorem cU8t : Try.prog.cellsOf 5 = 1 := by kernel_rfl
section
variable {H : Type} {enc : TypeId × Value → H} {W : World} {base : Nat} {sp : Nat → Bool} {held : Bool}
theorem open_journey {v : Value} {d : DataW H} {p : List MemPlace} (hv : Value.okWide Try.prog W .any base 53 v) (h : DataW.Trod enc Try.prog W 0 sp held 53 v d p) :
    ∃ (N L : Int) (a : Option Addr) (l : List Chg) (ca : Nat) (x y t0 t1 t2 : Int), v = .agg #[.int .i64 N, .int .i64 L, .slice a l.length ca, .int .i64 x, .int .i64 y, .int .u8 t0, .int .u8 t1, .int .u8 t2] ∧ QuadS W a l ∧ l.length ≤ ca ∧ I64 x ∧ I64 y ∧ (0 ≤ t0 ∧ t0 ≤ 255) ∧ (0 ≤ t1 ∧ t1 ≤ 255) ∧ (0 ≤ t2 ∧ t2 ≤ 255) := by
  obtain ⟨⟨cs⟩, rfl, hsz⟩ := okWide_struct Try.underlying53 hv
  have hC : Try.prog.cellsOf 53 = 8 := by kernel_rfl
  match cs, hsz.trans hC with
  | [c0, c1, c2, c3, c4, c5, c6, c7], _ =>
    obtain ⟨fuel, hf⟩ := h
    obtain ⟨y0, y1, y2, n, _, _, g0, g1, g2⟩ := Go.Deep.trod_struct3 Try.underlying53 hf
    obtain ⟨r0, r1, r2, n2, _, _, k0, k1, k2⟩ := Go.Deep.trod_struct3 Try.underlying24 (show DataW.trod enc Try.prog W 0 sp held n 24 [c0, c1, c2] = some y0 from g0)
    obtain ⟨N, rfl, _⟩ := part_int rfl (show DataW.trod enc Try.prog W 0 sp held n2 3 [c0] = some r0 from k0)
    obtain ⟨L, rfl, _⟩ := part_int rfl (show DataW.trod enc Try.prog W 0 sp held n2 3 [c1] = some r1 from k1)
    obtain ⟨a, l, ca, rfl, hQ, hca⟩ := open_chgs (show DataW.trod enc Try.prog W 0 sp held n2 22 [c2] = some r2 from k2)
    obtain ⟨s0, s1, n3, _, _, j0, j1⟩ := trod_struct2 Try.underlying26 (show DataW.trod enc Try.prog W 0 sp held n 26 [c3, c4] = some y1 from g1)
    obtain ⟨x, rfl, bx⟩ := part_int rfl (show DataW.trod enc Try.prog W 0 sp held n3 3 [c3] = some s0 from j0)
    obtain ⟨y, rfl, by'⟩ := part_int rfl (show DataW.trod enc Try.prog W 0 sp held n3 3 [c4] = some s1 from j1)
    obtain ⟨xs, n4, _, _, _, hlen, hg⟩ := DataW.trod_array Try.underlying51 (show DataW.trod enc Try.prog W 0 sp held n 51 [c5, c6, c7] = some y2 from g2)
    match xs, hlen with
    | [u0, u1, u2], _ =>
      have q0 := hg 0 (by omega)
      have q1 := hg 1 (by omega)
      have q2 := hg 2 (by omega)
      rw [cU8t] at q0 q1 q2
      obtain ⟨z0, e0, _, w0⟩ := DataW.trod_int Try.underlying5 (show DataW.trod enc Try.prog W 0 sp held n4 5 [c5] = some u0 from q0)
      obtain ⟨z1, e1, _, w1⟩ := DataW.trod_int Try.underlying5 (show DataW.trod enc Try.prog W 0 sp held n4 5 [c6] = some u1 from q1)
      obtain ⟨z2, e2, _, w2⟩ := DataW.trod_int Try.underlying5 (show DataW.trod enc Try.prog W 0 sp held n4 5 [c7] = some u2 from q2)
      obtain rfl : c5 = .int .u8 z0 := by simpa using e0
      obtain rfl : c6 = .int .u8 z1 := by simpa using e1
      obtain rfl : c7 = .int .u8 z2 := by simpa using e2
      exact ⟨N, L, a, l, ca, x, y, z0, z1, z2, rfl, hQ, hca, bx, by', bounds_u8 w0, bounds_u8 w1, bounds_u8 w2⟩
end
end Go.Proofs.Ytdiabpcpcilclaa
