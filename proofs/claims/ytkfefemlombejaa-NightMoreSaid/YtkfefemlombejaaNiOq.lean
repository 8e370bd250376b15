/-
  The argument of NightMore, opened. By an AI agent.
-/
import Derived.Test.YtkfefemlombejaaNiOp
namespace Go.Proofs.Ytkfefemlombejaa
set_option linter.unusedVariables false
set_option linter.unusedSimpArgs false
open Go.RowKit Go.ChangeShapes Go.WideShapes Go.ChangeAt
set_option maxRecDepth 100000

section
variable {H : Type} {enc : TypeId × Value → H} {W : World} {base : Nat} {sp : Nat → Bool} {held : Bool}
theorem part_job8 {fuel : Nat} {c0 c1 c2 c3 c4 c5 c6 c7 : Value} {y : DataW H × List MemPlace} (h : DataW.trod enc Try.prog W base sp held fuel 29 [c0, c1, c2, c3, c4, c5, c6, c7] = some y) :
    ∃ x : Jo, c0 = .int .i64 x.n ∧ c1 = .int .i64 x.r ∧ c2 = .int .i64 x.c ∧ c3 = .int .i64 x.f ∧ c4 = .int .i64 x.l ∧ c5 = .int .i64 x.w ∧ c6 = .bool x.dy ∧ c7 = .bool x.wm := by
  obtain ⟨y0, y1, y2, y3, y4, y5, y6, y7, n', g0, g1, g2, g3, g4, g5, g6, g7⟩ := trod_struct8 Try.underlying29 h
  obtain ⟨z0, rfl, b0⟩ := part_int rfl (show DataW.trod enc Try.prog W base sp held n' 3 [c0] = some y0 from g0)
  obtain ⟨z1, rfl, b1⟩ := part_int rfl (show DataW.trod enc Try.prog W base sp held n' 3 [c1] = some y1 from g1)
  obtain ⟨z2, rfl, b2⟩ := part_int rfl (show DataW.trod enc Try.prog W base sp held n' 3 [c2] = some y2 from g2)
  obtain ⟨z3, rfl, b3⟩ := part_int rfl (show DataW.trod enc Try.prog W base sp held n' 3 [c3] = some y3 from g3)
  obtain ⟨z4, rfl, b4⟩ := part_int rfl (show DataW.trod enc Try.prog W base sp held n' 3 [c4] = some y4 from g4)
  obtain ⟨z5, rfl, b5⟩ := part_int rfl (show DataW.trod enc Try.prog W base sp held n' 3 [c5] = some y5 from g5)
  obtain ⟨z6, e6, _⟩ := DataW.trod_bool Try.underlying4 (show DataW.trod enc Try.prog W base sp held n' 4 [c6] = some y6 from g6)
  obtain rfl : c6 = .bool z6 := by simpa using e6
  obtain ⟨z7, e7, _⟩ := DataW.trod_bool Try.underlying4 (show DataW.trod enc Try.prog W base sp held n' 4 [c7] = some y7 from g7)
  obtain rfl : c7 = .bool z7 := by simpa using e7
  exact ⟨⟨z0, z1, z2, z3, z4, z5, z6, z7⟩, rfl, rfl, rfl, rfl, rfl, rfl, rfl, rfl⟩
theorem part_night8 {fuel : Nat} {c0 c1 c2 c3 c4 c5 c6 c7 : Value} {y : DataW H × List MemPlace} (h : DataW.trod enc Try.prog W base sp held fuel 27 [c0, c1, c2, c3, c4, c5, c6, c7] = some y) :
    ∃ x : Ni, c0 = .int .i64 x.d ∧ c1 = .int .i64 x.r ∧ c2 = .int .i64 x.f ∧ c3 = .int .i64 x.t ∧ c4 = .int .i64 x.w ∧ c5 = .int .i64 x.p ∧ c6 = .bool x.rn ∧ c7 = .bool x.fr := by
  obtain ⟨y0, y1, y2, y3, y4, y5, y6, y7, n', g0, g1, g2, g3, g4, g5, g6, g7⟩ := trod_struct8 Try.underlying27 h
  obtain ⟨z0, rfl, b0⟩ := part_int rfl (show DataW.trod enc Try.prog W base sp held n' 3 [c0] = some y0 from g0)
  obtain ⟨z1, rfl, b1⟩ := part_int rfl (show DataW.trod enc Try.prog W base sp held n' 3 [c1] = some y1 from g1)
  obtain ⟨z2, rfl, b2⟩ := part_int rfl (show DataW.trod enc Try.prog W base sp held n' 3 [c2] = some y2 from g2)
  obtain ⟨z3, rfl, b3⟩ := part_int rfl (show DataW.trod enc Try.prog W base sp held n' 3 [c3] = some y3 from g3)
  obtain ⟨z4, rfl, b4⟩ := part_int rfl (show DataW.trod enc Try.prog W base sp held n' 3 [c4] = some y4 from g4)
  obtain ⟨z5, rfl, b5⟩ := part_int rfl (show DataW.trod enc Try.prog W base sp held n' 3 [c5] = some y5 from g5)
  obtain ⟨z6, e6, _⟩ := DataW.trod_bool Try.underlying4 (show DataW.trod enc Try.prog W base sp held n' 4 [c6] = some y6 from g6)
  obtain rfl : c6 = .bool z6 := by simpa using e6
  obtain ⟨z7, e7, _⟩ := DataW.trod_bool Try.underlying4 (show DataW.trod enc Try.prog W base sp held n' 4 [c7] = some y7 from g7)
  obtain rfl : c7 = .bool z7 := by simpa using e7
  exact ⟨⟨z0, z1, z2, z3, z4, z5, z6, z7⟩, rfl, rfl, rfl, rfl, rfl, rfl, rfl, rfl⟩
theorem open_more {v : Value} {d : DataW H} {p : List MemPlace} (hv : Value.okWide Try.prog W .any base 31 v) (h : DataW.Trod enc Try.prog W 0 sp held 31 v d p) :
    ∃ (x : Ni) (y : Jo) (t : Int), v = .agg #[.int .i64 x.d, .int .i64 x.r, .int .i64 x.f, .int .i64 x.t, .int .i64 x.w, .int .i64 x.p, .bool x.rn, .bool x.fr, .int .i64 y.n, .int .i64 y.r, .int .i64 y.c, .int .i64 y.f, .int .i64 y.l, .int .i64 y.w, .bool y.dy, .bool y.wm, .int .u8 t] ∧ (Lit.int .u8 t).wf = true := by
  obtain ⟨⟨cs⟩, rfl, hsz⟩ := okWide_struct Try.underlying31 hv
  have hC : Try.prog.cellsOf 31 = 17 := by kernel_rfl
  match cs, hsz.trans hC with
  | [c0, c1, c2, c3, c4, c5, c6, c7, c8, c9, c10, c11, c12, c13, c14, c15, c16], _ =>
    obtain ⟨fuel, hf⟩ := h
    obtain ⟨xs, n, _, _, _, hlen, hg⟩ := DataW.trod_struct Try.underlying31 hf
    match xs, hlen with
    | [u0, u1, u2], _ =>
      have g0 := hg 0 _ rfl
      have g1 := hg 1 _ rfl
      have g2 := hg 2 _ rfl
      obtain ⟨x, rfl, rfl, rfl, rfl, rfl, rfl, rfl, rfl⟩ := part_night8 (show DataW.trod enc Try.prog W 0 sp held n 27 [c0, c1, c2, c3, c4, c5, c6, c7] = some u0 from g0)
      obtain ⟨y, rfl, rfl, rfl, rfl, rfl, rfl, rfl, rfl⟩ := part_job8 (show DataW.trod enc Try.prog W 0 sp held n 29 [c8, c9, c10, c11, c12, c13, c14, c15] = some u1 from g1)
      obtain ⟨z, e, _, w0⟩ := DataW.trod_int Try.underlying5 (show DataW.trod enc Try.prog W 0 sp held n 5 [c16] = some u2 from g2)
      obtain rfl : c16 = .int .u8 z := by simpa using e
      exact ⟨x, y, z, rfl, w0⟩
end
end Go.Proofs.Ytkfefemlombejaa
