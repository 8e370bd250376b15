/-
  Arguments, opened: rolls, rules, needs, the arguments of a nil store. By an AI agent.
-/
import Derived.Test.YthiaefhejdfobaaGreatLightO
namespace Go.Proofs.YthiaefhejdfobaaGreat
set_option linter.unusedVariables false
set_option linter.unusedSimpArgs false
open Go.RowKit Go.ChangeShapes Go.WideShapes Go.ChangeAt
set_option maxRecDepth 100000

section
variable {H : Type} {enc : TypeId × Value → H} {W : World} {base : Nat} {sp : Nat → Bool} {held : Bool}
theorem part_roll {fuel : Nat} {c0 c1 c2 c3 c4 c5 c6 c7 : Value} {y : DataW H × List MemPlace} (h : DataW.trod enc Tryz.prog W base sp held fuel 24 [c0, c1, c2, c3, c4, c5, c6, c7] = some y) :
    ∃ (z0 : Int) (z1 : Int) (z2 : Int) (z3 : Int) (z4 : Int) (z5 : Int) (z6 : Int) (a : Option Addr) (l : List (Int × Int)) (cap : Nat), c0 = .int .i64 z0 ∧ c1 = .int .i64 z1 ∧ c2 = .int .i64 z2 ∧ c3 = .int .i64 z3 ∧ c4 = .int .i64 z4 ∧ c5 = .int .i64 z5 ∧ c6 = .int .i64 z6 ∧ c7 = .slice a l.length cap ∧ I64 z0 ∧ I64 z1 ∧ I64 z2 ∧ I64 z3 ∧ I64 z4 ∧ I64 z5 ∧ I64 z6 ∧ PairsS W a l := by
  obtain ⟨xs, n, _, _, _, hlen, hg⟩ := DataW.trod_struct Tryz.underlying24 h
  match xs, hlen with
  | [u0, u1, u2, u3, u4, u5, u6, u7], _ =>
    have g0 := hg 0 _ rfl
    have g1 := hg 1 _ rfl
    have g2 := hg 2 _ rfl
    have g3 := hg 3 _ rfl
    have g4 := hg 4 _ rfl
    have g5 := hg 5 _ rfl
    have g6 := hg 6 _ rfl
    have g7 := hg 7 _ rfl
    obtain ⟨z0, rfl, b0⟩ := part_int rfl (show DataW.trod enc Tryz.prog W base sp held n 3 [c0] = some u0 from g0)
    obtain ⟨z1, rfl, b1⟩ := part_int rfl (show DataW.trod enc Tryz.prog W base sp held n 3 [c1] = some u1 from g1)
    obtain ⟨z2, rfl, b2⟩ := part_int rfl (show DataW.trod enc Tryz.prog W base sp held n 3 [c2] = some u2 from g2)
    obtain ⟨z3, rfl, b3⟩ := part_int rfl (show DataW.trod enc Tryz.prog W base sp held n 3 [c3] = some u3 from g3)
    obtain ⟨z4, rfl, b4⟩ := part_int rfl (show DataW.trod enc Tryz.prog W base sp held n 3 [c4] = some u4 from g4)
    obtain ⟨z5, rfl, b5⟩ := part_int rfl (show DataW.trod enc Tryz.prog W base sp held n 3 [c5] = some u5 from g5)
    obtain ⟨z6, rfl, b6⟩ := part_int rfl (show DataW.trod enc Tryz.prog W base sp held n 3 [c6] = some u6 from g6)
    obtain ⟨a, l, cap, rfl, hl⟩ := open_spans (show DataW.trod enc Tryz.prog W base sp held n 22 [c7] = some u7 from g7)
    exact ⟨z0, z1, z2, z3, z4, z5, z6, a, l, cap, rfl, rfl, rfl, rfl, rfl, rfl, rfl, rfl, b0, b1, b2, b3, b4, b5, b6, hl⟩
theorem part_need {fuel : Nat} {c0 c1 c2 c3 c4 : Value} {y : DataW H × List MemPlace} (h : DataW.trod enc Tryz.prog W base sp held fuel 26 [c0, c1, c2, c3, c4] = some y) :
    ∃ (z0 : Int) (z1 : Int) (z2 : Int) (z3 : Int) (z4 : Int), c0 = .int .i64 z0 ∧ c1 = .int .i64 z1 ∧ c2 = .int .i64 z2 ∧ c3 = .int .i64 z3 ∧ c4 = .int .i64 z4 ∧ I64 z0 ∧ I64 z1 ∧ I64 z2 ∧ I64 z3 ∧ I64 z4 := by
  obtain ⟨xs, n, _, _, _, hlen, hg⟩ := DataW.trod_struct Tryz.underlying26 h
  match xs, hlen with
  | [u0, u1, u2, u3, u4], _ =>
    have g0 := hg 0 _ rfl
    have g1 := hg 1 _ rfl
    have g2 := hg 2 _ rfl
    have g3 := hg 3 _ rfl
    have g4 := hg 4 _ rfl
    obtain ⟨z0, rfl, b0⟩ := part_int rfl (show DataW.trod enc Tryz.prog W base sp held n 3 [c0] = some u0 from g0)
    obtain ⟨z1, rfl, b1⟩ := part_int rfl (show DataW.trod enc Tryz.prog W base sp held n 3 [c1] = some u1 from g1)
    obtain ⟨z2, rfl, b2⟩ := part_int rfl (show DataW.trod enc Tryz.prog W base sp held n 3 [c2] = some u2 from g2)
    obtain ⟨z3, rfl, b3⟩ := part_int rfl (show DataW.trod enc Tryz.prog W base sp held n 3 [c3] = some u3 from g3)
    obtain ⟨z4, rfl, b4⟩ := part_int rfl (show DataW.trod enc Tryz.prog W base sp held n 3 [c4] = some u4 from g4)
    exact ⟨z0, z1, z2, z3, z4, rfl, rfl, rfl, rfl, rfl, b0, b1, b2, b3, b4⟩
/-- A roll. -/
theorem open_roll {v : Value} {d : DataW H} {p : List MemPlace} (hv : Value.okWide Tryz.prog W .any base 24 v) (h : DataW.Trod enc Tryz.prog W 0 sp held 24 v d p) :
    ∃ (z0 z1 z2 z3 z4 z5 z6 : Int) (a : Option Addr) (l : List (Int × Int)) (cap : Nat), v = .agg #[.int .i64 z0, .int .i64 z1, .int .i64 z2, .int .i64 z3, .int .i64 z4, .int .i64 z5, .int .i64 z6, .slice a l.length cap] ∧ I64 z0 ∧ I64 z1 ∧ I64 z2 ∧ I64 z3 ∧ I64 z4 ∧ I64 z5 ∧ I64 z6 ∧ PairsS W a l := by
  obtain ⟨⟨cs⟩, rfl, hsz⟩ := okWide_struct Tryz.underlying24 hv
  have hC : Tryz.prog.cellsOf 24 = 8 := by kernel_rfl
  match cs, hsz.trans hC with
  | [c0, c1, c2, c3, c4, c5, c6, c7], _ =>
    obtain ⟨fuel, hf⟩ := h
    obtain ⟨z0, z1, z2, z3, z4, z5, z6, a, l, cap, rfl, rfl, rfl, rfl, rfl, rfl, rfl, rfl, b0, b1, b2, b3, b4, b5, b6, hl⟩ := part_roll hf
    exact ⟨z0, z1, z2, z3, z4, z5, z6, a, l, cap, rfl, b0, b1, b2, b3, b4, b5, b6, hl⟩
/-- Rules. -/
theorem open_shelf {v : Value} {d : DataW H} {p : List MemPlace} (hv : Value.okWide Tryz.prog W .any base 32 v) (h : DataW.Trod enc Tryz.prog W 0 sp held 32 v d p) :
    ∃ (y0 y1 y2 y3 y4 : Int), v = .agg #[.int .i64 y0, .int .i64 y1, .int .i64 y2, .int .i64 y3, .int .i64 y4] ∧ I64 y0 ∧ I64 y1 ∧ I64 y2 ∧ I64 y3 ∧ I64 y4 := by
  obtain ⟨⟨cs⟩, rfl, hsz⟩ := okWide_struct Tryz.underlying32 hv
  have hC : Tryz.prog.cellsOf 32 = 5 := by kernel_rfl
  match cs, hsz.trans hC with
  | [c0, c1, c2, c3, c4], _ =>
    obtain ⟨fuel, hf⟩ := h
    obtain ⟨xs, n, _, _, _, hlen, hg⟩ := DataW.trod_struct Tryz.underlying32 hf
    match xs, hlen with
    | [u0, u1, u2], _ =>
      have g0 := hg 0 _ rfl
      have g1 := hg 1 _ rfl
      have g2 := hg 2 _ rfl
      obtain ⟨z0, rfl, b0⟩ := part_int rfl (show DataW.trod enc Tryz.prog W 0 sp held n 3 [c0] = some u0 from g0)
      obtain ⟨z1, rfl, b1⟩ := part_int rfl (show DataW.trod enc Tryz.prog W 0 sp held n 3 [c1] = some u1 from g1)
      obtain ⟨ys, n2, _, _, _, hlen2, hg2⟩ := DataW.trod_array Tryz.underlying30 (show DataW.trod enc Tryz.prog W 0 sp held n 30 [c2, c3, c4] = some u2 from g2)
      match ys, hlen2 with
      | [v0, v1, v2], _ =>
        have k0 := hg2 0 (by omega)
        have k1 := hg2 1 (by omega)
        have k2 := hg2 2 (by omega)
        rw [cInt] at k0 k1 k2
        obtain ⟨z2, rfl, b2⟩ := part_int rfl (show DataW.trod enc Tryz.prog W 0 sp held n2 3 [c2] = some v0 from k0)
        obtain ⟨z3, rfl, b3⟩ := part_int rfl (show DataW.trod enc Tryz.prog W 0 sp held n2 3 [c3] = some v1 from k1)
        obtain ⟨z4, rfl, b4⟩ := part_int rfl (show DataW.trod enc Tryz.prog W 0 sp held n2 3 [c4] = some v2 from k2)
        exact ⟨z0, z1, z2, z3, z4, rfl, b0, b1, b2, b3, b4⟩
/-- The arguments of calls of a nil store. -/
theorem open_nil {v : Value} {d : DataW H} {p : List MemPlace} (hv : Value.okWide Tryz.prog W .any base 28 v) (h : DataW.Trod enc Tryz.prog W 0 sp held 28 v d p) :
    ∃ (z0 z1 z2 z3 z4 z5 z6 : Int) (a : Option Addr) (l : List (Int × Int)) (cap : Nat) (n0 n1 n2 n3 n4 q0 q1 q2 : Int), v = .agg #[.int .i64 z0, .int .i64 z1, .int .i64 z2, .int .i64 z3, .int .i64 z4, .int .i64 z5, .int .i64 z6, .slice a l.length cap, .int .i64 n0, .int .i64 n1, .int .i64 n2, .int .i64 n3, .int .i64 n4, .int .i64 q0, .int .i64 q1, .int .i64 q2] ∧ PairsS W a l := by
  obtain ⟨⟨cs⟩, rfl, hsz⟩ := okWide_struct Tryz.underlying28 hv
  have hC : Tryz.prog.cellsOf 28 = 16 := by kernel_rfl
  match cs, hsz.trans hC with
  | [c0, c1, c2, c3, c4, c5, c6, c7, c8, c9, c10, c11, c12, c13, c14, c15], _ =>
    obtain ⟨fuel, hf⟩ := h
    obtain ⟨xs, n, _, _, _, hlen, hg⟩ := DataW.trod_struct Tryz.underlying28 hf
    match xs, hlen with
    | [u0, u1, u2, u3, u4], _ =>
      have g0 := hg 0 _ rfl
      have g1 := hg 1 _ rfl
      have g2 := hg 2 _ rfl
      have g3 := hg 3 _ rfl
      have g4 := hg 4 _ rfl
      obtain ⟨z0, z1, z2, z3, z4, z5, z6, a, l, cap, rfl, rfl, rfl, rfl, rfl, rfl, rfl, rfl, b0, b1, b2, b3, b4, b5, b6, hl⟩ := part_roll (show DataW.trod enc Tryz.prog W 0 sp held n 24 [c0, c1, c2, c3, c4, c5, c6, c7] = some u0 from g0)
      obtain ⟨n0, n1, n2, n3, n4, rfl, rfl, rfl, rfl, rfl, _⟩ := part_need (show DataW.trod enc Tryz.prog W 0 sp held n 26 [c8, c9, c10, c11, c12] = some u1 from g1)
      obtain ⟨q0, rfl, _⟩ := part_int rfl (show DataW.trod enc Tryz.prog W 0 sp held n 3 [c13] = some u2 from g2)
      obtain ⟨q1, rfl, _⟩ := part_int rfl (show DataW.trod enc Tryz.prog W 0 sp held n 3 [c14] = some u3 from g3)
      obtain ⟨q2, rfl, _⟩ := part_int rfl (show DataW.trod enc Tryz.prog W 0 sp held n 3 [c15] = some u4 from g4)
      exact ⟨z0, z1, z2, z3, z4, z5, z6, a, l, cap, n0, n1, n2, n3, n4, q0, q1, q2, rfl, hl⟩
end
end Go.Proofs.YthiaefhejdfobaaGreat
