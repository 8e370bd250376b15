/-
  Arguments, opened: cuttings, batches. By an AI agent.
-/
import Derived.Test.YtmeoekcajmgiaaaLightO
namespace Go.Proofs.Ytmeoekcajmgiaaa
set_option linter.unusedVariables false
set_option linter.unusedSimpArgs false
open Go.RowKit Go.ChangeShapes Go.WideShapes Go.ChangeAt
set_option maxRecDepth 100000

theorem cCutting : Try.prog.cellsOf 24 = 3 := by kernel_rfl
theorem cBatch : Try.prog.cellsOf 40 = 2 := by kernel_rfl
theorem cAsk : Try.prog.cellsOf 42 = 2 := by kernel_rfl
section
variable {H : Type} {enc : TypeId × Value → H} {W : World} {base : Nat} {sp : Nat → Bool} {held : Bool}
theorem open_cutting {v : Value} {d : DataW H} {p : List MemPlace} (hv : Value.okWide Try.prog W .any base 24 v) (h : DataW.Trod enc Try.prog W 0 sp held 24 v d p) :
    ∃ (L K : Int) (aa : Option Addr) (l : List (Int × Int)) (ca : Nat), v = .agg #[.int .i64 L, .int .i64 K, .slice aa l.length ca] ∧ PairsS W aa l ∧ I64 L ∧ I64 K := by
  obtain ⟨v0, v1, v2, y0, y1, y2, n, rfl, _, _, h0, h1, h2⟩ := Joins.open_agg3 Try.underlying24 (by kernel_rfl) cCutting hv h
  obtain ⟨L, rfl, b0⟩ := part_int rfl h0
  obtain ⟨K, rfl, b1⟩ := part_int rfl h1
  obtain ⟨aa, l, ca, rfl, hP⟩ := open_pairs Try.underlying22 Try.underlying42 cAsk rfl rfl rfl rfl h2
  exact ⟨L, K, aa, l, ca, rfl, hP, b0, b1⟩
theorem open_batch {v : Value} {d : DataW H} {p : List MemPlace} (hv : Value.okWide Try.prog W .any base 40 v) (h : DataW.Trod enc Try.prog W 0 sp held 40 v d p) :
    ∃ (T : Int) (ap : Option Addr) (q : List Int) (cq : Nat), v = .agg #[.int .i64 T, .slice ap q.length cq] ∧ IntsS W ap q ∧ I64 T := by
  obtain ⟨v0, v1, y0, y1, n, rfl, _, _, h0, h1⟩ := Joins.open_agg2 Try.underlying40 (by kernel_rfl) cBatch hv h
  obtain ⟨T, rfl, b0⟩ := part_int rfl h0
  obtain ⟨ap, q, cq, rfl, hQ, _⟩ := open_ints h1
  exact ⟨T, ap, q, cq, rfl, hQ, b0⟩
end
end Go.Proofs.Ytmeoekcajmgiaaa
