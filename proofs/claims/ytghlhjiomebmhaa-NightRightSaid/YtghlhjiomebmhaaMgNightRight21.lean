/-
  The argument of NightRight, opened. By an AI agent.
-/
import Derived.Test.YtghlhjiomebmhaaMgNightRight20


namespace Go.Proofs.Ytghlhjiomebmhaa
set_option linter.unusedVariables false
set_option linter.unusedSimpArgs false
open Go.RowKit Go.ChangeShapes Go.WideShapes Go.ChangeAt
set_option maxRecDepth 100000

section
variable {H : Type} {enc : TypeId × Value → H} {W : World} {base : Nat} {sp : Nat → Bool} {held : Bool}
theorem open_asked {v : Value} {d : DataW H} {p : List MemPlace} (hv : Value.okWide Try.prog W .any base 28 v) (h : DataW.Trod enc Try.prog W 0 sp held 28 v d p) :
    ∃ (a : Option Addr) (l : List Int) (ca : Nat) (x : Int) (b : Option Addr) (wt : List Int) (cb : Nat), v = .agg #[.slice a l.length ca, .int .i64 x, .slice b wt.length cb] ∧ IntsC W a l ∧ IntsC W b wt ∧ I64 x := by
  obtain ⟨⟨cs⟩, rfl, hsz⟩ := okWide_struct Try.underlying28 hv
  have hC : Try.prog.cellsOf 28 = 3 := by kernel_rfl
  match cs, hsz.trans hC with
  | [c0, c1, c2], _ =>
    obtain ⟨fuel, hf⟩ := h
    obtain ⟨xs, n, _, _, _, hlen, hg⟩ := DataW.trod_struct Try.underlying28 hf
    match xs, hlen with
    | [u0, u1, u2], _ =>
      obtain ⟨a, l, ca, rfl, hA, _⟩ := part_ints rfl (show DataW.trod enc Try.prog W 0 sp held n 26 [c0] = some u0 from hg 0 _ rfl)
      obtain ⟨x, rfl, hx⟩ := part_int rfl (show DataW.trod enc Try.prog W 0 sp held n 3 [c1] = some u1 from hg 1 _ rfl)
      obtain ⟨b, wt, cb, rfl, hB, _⟩ := part_ints rfl (show DataW.trod enc Try.prog W 0 sp held n 26 [c2] = some u2 from hg 2 _ rfl)
      exact ⟨a, l, ca, x, b, wt, cb, rfl, ⟨hA.1, hA.2.2⟩, ⟨hB.1, hB.2.2⟩, hx⟩
end
end Go.Proofs.Ytghlhjiomebmhaa
