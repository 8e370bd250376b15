/-
  The arguments of package night's laws, opened. By an AI agent.
-/
import Derived.Test.YtghlhjiomebmhaaNiAw
import Derived.Test.YtghlhjiomebmhaaLightO
import Derived.Lib.SmallJoins
import Derived.Deep.Slices
import Derived.OpenShut
namespace Go.Proofs.Ytghlhjiomebmhaa
set_option linter.unusedVariables false
set_option linter.unusedSimpArgs false
open Go.RowKit Go.ChangeShapes Go.WideShapes Go.ChangeAt
set_option maxRecDepth 100000

theorem choose_ltN {α : Type} {n : Nat} (d : α) {p : Nat → α → Prop} (h : ∀ i, i < n → ∃ x, p i x) : ∃ f : Nat → α, ∀ i, i < n → p i (f i) := by
  classical
  exact ⟨fun i => if hi : i < n then (h i hi).choose else d, fun i hi => by simp only [hi, dif_pos]; exact (h i hi).choose_spec⟩
theorem trod_struct8 {H : Type} {enc : TypeId × Value → H} {P : Program} {w : World} {base : Nat} {spare : Nat → Bool} {held : Bool} {t : TypeId} {f0 f1 f2 f3 f4 f5 f6 f7 : Field} {fuel : Nat} {cs : List Value} {x : DataW H × List MemPlace} (ht : P.underlying t = some (.struct #[f0, f1, f2, f3, f4, f5, f6, f7])) (h : DataW.trod enc P w base spare held fuel t cs = some x) :
    ∃ y0 y1 y2 y3 y4 y5 y6 y7 n, DataW.trod enc P w base spare held n f0.type ((cs.drop f0.offset).take (P.cellsOf f0.type)) = some y0 ∧ DataW.trod enc P w base spare held n f1.type ((cs.drop f1.offset).take (P.cellsOf f1.type)) = some y1 ∧
      DataW.trod enc P w base spare held n f2.type ((cs.drop f2.offset).take (P.cellsOf f2.type)) = some y2 ∧ DataW.trod enc P w base spare held n f3.type ((cs.drop f3.offset).take (P.cellsOf f3.type)) = some y3 ∧
      DataW.trod enc P w base spare held n f4.type ((cs.drop f4.offset).take (P.cellsOf f4.type)) = some y4 ∧ DataW.trod enc P w base spare held n f5.type ((cs.drop f5.offset).take (P.cellsOf f5.type)) = some y5 ∧
      DataW.trod enc P w base spare held n f6.type ((cs.drop f6.offset).take (P.cellsOf f6.type)) = some y6 ∧ DataW.trod enc P w base spare held n f7.type ((cs.drop f7.offset).take (P.cellsOf f7.type)) = some y7 := by
  obtain ⟨xs, n, _, rfl, hl, hlen, hf⟩ := DataW.trod_struct ht h
  match xs, hlen with
  | [y0, y1, y2, y3, y4, y5, y6, y7], _ => exact ⟨y0, y1, y2, y3, y4, y5, y6, y7, n, by simpa using hf 0 f0 rfl, by simpa using hf 1 f1 rfl, by simpa using hf 2 f2 rfl, by simpa using hf 3 f3 rfl, by simpa using hf 4 f4 rfl, by simpa using hf 5 f5 rfl, by simpa using hf 6 f6 rfl, by simpa using hf 7 f7 rfl⟩
section
variable {H : Type} {enc : TypeId × Value → H} {W : World} {base : Nat} {sp : Nat → Bool} {held : Bool}
theorem gj_map (f : Nat → Jo) {n i : Nat} (h : i < n) : gj ((List.range n).map f) i = f i := by
  unfold gj; rw [List.getD_eq_getElem?_getD, List.getElem?_map, List.getElem?_range h]; rfl
theorem open_jobs {fuel : Nat} {v : Value} {y : DataW H × List MemPlace} (h : DataW.trod enc Try.prog W base sp held fuel 22 [v] = some y) :
    ∃ (a : Option Addr) (l : List Jo) (cap : Nat), v = .slice a l.length cap ∧ JobsS W a l := by
  have hC : Try.prog.cellsOf 43 = 8 := by kernel_rfl
  rcases Go.Deep.open_slice Try.underlying22 h with ⟨hcs, _⟩ | ⟨a, len, cap, m, n, D, Pl, hcs, hb, hl, hm, hmm, hx, hi⟩
  · obtain rfl : v = .slice none 0 0 := by simpa using hcs
    exact ⟨none, [], 0, rfl, ⟨by simp, 0, 0, (fun h => absurd rfl h), fun i hi => absurd hi (Nat.not_lt_zero _)⟩⟩
  · obtain rfl : v = .slice (some a) len cap := by simpa using hcs
    have hlm : len ≤ m := by rw [hmm]; split <;> omega
    rw [hC] at hi
    have key0 : ∀ i, i < len → ∃ x : Jo, W.cell? ((a.add (i * 8)).add 0) = some (.int .i64 x.n) ∧ W.cell? ((a.add (i * 8)).add 1) = some (.int .i64 x.r) ∧ W.cell? ((a.add (i * 8)).add 2) = some (.int .i64 x.c) ∧ W.cell? ((a.add (i * 8)).add 3) = some (.int .i64 x.f) ∧ W.cell? ((a.add (i * 8)).add 4) = some (.int .i64 x.l) ∧ W.cell? ((a.add (i * 8)).add 5) = some (.int .i64 x.w) ∧ W.cell? ((a.add (i * 8)).add 6) = some (.bool x.dy) ∧ W.cell? ((a.add (i * 8)).add 7) = some (.bool x.wm) := fun i hil => by
      obtain ⟨cs, hc, htr⟩ := hi i (by omega)
      obtain ⟨hcl, _, hat⟩ := World.cells?_some hc
      match cs, hcl with
      | [c0, c1, c2, c3, c4, c5, c6, c7], _ =>
        obtain ⟨y0, y1, y2, y3, y4, y5, y6, y7, n', g0, g1, g2, g3, g4, g5, g6, g7⟩ := trod_struct8 Try.underlying43 htr
        obtain ⟨z0, rfl, b0⟩ := part_int rfl (show DataW.trod enc Try.prog W base sp held n' 3 [c0] = some y0 from g0)
        obtain ⟨z1, rfl, b1⟩ := part_int rfl (show DataW.trod enc Try.prog W base sp held n' 3 [c1] = some y1 from g1)
        obtain ⟨z2, rfl, b2⟩ := part_int rfl (show DataW.trod enc Try.prog W base sp held n' 3 [c2] = some y2 from g2)
        obtain ⟨z3, rfl, b3⟩ := part_int rfl (show DataW.trod enc Try.prog W base sp held n' 3 [c3] = some y3 from g3)
        obtain ⟨z4, rfl, b4⟩ := part_int rfl (show DataW.trod enc Try.prog W base sp held n' 3 [c4] = some y4 from g4)
        obtain ⟨z5, rfl, b5⟩ := part_int rfl (show DataW.trod enc Try.prog W base sp held n' 3 [c5] = some y5 from g5)
        obtain ⟨z6, e6, _⟩ := DataW.trod_bool Try.underlying4 (show DataW.trod enc Try.prog W base sp held n' 4 [c6] = some y6 from g6)
        obtain rfl : c6 = .bool z6 := by simpa using e6
        obtain ⟨z7, e7, _⟩ := DataW.trod_bool Try.underlying4 (show DataW.trod enc Try.prog W base sp held n' 4 [c7] = some y7 from g7)
        obtain rfl : c7 = .bool z7 := by simpa using e7
        exact ⟨⟨z0, z1, z2, z3, z4, z5, z6, z7⟩, hat 0 (by decide), hat 1 (by decide), hat 2 (by decide), hat 3 (by decide), hat 4 (by decide), hat 5 (by decide), hat 6 (by decide), hat 7 (by decide)⟩
    have hspot : 0 < len → a.spot = none := fun h0 => by
      obtain ⟨x, hc, _⟩ := key0 0 h0
      rw [show 0 * 8 = 0 from rfl, add_zero, add_zero] at hc
      exact spot_none hc
    obtain ⟨f, hf⟩ := choose_ltN (α := Jo) (n := len) ⟨0, 0, 0, 0, 0, 0, false, false⟩ (p := fun i x => W.cell? ((a.add (i * 8)).add 0) = some (.int .i64 x.n) ∧ W.cell? ((a.add (i * 8)).add 1) = some (.int .i64 x.r) ∧ W.cell? ((a.add (i * 8)).add 2) = some (.int .i64 x.c) ∧ W.cell? ((a.add (i * 8)).add 3) = some (.int .i64 x.f) ∧ W.cell? ((a.add (i * 8)).add 4) = some (.int .i64 x.l) ∧ W.cell? ((a.add (i * 8)).add 5) = some (.int .i64 x.w) ∧ W.cell? ((a.add (i * 8)).add 6) = some (.bool x.dy) ∧ W.cell? ((a.add (i * 8)).add 7) = some (.bool x.wm)) key0
    refine ⟨some a, (List.range len).map f, cap, by simp, ⟨by simp; unfold maxLen at hm; omega, a.block, a.off, ?_, ?_⟩⟩
    · intro hne
      have hp : 0 < len := by
        have := List.length_pos_iff.2 hne
        simpa using this
      rw [← addr_of (hspot hp)]
    · intro i hi
      have hi : i < len := by simpa using hi
      have hs := hspot (by omega)
      have := hf i hi
      rw [add_at hs, add_zero, add_at rfl, add_at rfl, add_at rfl, add_at rfl, add_at rfl, add_at rfl, add_at rfl] at this
      rw [gj_map f hi]
      exact this
theorem gn_map (f : Nat → Ni) {n i : Nat} (h : i < n) : gn ((List.range n).map f) i = f i := by
  unfold gn; rw [List.getD_eq_getElem?_getD, List.getElem?_map, List.getElem?_range h]; rfl
theorem open_nights {fuel : Nat} {v : Value} {y : DataW H × List MemPlace} (h : DataW.trod enc Try.prog W base sp held fuel 23 [v] = some y) :
    ∃ (a : Option Addr) (l : List Ni) (cap : Nat), v = .slice a l.length cap ∧ NightsS W a l := by
  have hC : Try.prog.cellsOf 51 = 8 := by kernel_rfl
  rcases Go.Deep.open_slice Try.underlying23 h with ⟨hcs, _⟩ | ⟨a, len, cap, m, n, D, Pl, hcs, hb, hl, hm, hmm, hx, hi⟩
  · obtain rfl : v = .slice none 0 0 := by simpa using hcs
    exact ⟨none, [], 0, rfl, ⟨by simp, 0, 0, (fun h => absurd rfl h), fun i hi => absurd hi (Nat.not_lt_zero _)⟩⟩
  · obtain rfl : v = .slice (some a) len cap := by simpa using hcs
    have hlm : len ≤ m := by rw [hmm]; split <;> omega
    rw [hC] at hi
    have key0 : ∀ i, i < len → ∃ x : Ni, W.cell? ((a.add (i * 8)).add 0) = some (.int .i64 x.d) ∧ W.cell? ((a.add (i * 8)).add 1) = some (.int .i64 x.r) ∧ W.cell? ((a.add (i * 8)).add 2) = some (.int .i64 x.f) ∧ W.cell? ((a.add (i * 8)).add 3) = some (.int .i64 x.t) ∧ W.cell? ((a.add (i * 8)).add 4) = some (.int .i64 x.w) ∧ W.cell? ((a.add (i * 8)).add 5) = some (.int .i64 x.p) ∧ W.cell? ((a.add (i * 8)).add 6) = some (.bool x.rn) ∧ W.cell? ((a.add (i * 8)).add 7) = some (.bool x.fr) := fun i hil => by
      obtain ⟨cs, hc, htr⟩ := hi i (by omega)
      obtain ⟨hcl, _, hat⟩ := World.cells?_some hc
      match cs, hcl with
      | [c0, c1, c2, c3, c4, c5, c6, c7], _ =>
        obtain ⟨y0, y1, y2, y3, y4, y5, y6, y7, n', g0, g1, g2, g3, g4, g5, g6, g7⟩ := trod_struct8 Try.underlying51 htr
        obtain ⟨z0, rfl, b0⟩ := part_int rfl (show DataW.trod enc Try.prog W base sp held n' 3 [c0] = some y0 from g0)
        obtain ⟨z1, rfl, b1⟩ := part_int rfl (show DataW.trod enc Try.prog W base sp held n' 3 [c1] = some y1 from g1)
        obtain ⟨z2, rfl, b2⟩ := part_int rfl (show DataW.trod enc Try.prog W base sp held n' 3 [c2] = some y2 from g2)
        obtain ⟨z3, rfl, b3⟩ := part_int rfl (show DataW.trod enc Try.prog W base sp held n' 3 [c3] = some y3 from g3)
        obtain ⟨z4, rfl, b4⟩ := part_int rfl (show DataW.trod enc Try.prog W base sp held n' 3 [c4] = some y4 from g4)
        obtain ⟨z5, rfl, b5⟩ := part_int rfl (show DataW.trod enc Try.prog W base sp held n' 3 [c5] = some y5 from g5)
        obtain ⟨z6, e6, _⟩ := DataW.trod_bool Try.underlying4 (show DataW.trod enc Try.prog W base sp held n' 4 [c6] = some y6 from g6)
        obtain rfl : c6 = .bool z6 := by simpa using e6
        obtain ⟨z7, e7, _⟩ := DataW.trod_bool Try.underlying4 (show DataW.trod enc Try.prog W base sp held n' 4 [c7] = some y7 from g7)
        obtain rfl : c7 = .bool z7 := by simpa using e7
        exact ⟨⟨z0, z1, z2, z3, z4, z5, z6, z7⟩, hat 0 (by decide), hat 1 (by decide), hat 2 (by decide), hat 3 (by decide), hat 4 (by decide), hat 5 (by decide), hat 6 (by decide), hat 7 (by decide)⟩
    have hspot : 0 < len → a.spot = none := fun h0 => by
      obtain ⟨x, hc, _⟩ := key0 0 h0
      rw [show 0 * 8 = 0 from rfl, add_zero, add_zero] at hc
      exact spot_none hc
    obtain ⟨f, hf⟩ := choose_ltN (α := Ni) (n := len) ⟨0, 0, 0, 0, 0, 0, false, false⟩ (p := fun i x => W.cell? ((a.add (i * 8)).add 0) = some (.int .i64 x.d) ∧ W.cell? ((a.add (i * 8)).add 1) = some (.int .i64 x.r) ∧ W.cell? ((a.add (i * 8)).add 2) = some (.int .i64 x.f) ∧ W.cell? ((a.add (i * 8)).add 3) = some (.int .i64 x.t) ∧ W.cell? ((a.add (i * 8)).add 4) = some (.int .i64 x.w) ∧ W.cell? ((a.add (i * 8)).add 5) = some (.int .i64 x.p) ∧ W.cell? ((a.add (i * 8)).add 6) = some (.bool x.rn) ∧ W.cell? ((a.add (i * 8)).add 7) = some (.bool x.fr)) key0
    refine ⟨some a, (List.range len).map f, cap, by simp, ⟨by simp; unfold maxLen at hm; omega, a.block, a.off, ?_, ?_⟩⟩
    · intro hne
      have hp : 0 < len := by
        have := List.length_pos_iff.2 hne
        simpa using this
      rw [← addr_of (hspot hp)]
    · intro i hi
      have hi : i < len := by simpa using hi
      have hs := hspot (by omega)
      have := hf i hi
      rw [add_at hs, add_zero, add_at rfl, add_at rfl, add_at rfl, add_at rfl, add_at rfl, add_at rfl, add_at rfl] at this
      rw [gn_map f hi]
      exact this
theorem open_season {v : Value} {d : DataW H} {p : List MemPlace} (hv : Value.okWide Try.prog W .any base 25 v) (h : DataW.Trod enc Try.prog W 0 sp held 25 v d p) :
    ∃ (ja : Option Addr) (js : List Jo) (jc : Nat) (na : Option Addr) (ns : List Ni) (nc : Nat), v = .agg #[.slice ja js.length jc, .slice na ns.length nc] ∧ JobsS W ja js ∧ NightsS W na ns := by
  obtain ⟨v0, v1, y0, y1, n, rfl, _, _, h0, h1⟩ := Joins.open_agg2 Try.underlying25 (by kernel_rfl) (by kernel_rfl) hv h
  obtain ⟨ja, js, jc, rfl, hJ⟩ := open_jobs (show DataW.trod enc Try.prog W 0 sp held n 22 [v0] = some y0 from h0)
  obtain ⟨na, ns, nc, rfl, hN⟩ := open_nights (show DataW.trod enc Try.prog W 0 sp held n 23 [v1] = some y1 from h1)
  exact ⟨ja, js, jc, na, ns, nc, rfl, hJ, hN⟩
end
end Go.Proofs.Ytghlhjiomebmhaa
