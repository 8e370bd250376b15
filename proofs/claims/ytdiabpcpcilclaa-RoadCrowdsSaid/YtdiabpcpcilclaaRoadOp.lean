/-
  Arguments, opened: roads, stretches, posts, walls. By an AI agent.
-/
import Derived.Test.YtdiabpcpcilclaaLightO
import Derived.Test.YtdiabpcpcilclaaRoadA
namespace Go.Proofs.Ytdiabpcpcilclaa
set_option linter.unusedVariables false
set_option linter.unusedSimpArgs false
open Go.RowKit Go.ChangeShapes Go.WideShapes Go.ChangeAt
set_option maxRecDepth 100000

theorem gc_map (f : Nat → Chg) {n i : Nat} (h : i < n) : gc ((List.range n).map f) i = f i := by
  unfold gc; rw [List.getD_eq_getElem?_getD, List.getElem?_map, List.getElem?_range h]; rfl
section
variable {H : Type} {enc : TypeId × Value → H} {W : World} {base : Nat} {sp : Nat → Bool} {held : Bool}
theorem open_chgs {fuel : Nat} {v : Value} {y : DataW H × List MemPlace} (h : DataW.trod enc Try.prog W base sp held fuel 22 [v] = some y) :
    ∃ (a : Option Addr) (l : List Chg) (cap : Nat), v = .slice a l.length cap ∧ QuadS W a l ∧ l.length ≤ cap := by
  have hC : Try.prog.cellsOf 61 = 4 := by kernel_rfl
  rcases Go.Deep.open_slice Try.underlying22 h with ⟨hcs, _⟩ | ⟨a, len, cap, m, n, D, Pl, hcs, hb, hl, hm, hmm, hx, hi⟩
  · obtain rfl : v = .slice none 0 0 := by simpa using hcs
    exact ⟨none, [], 0, rfl, ⟨by simp, fun i hi => absurd hi (Nat.not_lt_zero _), 0, 0, (fun h => absurd rfl h), fun i hi => absurd hi (Nat.not_lt_zero _)⟩, Nat.le_refl _⟩
  · obtain rfl : v = .slice (some a) len cap := by simpa using hcs
    have hlm : len ≤ m := by rw [hmm]; split <;> omega
    rw [hC] at hi
    have key0 : ∀ i, i < len → ∃ x : Chg, (W.cell? ((a.add (i * 4)).add 0) = some (.int .i64 x.1) ∧ W.cell? ((a.add (i * 4)).add 1) = some (.int .i64 x.2.1) ∧ W.cell? ((a.add (i * 4)).add 2) = some (.int .i64 x.2.2.1) ∧ W.cell? ((a.add (i * 4)).add 3) = some (.int .i64 x.2.2.2)) ∧ (I64 x.1 ∧ I64 x.2.1 ∧ I64 x.2.2.1 ∧ I64 x.2.2.2) := fun i hil => by
      obtain ⟨cs, hc, htr⟩ := hi i (by omega)
      obtain ⟨hcl, _, hat⟩ := World.cells?_some hc
      match cs, hcl with
      | [c0, c1, c2, c3], _ =>
        obtain ⟨y0, y1, y2, y3, n', _, _, g0, g1, g2, g3⟩ := Joins.trod_struct4 Try.underlying61 htr
        obtain ⟨z0, rfl, b0⟩ := part_int rfl (show DataW.trod enc Try.prog W base sp held n' 3 [c0] = some y0 from g0)
        obtain ⟨z1, rfl, b1⟩ := part_int rfl (show DataW.trod enc Try.prog W base sp held n' 3 [c1] = some y1 from g1)
        obtain ⟨z2, rfl, b2⟩ := part_int rfl (show DataW.trod enc Try.prog W base sp held n' 3 [c2] = some y2 from g2)
        obtain ⟨z3, rfl, b3⟩ := part_int rfl (show DataW.trod enc Try.prog W base sp held n' 3 [c3] = some y3 from g3)
        exact ⟨(z0, z1, z2, z3), ⟨hat 0 (by decide), hat 1 (by decide), hat 2 (by decide), hat 3 (by decide)⟩, b0, b1, b2, b3⟩
    have hspot : 0 < len → a.spot = none := fun h0 => by
      obtain ⟨x, ⟨hc, _⟩, _⟩ := key0 0 h0
      rw [show 0 * 4 = 0 from rfl, add_zero, add_zero] at hc
      exact spot_none hc
    obtain ⟨f, hf⟩ := Go.Deep.choose_lt (α := Chg) (n := len) (p := fun i x => (W.cell? ((a.add (i * 4)).add 0) = some (.int .i64 x.1) ∧ W.cell? ((a.add (i * 4)).add 1) = some (.int .i64 x.2.1) ∧ W.cell? ((a.add (i * 4)).add 2) = some (.int .i64 x.2.2.1) ∧ W.cell? ((a.add (i * 4)).add 3) = some (.int .i64 x.2.2.2)) ∧ (I64 x.1 ∧ I64 x.2.1 ∧ I64 x.2.2.1 ∧ I64 x.2.2.2)) key0
    refine ⟨some a, (List.range len).map f, cap, by simp, ⟨by simp; unfold maxLen at hm; omega, ?_, a.block, a.off, ?_, ?_⟩, by simpa using hl⟩
    · intro i hi
      have hi : i < len := by simpa using hi
      rw [gc_map f hi]
      exact (hf i hi).2
    · intro hne
      rw [← addr_of (hspot (ne_pos hne))]
    · intro i hi
      have hi : i < len := by simpa using hi
      have hs := hspot (by omega)
      have := (hf i hi).1
      rw [add_at hs, add_zero, add_at rfl, add_at rfl, add_at rfl] at this
      rw [gc_map f hi]
      exact this
theorem open_chgsV {v : Value} {d : DataW H} {p : List MemPlace} (hv : Value.okWide Try.prog W .any base 22 v) (h : DataW.Trod enc Try.prog W 0 sp held 22 v d p) :
    ∃ (a : Option Addr) (l : List Chg) (cap : Nat), v = .slice a l.length cap ∧ QuadS W a l ∧ l.length ≤ cap := by
  obtain ⟨a, n, c, rfl⟩ := okWide_slice Try.underlying22 hv
  obtain ⟨fuel, hf⟩ := h
  exact open_chgs hf
theorem open_posts {fuel : Nat} {v : Value} {y : DataW H × List MemPlace} (h : DataW.trod enc Try.prog W base sp held fuel 45 [v] = some y) :
    ∃ (a : Option Addr) (l : List Chg) (cap : Nat), v = .slice a l.length cap ∧ QuadS W a l ∧ l.length ≤ cap := by
  have hC : Try.prog.cellsOf 78 = 4 := by kernel_rfl
  rcases Go.Deep.open_slice Try.underlying45 h with ⟨hcs, _⟩ | ⟨a, len, cap, m, n, D, Pl, hcs, hb, hl, hm, hmm, hx, hi⟩
  · obtain rfl : v = .slice none 0 0 := by simpa using hcs
    exact ⟨none, [], 0, rfl, ⟨by simp, fun i hi => absurd hi (Nat.not_lt_zero _), 0, 0, (fun h => absurd rfl h), fun i hi => absurd hi (Nat.not_lt_zero _)⟩, Nat.le_refl _⟩
  · obtain rfl : v = .slice (some a) len cap := by simpa using hcs
    have hlm : len ≤ m := by rw [hmm]; split <;> omega
    rw [hC] at hi
    have key0 : ∀ i, i < len → ∃ x : Chg, (W.cell? ((a.add (i * 4)).add 0) = some (.int .i64 x.1) ∧ W.cell? ((a.add (i * 4)).add 1) = some (.int .i64 x.2.1) ∧ W.cell? ((a.add (i * 4)).add 2) = some (.int .i64 x.2.2.1) ∧ W.cell? ((a.add (i * 4)).add 3) = some (.int .i64 x.2.2.2)) ∧ (I64 x.1 ∧ I64 x.2.1 ∧ I64 x.2.2.1 ∧ I64 x.2.2.2) := fun i hil => by
      obtain ⟨cs, hc, htr⟩ := hi i (by omega)
      obtain ⟨hcl, _, hat⟩ := World.cells?_some hc
      match cs, hcl with
      | [c0, c1, c2, c3], _ =>
        obtain ⟨y0, y1, y2, y3, n', _, _, g0, g1, g2, g3⟩ := Joins.trod_struct4 Try.underlying78 htr
        obtain ⟨z0, rfl, b0⟩ := part_int rfl (show DataW.trod enc Try.prog W base sp held n' 3 [c0] = some y0 from g0)
        obtain ⟨z1, rfl, b1⟩ := part_int rfl (show DataW.trod enc Try.prog W base sp held n' 3 [c1] = some y1 from g1)
        obtain ⟨z2, rfl, b2⟩ := part_int rfl (show DataW.trod enc Try.prog W base sp held n' 3 [c2] = some y2 from g2)
        obtain ⟨z3, rfl, b3⟩ := part_int rfl (show DataW.trod enc Try.prog W base sp held n' 3 [c3] = some y3 from g3)
        exact ⟨(z0, z1, z2, z3), ⟨hat 0 (by decide), hat 1 (by decide), hat 2 (by decide), hat 3 (by decide)⟩, b0, b1, b2, b3⟩
    have hspot : 0 < len → a.spot = none := fun h0 => by
      obtain ⟨x, ⟨hc, _⟩, _⟩ := key0 0 h0
      rw [show 0 * 4 = 0 from rfl, add_zero, add_zero] at hc
      exact spot_none hc
    obtain ⟨f, hf⟩ := Go.Deep.choose_lt (α := Chg) (n := len) (p := fun i x => (W.cell? ((a.add (i * 4)).add 0) = some (.int .i64 x.1) ∧ W.cell? ((a.add (i * 4)).add 1) = some (.int .i64 x.2.1) ∧ W.cell? ((a.add (i * 4)).add 2) = some (.int .i64 x.2.2.1) ∧ W.cell? ((a.add (i * 4)).add 3) = some (.int .i64 x.2.2.2)) ∧ (I64 x.1 ∧ I64 x.2.1 ∧ I64 x.2.2.1 ∧ I64 x.2.2.2)) key0
    refine ⟨some a, (List.range len).map f, cap, by simp, ⟨by simp; unfold maxLen at hm; omega, ?_, a.block, a.off, ?_, ?_⟩, by simpa using hl⟩
    · intro i hi
      have hi : i < len := by simpa using hi
      rw [gc_map f hi]
      exact (hf i hi).2
    · intro hne
      rw [← addr_of (hspot (ne_pos hne))]
    · intro i hi
      have hi : i < len := by simpa using hi
      have hs := hspot (by omega)
      have := (hf i hi).1
      rw [add_at hs, add_zero, add_at rfl, add_at rfl, add_at rfl] at this
      rw [gc_map f hi]
      exact this
theorem open_postsV {v : Value} {d : DataW H} {p : List MemPlace} (hv : Value.okWide Try.prog W .any base 45 v) (h : DataW.Trod enc Try.prog W 0 sp held 45 v d p) :
    ∃ (a : Option Addr) (l : List Chg) (cap : Nat), v = .slice a l.length cap ∧ QuadS W a l ∧ l.length ≤ cap := by
  obtain ⟨a, n, c, rfl⟩ := okWide_slice Try.underlying45 hv
  obtain ⟨fuel, hf⟩ := h
  exact open_posts hf
theorem open_span {v : Value} {d : DataW H} {p : List MemPlace} (hv : Value.okWide Try.prog W .any base 26 v) (h : DataW.Trod enc Try.prog W 0 sp held 26 v d p) :
    ∃ x0 x1 : Int, v = .agg #[.int .i64 x0, .int .i64 x1] ∧ I64 x0 ∧ I64 x1 := by
  obtain ⟨v0, v1, y0, y1, n, rfl, _, _, h0, h1⟩ := Joins.open_agg2 Try.underlying26 (by kernel_rfl) (by kernel_rfl) hv h
  obtain ⟨z0, rfl, b0⟩ := part_int rfl (show DataW.trod enc Try.prog W 0 sp held n 3 [v0] = some y0 from h0)
  obtain ⟨z1, rfl, b1⟩ := part_int rfl (show DataW.trod enc Try.prog W 0 sp held n 3 [v1] = some y1 from h1)
  exact ⟨z0, z1, rfl, b0, b1⟩
theorem open_way {v : Value} {d : DataW H} {p : List MemPlace} (hv : Value.okWide Try.prog W .any base 27 v) (h : DataW.Trod enc Try.prog W 0 sp held 27 v d p) :
    ∃ x0 x1 : Int, v = .agg #[.int .i64 x0, .int .i64 x1] ∧ I64 x0 ∧ I64 x1 := by
  obtain ⟨v0, v1, y0, y1, n, rfl, _, _, h0, h1⟩ := Joins.open_agg2 Try.underlying27 (by kernel_rfl) (by kernel_rfl) hv h
  obtain ⟨z0, rfl, b0⟩ := part_int rfl (show DataW.trod enc Try.prog W 0 sp held n 3 [v0] = some y0 from h0)
  obtain ⟨z1, rfl, b1⟩ := part_int rfl (show DataW.trod enc Try.prog W 0 sp held n 3 [v1] = some y1 from h1)
  exact ⟨z0, z1, rfl, b0, b1⟩
theorem open_post {v : Value} {d : DataW H} {p : List MemPlace} (hv : Value.okWide Try.prog W .any base 78 v) (h : DataW.Trod enc Try.prog W 0 sp held 78 v d p) :
    ∃ x0 x1 x2 x3 : Int, v = .agg #[.int .i64 x0, .int .i64 x1, .int .i64 x2, .int .i64 x3] ∧ I64 x0 ∧ I64 x1 ∧ I64 x2 ∧ I64 x3 := by
  obtain ⟨v0, v1, v2, v3, y0, y1, y2, y3, n, rfl, _, _, h0, h1, h2, h3⟩ := Joins.open_agg4 Try.underlying78 (by kernel_rfl) (by kernel_rfl) hv h
  obtain ⟨z0, rfl, b0⟩ := part_int rfl (show DataW.trod enc Try.prog W 0 sp held n 3 [v0] = some y0 from h0)
  obtain ⟨z1, rfl, b1⟩ := part_int rfl (show DataW.trod enc Try.prog W 0 sp held n 3 [v1] = some y1 from h1)
  obtain ⟨z2, rfl, b2⟩ := part_int rfl (show DataW.trod enc Try.prog W 0 sp held n 3 [v2] = some y2 from h2)
  obtain ⟨z3, rfl, b3⟩ := part_int rfl (show DataW.trod enc Try.prog W 0 sp held n 3 [v3] = some y3 from h3)
  exact ⟨z0, z1, z2, z3, rfl, b0, b1, b2, b3⟩
theorem open_road {v : Value} {d : DataW H} {p : List MemPlace} (hv : Value.okWide Try.prog W .any base 24 v) (h : DataW.Trod enc Try.prog W 0 sp held 24 v d p) :
    ∃ (N L : Int) (a : Option Addr) (l : List Chg) (ca : Nat), v = .agg #[.int .i64 N, .int .i64 L, .slice a l.length ca] ∧ QuadS W a l ∧ l.length ≤ ca ∧ I64 N ∧ I64 L := by
  obtain ⟨v0, v1, v2, y0, y1, y2, n, rfl, _, _, h0, h1, h2⟩ := Joins.open_agg3 Try.underlying24 (by kernel_rfl) (by kernel_rfl) hv h
  obtain ⟨z0, rfl, b0⟩ := part_int rfl (show DataW.trod enc Try.prog W 0 sp held n 3 [v0] = some y0 from h0)
  obtain ⟨z1, rfl, b1⟩ := part_int rfl (show DataW.trod enc Try.prog W 0 sp held n 3 [v1] = some y1 from h1)
  obtain ⟨a, l, ca, rfl, hQ, hca⟩ := open_chgs (show DataW.trod enc Try.prog W 0 sp held n 22 [v2] = some y2 from h2)
  exact ⟨z0, z1, a, l, ca, rfl, hQ, hca, b0, b1⟩
theorem bounds64 {z : Int} (w : (Lit.int .i64 z).wf = true) : I64 z := bounds_i64 w
end
end Go.Proofs.Ytdiabpcpcilclaa
