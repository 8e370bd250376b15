/-
  Arguments, opened: places and three ints. By an AI agent.
-/
import Derived.Test.YtkmonaeajejamaaCutO
import Derived.Test.YtkmonaeajejamaaCutK
namespace Go.Proofs.Ytkmonaeajejamaa
set_option linter.unusedVariables false
set_option linter.unusedSimpArgs false
open Go.RowKit Go.ChangeShapes Go.WideShapes Go.ChangeAt
set_option maxRecDepth 100000

theorem cPlace : Try.prog.cellsOf 65 = 5 := by kernel_rfl
theorem cByte : Try.prog.cellsOf 5 = 1 := by kernel_rfl
theorem cTri : Try.prog.cellsOf 70 = 3 := by kernel_rfl
theorem gq_map (f : Nat → Plc) {n i : Nat} (h : i < n) : gq ((List.range n).map f) i = f i := by
  unfold gq; rw [List.getD_eq_getElem?_getD, List.getElem?_map, List.getElem?_range h]; rfl
section
variable {H : Type} {enc : TypeId × Value → H} {W : World} {base : Nat} {sp : Nat → Bool} {held : Bool}
theorem part_byte {n : Nat} {c : Value} {o : Option (DataW H × List MemPlace)} {y : DataW H × List MemPlace} (ho : o = some y) (h : DataW.trod enc Try.prog W base sp held n 5 [c] = o) : ∃ z : Int, c = .int .u8 z := by
  obtain ⟨z, e, _, hw⟩ := DataW.trod_int Try.underlying5 (h.trans ho)
  exact ⟨z, by simpa using e⟩
theorem open_places {fuel : Nat} {v : Value} {y : DataW H × List MemPlace} (h : DataW.trod enc Try.prog W base sp held fuel 56 [v] = some y) :
    ∃ (a : Option Addr) (l : List Plc) (cap : Nat), v = .slice a l.length cap ∧ PlacesS W a l ∧ l.length ≤ cap := by
  rcases Go.Deep.open_slice Try.underlying56 h with ⟨hcs, _⟩ | ⟨a, len, cap, m, n, D, Pl, hcs, hb, hl, hm, hmm, hx, hi⟩
  · obtain rfl : v = .slice none 0 0 := by simpa using hcs
    exact ⟨none, [], 0, rfl, ⟨by simp, 0, 0, (fun h => absurd rfl h), fun i hi => absurd hi (Nat.not_lt_zero _)⟩, Nat.le_refl _⟩
  · obtain rfl : v = .slice (some a) len cap := by simpa using hcs
    have hlm : len ≤ m := by rw [hmm]; split <;> omega
    rw [cPlace] at hi
    have key0 : ∀ i, i < len → ∃ x : Plc, W.cell? ((a.add (i * 5)).add 0) = some (.int .u8 x.1) ∧ W.cell? ((a.add (i * 5)).add 1) = some (.int .i64 x.2.1) ∧ W.cell? ((a.add (i * 5)).add 2) = some (.int .i64 x.2.2.1) ∧ W.cell? ((a.add (i * 5)).add 3) = some (.int .i64 x.2.2.2.1) ∧ W.cell? ((a.add (i * 5)).add 4) = some (.int .i64 x.2.2.2.2) := fun i hil => by
      obtain ⟨cs, hc, htr⟩ := hi i (by omega)
      obtain ⟨hcl, _, hat⟩ := World.cells?_some hc
      obtain ⟨xs, n', _, _, _, hxl, hf⟩ := DataW.trod_struct Try.underlying65 htr
      match cs, hcl with
      | [c0, c1, c2, c3, c4], _ =>
        match xs, hxl with
        | [y0, y1, y2, y3, y4], _ =>
        have g0 := hf 0 _ rfl
        have g1 := hf 1 _ rfl
        have g2 := hf 2 _ rfl
        have g3 := hf 3 _ rfl
        have g4 := hf 4 _ rfl
        simp only [List.getElem?_cons_zero, List.getElem?_cons_succ] at g0 g1 g2 g3 g4
        obtain ⟨z0, rfl⟩ := part_byte rfl g0
        obtain ⟨z1, rfl, _⟩ := part_int rfl g1
        obtain ⟨z2, rfl, _⟩ := part_int rfl g2
        obtain ⟨z3, rfl, _⟩ := part_int rfl g3
        obtain ⟨z4, rfl, _⟩ := part_int rfl g4
        exact ⟨(z0, z1, z2, z3, z4), hat 0 (by decide), hat 1 (by decide), hat 2 (by decide), hat 3 (by decide), hat 4 (by decide)⟩
    have hspot : 0 < len → a.spot = none := fun h0 => by
      obtain ⟨x, hc, _⟩ := key0 0 h0
      rw [show 0 * 5 = 0 from rfl, add_zero, add_zero] at hc
      exact spot_none hc
    obtain ⟨f, hf⟩ := Go.Deep.choose_lt (α := Plc) (n := len) (p := fun i x => W.cell? ((a.add (i * 5)).add 0) = some (.int .u8 x.1) ∧ W.cell? ((a.add (i * 5)).add 1) = some (.int .i64 x.2.1) ∧ W.cell? ((a.add (i * 5)).add 2) = some (.int .i64 x.2.2.1) ∧ W.cell? ((a.add (i * 5)).add 3) = some (.int .i64 x.2.2.2.1) ∧ W.cell? ((a.add (i * 5)).add 4) = some (.int .i64 x.2.2.2.2)) key0
    refine ⟨some a, (List.range len).map f, cap, by simp, ⟨by simp; unfold maxLen at hm; omega, a.block, a.off, ?_, ?_⟩, by simpa using hl⟩
    · intro hne
      rw [← addr_of (hspot (ne_pos hne))]
    · intro i hi
      have hi : i < len := by simpa using hi
      have hs := hspot (by omega)
      have := hf i hi
      rw [add_at hs, add_zero, add_at rfl, add_at rfl, add_at rfl, add_at rfl] at this
      rw [gq_map f hi]
      exact this
theorem open_placesV {v : Value} {d : DataW H} {p : List MemPlace} (hv : Value.okWide Try.prog W .any base 56 v) (h : DataW.Trod enc Try.prog W 0 sp held 56 v d p) :
    ∃ (a : Option Addr) (l : List Plc) (cap : Nat), v = .slice a l.length cap ∧ PlacesS W a l ∧ l.length ≤ cap := by
  obtain ⟨a, n, c, rfl⟩ := okWide_slice Try.underlying56 hv
  obtain ⟨fuel, hf⟩ := h
  exact open_places hf
theorem open_tri {v : Value} {d : DataW H} {p : List MemPlace} (hv : Value.okWide Try.prog W .any base 70 v) (h : DataW.Trod enc Try.prog W 0 sp held 70 v d p) :
    ∃ x y z : Int, v = .agg #[.int .i64 x, .int .i64 y, .int .i64 z] ∧ I64 x ∧ I64 y ∧ I64 z := by
  obtain ⟨⟨cs⟩, rfl, hsz⟩ := okWide_array Try.underlying70 hv
  match cs, hsz.trans cTri with
  | [c0, c1, c2], _ =>
    obtain ⟨fuel, hf⟩ := h
    obtain ⟨xs, n, _, _, _, hlen, hg⟩ := DataW.trod_array Try.underlying70 hf
    match xs, hlen with
    | [u0, u1, u2], _ =>
      have g0 := hg 0 (by omega)
      have g1 := hg 1 (by omega)
      have g2 := hg 2 (by omega)
      rw [cInt] at g0 g1 g2
      obtain ⟨z0, rfl, b0⟩ := part_int rfl (show DataW.trod enc Try.prog W 0 sp held n 3 [c0] = some u0 from g0)
      obtain ⟨z1, rfl, b1⟩ := part_int rfl (show DataW.trod enc Try.prog W 0 sp held n 3 [c1] = some u1 from g1)
      obtain ⟨z2, rfl, b2⟩ := part_int rfl (show DataW.trod enc Try.prog W 0 sp held n 3 [c2] = some u2 from g2)
      exact ⟨z0, z1, z2, rfl, b0, b1, b2⟩
end
end Go.Proofs.Ytkmonaeajejamaa
