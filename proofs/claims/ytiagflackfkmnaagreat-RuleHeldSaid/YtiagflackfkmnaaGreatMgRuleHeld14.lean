/-
  The arguments of package rule's laws, opened. By an AI agent.
-/
import Derived.Test.YtiagflackfkmnaaGreatMgRuleHeld3
import Derived.Test.YtiagflackfkmnaaGreatMgRuleHeld13


namespace Go.Proofs.YtiagflackfkmnaaGreat
set_option linter.unusedVariables false
set_option linter.unusedSimpArgs false
open Go.RowKit Go.ChangeShapes Go.WideShapes Go.ChangeAt
set_option maxRecDepth 100000

theorem choose_ltR {α : Type} {n : Nat} (d : α) {p : Nat → α → Prop} (h : ∀ i, i < n → ∃ x, p i x) : ∃ f : Nat → α, ∀ i, i < n → p i (f i) := by
  classical
  exact ⟨fun i => if hi : i < n then (h i hi).choose else d, fun i hi => by simp only [hi, dif_pos]; exact (h i hi).choose_spec⟩
theorem gs_map (f : Nat → Sgn) {n i : Nat} (h : i < n) : gs ((List.range n).map f) i = f i := by
  unfold gs; rw [List.getD_eq_getElem?_getD, List.getElem?_map, List.getElem?_range h]; rfl
theorem ge_map (f : Nat → Edc) {n i : Nat} (h : i < n) : ge ((List.range n).map f) i = f i := by
  unfold ge; rw [List.getD_eq_getElem?_getD, List.getElem?_map, List.getElem?_range h]; rfl
section
variable {H : Type} {enc : TypeId × Value → H} {W : World} {base : Nat} {sp : Nat → Bool} {held : Bool}
theorem open_signs {fuel : Nat} {v : Value} {y : DataW H × List MemPlace} (h : DataW.trod enc Tryz.prog W base sp held fuel 25 [v] = some y) :
    ∃ (a : Option Addr) (l : List Sgn) (cap : Nat), v = .slice a l.length cap ∧ SgnS W a l := by
  have hC : Tryz.prog.cellsOf 34 = 9 := by kernel_rfl
  rcases Go.Deep.open_slice Tryz.underlying25 h with ⟨hcs, _⟩ | ⟨a, len, cap, m, n, D, Pl, hcs, hb, hl, hm, hmm, hx, hi⟩
  · obtain rfl : v = .slice none 0 0 := by simpa using hcs
    exact ⟨none, [], 0, rfl, ⟨by simp, 0, 0, fun _ => none, fun _ => 0, (fun h => absurd rfl h), fun i hi => absurd hi (Nat.not_lt_zero _)⟩⟩
  · obtain rfl : v = .slice (some a) len cap := by simpa using hcs
    have hlm : len ≤ m := by rw [hmm]; split <;> omega
    rw [hC] at hi
    have key0 : ∀ i, i < len → ∃ x : Sgn × Option Addr × Nat, (W.cell? ((a.add (i * 9)).add 0) = some (.int .i64 x.1.n) ∧ W.cell? ((a.add (i * 9)).add 1) = some (.int .i64 x.1.k) ∧ W.cell? ((a.add (i * 9)).add 2) = some (.int .i64 x.1.v) ∧ W.cell? ((a.add (i * 9)).add 3) = some (.int .i64 x.1.c) ∧ W.cell? ((a.add (i * 9)).add 4) = some (.int .i64 x.1.d) ∧ W.cell? ((a.add (i * 9)).add 5) = some (.int .i64 x.1.rk) ∧ W.cell? ((a.add (i * 9)).add 6) = some (.int .i64 x.1.up) ∧ W.cell? ((a.add (i * 9)).add 7) = some (.int .i64 x.1.dn)) ∧ W.cell? ((a.add (i * 9)).add 8) = some (.slice x.2.1 x.1.cv.length x.2.2) ∧ PairsS W x.2.1 x.1.cv := fun i hil => by
      obtain ⟨cs, hc, htr⟩ := hi i (by omega)
      obtain ⟨hcl, _, hat⟩ := World.cells?_some hc
      match cs, hcl with
      | [c0, c1, c2, c3, c4, c5, c6, c7, c8], _ =>
        obtain ⟨xs, n', _, _, _, hlen, hg⟩ := DataW.trod_struct Tryz.underlying34 htr
        match xs, hlen with
        | [y0, y1, y2, y3, y4, y5, y6, y7, y8], _ =>
          obtain ⟨z0, rfl, b0⟩ := part_int rfl (show DataW.trod enc Tryz.prog W base sp held n' 3 [c0] = some y0 from hg 0 _ rfl)
          obtain ⟨z1, rfl, b1⟩ := part_int rfl (show DataW.trod enc Tryz.prog W base sp held n' 3 [c1] = some y1 from hg 1 _ rfl)
          obtain ⟨z2, rfl, b2⟩ := part_int rfl (show DataW.trod enc Tryz.prog W base sp held n' 3 [c2] = some y2 from hg 2 _ rfl)
          obtain ⟨z3, rfl, b3⟩ := part_int rfl (show DataW.trod enc Tryz.prog W base sp held n' 3 [c3] = some y3 from hg 3 _ rfl)
          obtain ⟨z4, rfl, b4⟩ := part_int rfl (show DataW.trod enc Tryz.prog W base sp held n' 3 [c4] = some y4 from hg 4 _ rfl)
          obtain ⟨z5, rfl, b5⟩ := part_int rfl (show DataW.trod enc Tryz.prog W base sp held n' 3 [c5] = some y5 from hg 5 _ rfl)
          obtain ⟨z6, rfl, b6⟩ := part_int rfl (show DataW.trod enc Tryz.prog W base sp held n' 3 [c6] = some y6 from hg 6 _ rfl)
          obtain ⟨z7, rfl, b7⟩ := part_int rfl (show DataW.trod enc Tryz.prog W base sp held n' 3 [c7] = some y7 from hg 7 _ rfl)
          obtain ⟨b8, l8, p8, rfl, hP⟩ := open_spans (show DataW.trod enc Tryz.prog W base sp held n' 32 [c8] = some y8 from hg 8 _ rfl)
          exact ⟨(⟨z0, z1, z2, z3, z4, z5, z6, z7, l8⟩, b8, p8), ⟨hat 0 (by decide), hat 1 (by decide), hat 2 (by decide), hat 3 (by decide), hat 4 (by decide), hat 5 (by decide), hat 6 (by decide), hat 7 (by decide)⟩, hat 8 (by decide), hP⟩
    have hspot : 0 < len → a.spot = none := fun h0 => by
      obtain ⟨x, ⟨hc, _⟩, _⟩ := key0 0 h0
      rw [show 0 * 9 = 0 from rfl, add_zero, add_zero] at hc
      exact spot_none hc
    obtain ⟨f, hf⟩ := choose_ltR (α := Sgn × Option Addr × Nat) (n := len) (⟨0, 0, 0, 0, 0, 0, 0, 0, []⟩, none, 0) (p := fun i x => (W.cell? ((a.add (i * 9)).add 0) = some (.int .i64 x.1.n) ∧ W.cell? ((a.add (i * 9)).add 1) = some (.int .i64 x.1.k) ∧ W.cell? ((a.add (i * 9)).add 2) = some (.int .i64 x.1.v) ∧ W.cell? ((a.add (i * 9)).add 3) = some (.int .i64 x.1.c) ∧ W.cell? ((a.add (i * 9)).add 4) = some (.int .i64 x.1.d) ∧ W.cell? ((a.add (i * 9)).add 5) = some (.int .i64 x.1.rk) ∧ W.cell? ((a.add (i * 9)).add 6) = some (.int .i64 x.1.up) ∧ W.cell? ((a.add (i * 9)).add 7) = some (.int .i64 x.1.dn)) ∧ W.cell? ((a.add (i * 9)).add 8) = some (.slice x.2.1 x.1.cv.length x.2.2) ∧ PairsS W x.2.1 x.1.cv) key0
    refine ⟨some a, (List.range len).map fun i => (f i).1, cap, by simp, ⟨by simp; unfold maxLen at hm; omega, a.block, a.off, fun i => (f i).2.1, fun i => (f i).2.2, ?_, ?_⟩⟩
    · intro hne
      have hp : 0 < len := by
        have := List.length_pos_iff.2 hne
        simpa using this
      rw [← addr_of (hspot hp)]
    · intro i hi
      have hi : i < len := by simpa using hi
      have hs := hspot (by omega)
      have := hf i hi
      rw [add_at hs, add_zero, add_at rfl, add_at rfl, add_at rfl, add_at rfl, add_at rfl, add_at rfl, add_at rfl, add_at rfl] at this
      rw [gs_map (fun i => (f i).1) hi]
      exact this
theorem open_edicts {fuel : Nat} {v : Value} {y : DataW H × List MemPlace} (h : DataW.trod enc Tryz.prog W base sp held fuel 26 [v] = some y) :
    ∃ (a : Option Addr) (l : List Edc) (cap : Nat), v = .slice a l.length cap ∧ EdS W a l := by
  have hC : Tryz.prog.cellsOf 94 = 8 := by kernel_rfl
  rcases Go.Deep.open_slice Tryz.underlying26 h with ⟨hcs, _⟩ | ⟨a, len, cap, m, n, D, Pl, hcs, hb, hl, hm, hmm, hx, hi⟩
  · obtain rfl : v = .slice none 0 0 := by simpa using hcs
    exact ⟨none, [], 0, rfl, ⟨by simp, 0, 0, (fun h => absurd rfl h), fun i hi => absurd hi (Nat.not_lt_zero _)⟩⟩
  · obtain rfl : v = .slice (some a) len cap := by simpa using hcs
    have hlm : len ≤ m := by rw [hmm]; split <;> omega
    rw [hC] at hi
    have key0 : ∀ i, i < len → ∃ x : Edc, W.cell? ((a.add (i * 8)).add 0) = some (.int .i64 x.n) ∧ W.cell? ((a.add (i * 8)).add 1) = some (.int .i64 x.tp) ∧ W.cell? ((a.add (i * 8)).add 2) = some (.int .i64 x.v) ∧ W.cell? ((a.add (i * 8)).add 3) = some (.int .i64 x.d) ∧ W.cell? ((a.add (i * 8)).add 4) = some (.int .i64 x.fr) ∧ W.cell? ((a.add (i * 8)).add 5) = some (.int .i64 x.tt) ∧ W.cell? ((a.add (i * 8)).add 6) = some (.int .i64 x.st) ∧ W.cell? ((a.add (i * 8)).add 7) = some (.int .i64 x.en) := fun i hil => by
      obtain ⟨cs, hc, htr⟩ := hi i (by omega)
      obtain ⟨hcl, _, hat⟩ := World.cells?_some hc
      match cs, hcl with
      | [c0, c1, c2, c3, c4, c5, c6, c7], _ =>
        obtain ⟨xs, n', _, _, _, hlen, hg⟩ := DataW.trod_struct Tryz.underlying94 htr
        match xs, hlen with
        | [y0, y1, y2, y3, y4, y5, y6, y7], _ =>
          obtain ⟨z0, rfl, b0⟩ := part_int rfl (show DataW.trod enc Tryz.prog W base sp held n' 3 [c0] = some y0 from hg 0 _ rfl)
          obtain ⟨z1, rfl, b1⟩ := part_int rfl (show DataW.trod enc Tryz.prog W base sp held n' 3 [c1] = some y1 from hg 1 _ rfl)
          obtain ⟨z2, rfl, b2⟩ := part_int rfl (show DataW.trod enc Tryz.prog W base sp held n' 3 [c2] = some y2 from hg 2 _ rfl)
          obtain ⟨z3, rfl, b3⟩ := part_int rfl (show DataW.trod enc Tryz.prog W base sp held n' 3 [c3] = some y3 from hg 3 _ rfl)
          obtain ⟨z4, rfl, b4⟩ := part_int rfl (show DataW.trod enc Tryz.prog W base sp held n' 3 [c4] = some y4 from hg 4 _ rfl)
          obtain ⟨z5, rfl, b5⟩ := part_int rfl (show DataW.trod enc Tryz.prog W base sp held n' 3 [c5] = some y5 from hg 5 _ rfl)
          obtain ⟨z6, rfl, b6⟩ := part_int rfl (show DataW.trod enc Tryz.prog W base sp held n' 3 [c6] = some y6 from hg 6 _ rfl)
          obtain ⟨z7, rfl, b7⟩ := part_int rfl (show DataW.trod enc Tryz.prog W base sp held n' 3 [c7] = some y7 from hg 7 _ rfl)
          exact ⟨⟨z0, z1, z2, z3, z4, z5, z6, z7⟩, hat 0 (by decide), hat 1 (by decide), hat 2 (by decide), hat 3 (by decide), hat 4 (by decide), hat 5 (by decide), hat 6 (by decide), hat 7 (by decide)⟩
    have hspot : 0 < len → a.spot = none := fun h0 => by
      obtain ⟨x, hc, _⟩ := key0 0 h0
      rw [show 0 * 8 = 0 from rfl, add_zero, add_zero] at hc
      exact spot_none hc
    obtain ⟨f, hf⟩ := choose_ltR (α := Edc) (n := len) ⟨0, 0, 0, 0, 0, 0, 0, 0⟩ (p := fun i x => W.cell? ((a.add (i * 8)).add 0) = some (.int .i64 x.n) ∧ W.cell? ((a.add (i * 8)).add 1) = some (.int .i64 x.tp) ∧ W.cell? ((a.add (i * 8)).add 2) = some (.int .i64 x.v) ∧ W.cell? ((a.add (i * 8)).add 3) = some (.int .i64 x.d) ∧ W.cell? ((a.add (i * 8)).add 4) = some (.int .i64 x.fr) ∧ W.cell? ((a.add (i * 8)).add 5) = some (.int .i64 x.tt) ∧ W.cell? ((a.add (i * 8)).add 6) = some (.int .i64 x.st) ∧ W.cell? ((a.add (i * 8)).add 7) = some (.int .i64 x.en)) key0
    refine ⟨some a, (List.range len).map f, cap, by simp, ⟨by simp; unfold maxLen at hm; omega, a.block, a.off, ?_, ?_⟩⟩
    · intro hne
      have hp : 0 < len := by
        have := List.length_pos_iff.2 hne
        simpa using this
      rw [← addr_of (hspot hp)]
    · intro i hi
      have hi : i < len := by simpa using hi
      have hs := hspot (by omega)
      have := hf i hi
      rw [add_at hs, add_zero, add_at rfl, add_at rfl, add_at rfl, add_at rfl, add_at rfl, add_at rfl, add_at rfl] at this
      rw [ge_map f hi]
      exact this
theorem open_line {n : Nat} {c0 c1 : Value} {y : DataW H × List MemPlace} (h : DataW.trod enc Tryz.prog W base sp held n 24 [c0, c1] = some y) : ∃ (L : Int) (a : Option Addr) (l : List Int) (ca : Nat), c0 = .int .i64 L ∧ c1 = .slice a l.length ca ∧ IntsS W a l ∧ I64 L := by
  obtain ⟨xs, n', _, _, _, hlen, hg⟩ := DataW.trod_struct Tryz.underlying24 h
  match xs, hlen with
  | [y0, y1], _ =>
    obtain ⟨z0, rfl, b0⟩ := part_int rfl (show DataW.trod enc Tryz.prog W base sp held n' 3 [c0] = some y0 from hg 0 _ rfl)
    obtain ⟨a, l, ca, rfl, hA, _⟩ := part_ints rfl (show DataW.trod enc Tryz.prog W base sp held n' 22 [c1] = some y1 from hg 1 _ rfl)
    exact ⟨z0, a, l, ca, rfl, rfl, hA, b0⟩
theorem open_ask {v : Value} {d : DataW H} {p : List MemPlace} (hv : Value.okWide Tryz.prog W .any base 28 v) (h : DataW.Trod enc Tryz.prog W 0 sp held 28 v d p) :
    ∃ (L : Int) (a : Option Addr) (js : List Int) (ca : Nat) (aa : Option Addr) (l : List Sgn) (cl : Nat) (ae : Option Addr) (q : List Edc) (cq : Nat) (q0 q1 q2 q3 : Int), v = .agg #[.int .i64 L, .slice a js.length ca, .slice aa l.length cl, .slice ae q.length cq, .int .i64 q0, .int .i64 q1, .int .i64 q2, .int .i64 q3] ∧ IntsS W a js ∧ SgnS W aa l ∧ EdS W ae q ∧ I64 L ∧ I64 q0 ∧ I64 q1 ∧ I64 q2 ∧ I64 q3 := by
  obtain ⟨⟨cs⟩, rfl, hsz⟩ := okWide_struct Tryz.underlying28 hv
  have hC : Tryz.prog.cellsOf 28 = 8 := by kernel_rfl
  match cs, hsz.trans hC with
  | [c0, c1, c2, c3, c4, c5, c6, c7], _ =>
    obtain ⟨fuel, hf⟩ := h
    obtain ⟨xs, n, _, _, _, hlen, hg⟩ := DataW.trod_struct Tryz.underlying28 hf
    match xs, hlen with
    | [u0, u1, u2, u3, u4, u5, u6], _ =>
      obtain ⟨L, a, js, ca, rfl, rfl, hJ, bL⟩ := open_line (show DataW.trod enc Tryz.prog W 0 sp held n 24 [c0, c1] = some u0 from hg 0 _ rfl)
      obtain ⟨aa, l, cl, rfl, hA⟩ := open_signs (show DataW.trod enc Tryz.prog W 0 sp held n 25 [c2] = some u1 from hg 1 _ rfl)
      obtain ⟨ae, q, cq, rfl, hE⟩ := open_edicts (show DataW.trod enc Tryz.prog W 0 sp held n 26 [c3] = some u2 from hg 2 _ rfl)
      obtain ⟨q0, rfl, b0⟩ := part_int rfl (show DataW.trod enc Tryz.prog W 0 sp held n 3 [c4] = some u3 from hg 3 _ rfl)
      obtain ⟨q1, rfl, b1⟩ := part_int rfl (show DataW.trod enc Tryz.prog W 0 sp held n 3 [c5] = some u4 from hg 4 _ rfl)
      obtain ⟨q2, rfl, b2⟩ := part_int rfl (show DataW.trod enc Tryz.prog W 0 sp held n 3 [c6] = some u5 from hg 5 _ rfl)
      obtain ⟨q3, rfl, b3⟩ := part_int rfl (show DataW.trod enc Tryz.prog W 0 sp held n 3 [c7] = some u6 from hg 6 _ rfl)
      exact ⟨L, a, js, ca, aa, l, cl, ae, q, cq, q0, q1, q2, q3, rfl, hJ, hA, hE, bL, b0, b1, b2, b3⟩
end
end Go.Proofs.YtiagflackfkmnaaGreat
