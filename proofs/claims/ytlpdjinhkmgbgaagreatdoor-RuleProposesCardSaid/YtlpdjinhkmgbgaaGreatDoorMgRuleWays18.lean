/-
  Arguments, opened: lists of ints and of pairs, tables, scenes, structs of them, arrays. By an AI agent.; The arguments of package rule's laws, opened. By an AI agent.
-/
import Derived.Test.YtlpdjinhkmgbgaaGreatDoorMgRuleWays0
import Derived.Test.YtlpdjinhkmgbgaaGreatDoorMgRuleWays2
import Derived.Lib.SmallJoins
import Derived.Deep.Slices
import Derived.OpenShut

namespace Go.Proofs.YtlpdjinhkmgbgaaGreatDoor
set_option linter.unusedVariables false
set_option linter.unusedSimpArgs false
open Go.RowKit Go.ChangeShapes Go.WideShapes Go.ChangeAt
set_option maxRecDepth 100000

theorem cInt : Tryz.prog.cellsOf 3 = 1 := by kernel_rfl
theorem cInts : Tryz.prog.cellsOf 22 = 1 := by kernel_rfl
section
variable {H : Type} {enc : TypeId × Value → H} {W : World} {base : Nat} {sp : Nat → Bool} {held : Bool}

/-- A cell that reads as an int. -/
theorem part_int {n : Nat} {c : Value} {o : Option (DataW H × List MemPlace)} {y : DataW H × List MemPlace} (ho : o = some y) (h : DataW.trod enc Tryz.prog W base sp held n 3 [c] = o) : ∃ z : Int, c = .int .i64 z ∧ I64 z := by
  obtain ⟨z, e, _, hw⟩ := DataW.trod_int Tryz.underlying3 (h.trans ho)
  exact ⟨z, by simpa using e, bounds_i64 hw⟩
theorem add_at {a : Addr} (h : a.spot = none) (n : Nat) : a.add n = ⟨a.block, a.off + n, none⟩ := by
  unfold Addr.add
  split
  · rename_i h0; subst h0; cases a; simp only at h; subst h; rfl
  · rfl
theorem add_zero (a : Addr) : a.add 0 = a := by unfold Addr.add; simp
theorem spot_none {w : World} {a : Addr} {v : Value} (h : w.cell? a = some v) : a.spot = none := by
  unfold World.cell? at h
  split at h
  · split at h
    · cases h
    · rename_i hs; simpa using hs
  · cases h
theorem addr_of {a : Addr} (h : a.spot = none) : a = ⟨a.block, a.off, none⟩ := by cases a; simp only at h; subst h; rfl
theorem gi_map (f : Nat → Int) {n i : Nat} (h : i < n) : gi ((List.range n).map f) i = f i := by
  unfold gi; rw [List.getD_eq_getElem?_getD, List.getElem?_map, List.getElem?_range h]; rfl
theorem gp_map (f : Nat → Int × Int) {n i : Nat} (h : i < n) : gp ((List.range n).map f) i = f i := by
  unfold gp; rw [List.getD_eq_getElem?_getD, List.getElem?_map, List.getElem?_range h]; rfl
theorem gr_map (f : Nat → List Int) {n i : Nat} (h : i < n) : gr ((List.range n).map f) i = f i := by
  unfold gr; rw [List.getD_eq_getElem?_getD, List.getElem?_map, List.getElem?_range h]; rfl
theorem ne_pos {α : Type} {f : Nat → α} {n : Nat} (h : (List.range n).map f ≠ []) : 0 < n := by
  apply Nat.pos_of_ne_zero
  rintro rfl
  exact h rfl

theorem open_ints {fuel : Nat} {v : Value} {y : DataW H × List MemPlace} (h : DataW.trod enc Tryz.prog W base sp held fuel 22 [v] = some y) :
    ∃ (a : Option Addr) (l : List Int) (cap : Nat), v = .slice a l.length cap ∧ IntsS W a l ∧ l.length ≤ cap := by
  rcases Go.Deep.open_slice1 Tryz.underlying22 cInt h with ⟨hcs, _⟩ | ⟨a, len, cap, m, n, V, D, Pl, hcs, hb, hl, hm, hmm, hx, hi⟩
  · obtain rfl : v = .slice none 0 0 := by simpa using hcs
    exact ⟨none, [], 0, rfl, ⟨by simp, fun i hi => absurd hi (Nat.not_lt_zero _), 0, 0, (fun h => absurd rfl h), fun i hi => absurd hi (Nat.not_lt_zero _)⟩, Nat.le_refl _⟩
  · obtain rfl : v = .slice (some a) len cap := by simpa using hcs
    have hlm : len ≤ m := by rw [hmm]; split <;> omega
    have key0 : ∀ i, i < len → ∃ x : Int, W.cell? (a.add i) = some (.int .i64 x) ∧ I64 x := fun i hil => by
      obtain ⟨hc, ht⟩ := hi i (by omega)
      obtain ⟨z, hz, hb⟩ := part_int rfl ht
      exact ⟨z, by rw [hc, hz], hb⟩
    have hspot : 0 < len → a.spot = none := fun h0 => by
      obtain ⟨x, hc, _⟩ := key0 0 h0
      rw [add_zero] at hc
      exact spot_none hc
    obtain ⟨f, hf⟩ := Go.Deep.choose_lt (α := Int) (n := len) (p := fun i x => W.cell? (a.add i) = some (.int .i64 x) ∧ I64 x) key0
    refine ⟨some a, (List.range len).map f, cap, by simp, ⟨by simp; unfold maxLen at hm; omega, ?_, a.block, a.off, ?_, ?_⟩, by simpa using hl⟩
    · intro i hi
      have hi : i < len := by simpa using hi
      rw [gi_map f hi]
      exact (hf i hi).2
    · intro hne
      rw [← addr_of (hspot (ne_pos hne))]
    · intro i hi
      have hi : i < len := by simpa using hi
      rw [gi_map f hi, ← add_at (hspot (by omega))]
      exact (hf i hi).1

theorem open_rows {fuel : Nat} {v : Value} {y : DataW H × List MemPlace} (h : DataW.trod enc Tryz.prog W base sp held fuel 132 [v] = some y) :
    ∃ (a : Option Addr) (r : List (List Int)) (cap : Nat), v = .slice a r.length cap ∧ RowsS W a r := by
  rcases Go.Deep.open_slice1 Tryz.underlying132 cInts h with ⟨hcs, _⟩ | ⟨a, len, cap, m, n, V, D, Pl, hcs, hb, hl, hm, hmm, hx, hi⟩
  · obtain rfl : v = .slice none 0 0 := by simpa using hcs
    exact ⟨none, [], 0, rfl, by simp, 0, 0, fun _ => none, fun _ => 0, (fun h => absurd rfl h), fun i hi => absurd hi (Nat.not_lt_zero _)⟩
  · obtain rfl : v = .slice (some a) len cap := by simpa using hcs
    have hlm : len ≤ m := by rw [hmm]; split <;> omega
    have key0 : ∀ i, i < len → ∃ x : Option Addr × List Int × Nat, W.cell? (a.add i) = some (.slice x.1 x.2.1.length x.2.2) ∧ IntsS W x.1 x.2.1 ∧ x.2.1.length ≤ x.2.2 := fun i hil => by
      obtain ⟨hc, ht⟩ := hi i (by omega)
      obtain ⟨b, l, c, hz, hI⟩ := open_ints ht
      exact ⟨(b, l, c), by rw [hc, hz], hI⟩
    have hspot : 0 < len → a.spot = none := fun h0 => by
      obtain ⟨x, hc, _⟩ := key0 0 h0
      rw [add_zero] at hc
      exact spot_none hc
    obtain ⟨f, hf⟩ := Go.Deep.choose_lt (α := Option Addr × List Int × Nat) (n := len) (p := fun i x => W.cell? (a.add i) = some (.slice x.1 x.2.1.length x.2.2) ∧ IntsS W x.1 x.2.1 ∧ x.2.1.length ≤ x.2.2) key0
    refine ⟨some a, (List.range len).map fun i => (f i).2.1, cap, by simp, by simp; unfold maxLen at hm; omega, a.block, a.off, fun i => (f i).1, fun i => (f i).2.2, ?_, ?_⟩
    · intro hne
      rw [← addr_of (hspot (ne_pos hne))]
    · intro i hi
      have hi : i < len := by simpa using hi
      rw [gr_map (fun i => (f i).2.1) hi, ← add_at (hspot (by omega))]
      exact hf i hi

/-- A slice of structs of two ints. -/
theorem open_pairs {t e : TypeId} {f0 f1 : Field} (ht : Tryz.prog.underlying t = some (.slice e)) (he : Tryz.prog.underlying e = some (.struct #[f0, f1])) (hC : Tryz.prog.cellsOf e = 2) (o0 : f0.offset = 0) (o1 : f1.offset = 1) (t0 : f0.type = 3) (t1 : f1.type = 3)
    {fuel : Nat} {v : Value} {y : DataW H × List MemPlace} (h : DataW.trod enc Tryz.prog W base sp held fuel t [v] = some y) :
    ∃ (a : Option Addr) (l : List (Int × Int)) (cap : Nat), v = .slice a l.length cap ∧ PairsS W a l := by
  rcases Go.Deep.open_slice ht h with ⟨hcs, _⟩ | ⟨a, len, cap, m, n, D, Pl, hcs, hb, hl, hm, hmm, hx, hi⟩
  · obtain rfl : v = .slice none 0 0 := by simpa using hcs
    exact ⟨none, [], 0, rfl, by simp, fun i hi => absurd hi (Nat.not_lt_zero _), 0, 0, (fun h => absurd rfl h), fun i hi => absurd hi (Nat.not_lt_zero _)⟩
  · obtain rfl : v = .slice (some a) len cap := by simpa using hcs
    have hlm : len ≤ m := by rw [hmm]; split <;> omega
    rw [hC] at hi
    have key0 : ∀ i, i < len → ∃ x : Int × Int, (W.cell? ((a.add (i * 2)).add 0) = some (.int .i64 x.1) ∧ W.cell? ((a.add (i * 2)).add 1) = some (.int .i64 x.2)) ∧ (I64 x.1 ∧ I64 x.2) := fun i hil => by
      obtain ⟨cs, hc, htr⟩ := hi i (by omega)
      obtain ⟨hcl, _, hat⟩ := World.cells?_some hc
      match cs, hcl with
      | [c0, c1], _ =>
        obtain ⟨y0, y1, n', _, _, g0, g1⟩ := trod_struct2 he htr
        rw [o0, t0, cInt] at g0
        rw [o1, t1, cInt] at g1
        obtain ⟨z0, rfl, b0⟩ := part_int rfl g0
        obtain ⟨z1, rfl, b1⟩ := part_int rfl g1
        exact ⟨(z0, z1), ⟨hat 0 (by decide), hat 1 (by decide)⟩, b0, b1⟩
    have hspot : 0 < len → a.spot = none := fun h0 => by
      obtain ⟨x, ⟨hc, _⟩, _⟩ := key0 0 h0
      rw [show 0 * 2 = 0 from rfl, add_zero, add_zero] at hc
      exact spot_none hc
    obtain ⟨f, hf⟩ := Go.Deep.choose_lt (α := Int × Int) (n := len) (p := fun i x => (W.cell? ((a.add (i * 2)).add 0) = some (.int .i64 x.1) ∧ W.cell? ((a.add (i * 2)).add 1) = some (.int .i64 x.2)) ∧ (I64 x.1 ∧ I64 x.2)) key0
    refine ⟨some a, (List.range len).map f, cap, by simp, by simp; unfold maxLen at hm; omega, ?_, a.block, a.off, ?_, ?_⟩
    · intro i hi
      have hi : i < len := by simpa using hi
      rw [gp_map f hi]
      exact (hf i hi).2
    · intro hne
      rw [← addr_of (hspot (ne_pos hne))]
    · intro i hi
      have hi : i < len := by simpa using hi
      have hs := hspot (by omega)
      have := (hf i hi).1
      rw [add_at hs, add_zero, add_at rfl] at this
      rw [gp_map f hi]
      exact this
theorem part_ints {fuel : Nat} {c : Value} {o : Option (DataW H × List MemPlace)} {y : DataW H × List MemPlace} (ho : o = some y) (h : DataW.trod enc Tryz.prog W base sp held fuel 22 [c] = o) :
    ∃ (a : Option Addr) (l : List Int) (cap : Nat), c = .slice a l.length cap ∧ IntsS W a l ∧ l.length ≤ cap := open_ints (h.trans ho)
theorem part_rows {fuel : Nat} {c : Value} {o : Option (DataW H × List MemPlace)} {y : DataW H × List MemPlace} (ho : o = some y) (h : DataW.trod enc Tryz.prog W base sp held fuel 132 [c] = o) :
    ∃ (a : Option Addr) (r : List (List Int)) (cap : Nat), c = .slice a r.length cap ∧ RowsS W a r := open_rows (h.trans ho)

theorem cSpan : Tryz.prog.cellsOf 86 = 2 := by kernel_rfl
theorem part_two {t : TypeId} {f0 f1 : Field} (he : Tryz.prog.underlying t = some (.struct #[f0, f1])) (o0 : f0.offset = 0) (o1 : f1.offset = 1) (t0 : f0.type = 3) (t1 : f1.type = 3)
    {fuel : Nat} {c0 c1 : Value} {o : Option (DataW H × List MemPlace)} {y : DataW H × List MemPlace} (hs : o = some y) (h : DataW.trod enc Tryz.prog W base sp held fuel t [c0, c1] = o) :
    ∃ z0 z1 : Int, c0 = .int .i64 z0 ∧ c1 = .int .i64 z1 ∧ I64 z0 ∧ I64 z1 := by
  obtain ⟨y0, y1, n, _, _, g0, g1⟩ := trod_struct2 he (h.trans hs)
  rw [o0, t0, cInt] at g0
  rw [o1, t1, cInt] at g1
  obtain ⟨z0, rfl, b0⟩ := part_int rfl g0
  obtain ⟨z1, rfl, b1⟩ := part_int rfl g1
  exact ⟨z0, z1, rfl, rfl, b0, b1⟩
theorem okWide_array {r : Reach} {b0 : Nat} {t : TypeId} {n : Nat} {e : TypeId} {v : Value} (ht : Tryz.prog.underlying t = some (.array n e)) (h : Value.okWide Tryz.prog W r b0 t v) : ∃ cs : Array Value, v = .agg cs ∧ cs.size = Tryz.prog.cellsOf t := by
  simp only [Value.okWide, ht] at h
  obtain ⟨cs, h1, h2, _⟩ := h
  exact ⟨cs, h1, h2⟩

/-- Two numbers of a small kind. -/
theorem open_duo {t e : TypeId} {k : IntKind} (ht : Tryz.prog.underlying t = some (.array 2 e)) (he : Tryz.prog.underlying e = some (.int k)) (hC : Tryz.prog.cellsOf t = 2) (hE : Tryz.prog.cellsOf e = 1) {v : Value} {d : DataW H} {p : List MemPlace} (hv : Value.okWide Tryz.prog W .any base t v) (h : DataW.Trod enc Tryz.prog W 0 sp held t v d p) :
    ∃ m n : Int, v = .agg #[.int k m, .int k n] ∧ (Lit.int k m).wf = true ∧ (Lit.int k n).wf = true := by
  obtain ⟨⟨cs⟩, rfl, hsz⟩ := okWide_array ht hv
  match cs, hsz.trans hC with
  | [c0, c1], _ =>
    obtain ⟨fuel, hf⟩ := h
    obtain ⟨xs, n, _, _, _, hlen, hg⟩ := DataW.trod_array ht hf
    match xs, hlen with
    | [u0, u1], _ =>
      have g0 := hg 0 (by omega)
      have g1 := hg 1 (by omega)
      rw [hE] at g0 g1
      obtain ⟨z0, e0, _, w0⟩ := DataW.trod_int he (show DataW.trod enc Tryz.prog W 0 sp held n e [c0] = some u0 from g0)
      obtain ⟨z1, e1, _, w1⟩ := DataW.trod_int he (show DataW.trod enc Tryz.prog W 0 sp held n e [c1] = some u1 from g1)
      obtain rfl : c0 = .int k z0 := by simpa using e0
      obtain rfl : c1 = .int k z1 := by simpa using e1
      exact ⟨z0, z1, rfl, w0, w1⟩
theorem open_spans {fuel : Nat} {c : Value} {y : DataW H × List MemPlace} (h : DataW.trod enc Tryz.prog W base sp held fuel 67 [c] = some y) : ∃ (a : Option Addr) (l : List (Int × Int)) (cap : Nat), c = .slice a l.length cap ∧ PairsS W a l :=
  open_pairs Tryz.underlying67 Tryz.underlying86 cSpan rfl rfl rfl rfl h
theorem open_spansV {v : Value} {d : DataW H} {p : List MemPlace} (hv : Value.okWide Tryz.prog W .any base 67 v) (h : DataW.Trod enc Tryz.prog W 0 sp held 67 v d p) :
    ∃ (a : Option Addr) (l : List (Int × Int)) (cap : Nat), v = .slice a l.length cap ∧ PairsS W a l := by
  obtain ⟨a, n, c, rfl⟩ := okWide_slice Tryz.underlying67 hv
  obtain ⟨fuel, hf⟩ := h
  exact open_spans hf
theorem open_intsV {v : Value} {d : DataW H} {p : List MemPlace} (hv : Value.okWide Tryz.prog W .any base 22 v) (h : DataW.Trod enc Tryz.prog W 0 sp held 22 v d p) :
    ∃ (a : Option Addr) (l : List Int) (cap : Nat), v = .slice a l.length cap ∧ IntsS W a l ∧ l.length ≤ cap := by
  obtain ⟨a, n, c, rfl⟩ := okWide_slice Tryz.underlying22 hv
  obtain ⟨fuel, hf⟩ := h
  exact open_ints hf
end
end Go.Proofs.YtlpdjinhkmgbgaaGreatDoor

namespace Go.Proofs.YtlpdjinhkmgbgaaGreatDoor
set_option linter.unusedVariables false
set_option linter.unusedSimpArgs false
open Go.RowKit Go.ChangeShapes Go.WideShapes Go.ChangeAt
set_option maxRecDepth 100000

theorem choose_ltR {α : Type} {n : Nat} (d : α) {p : Nat → α → Prop} (h : ∀ i, i < n → ∃ x, p i x) : ∃ f : Nat → α, ∀ i, i < n → p i (f i) := by
  classical
  exact ⟨fun i => if hi : i < n then (h i hi).choose else d, fun i hi => by simp only [hi, dif_pos]; exact (h i hi).choose_spec⟩
theorem gs_map (f : Nat → Sgn) {n i : Nat} (h : i < n) : gs ((List.range n).map f) i = f i := by
  unfold gs; rw [List.getD_eq_getElem?_getD, List.getElem?_map, List.getElem?_range h]; rfl
theorem ge_map (f : Nat → Edc) {n i : Nat} (h : i < n) : ge ((List.range n).map f) i = f i := by
  unfold ge; rw [List.getD_eq_getElem?_getD, List.getElem?_map, List.getElem?_range h]; rfl
section
variable {H : Type} {enc : TypeId × Value → H} {W : World} {base : Nat} {sp : Nat → Bool} {held : Bool}
theorem open_signs {fuel : Nat} {v : Value} {y : DataW H × List MemPlace} (h : DataW.trod enc Tryz.prog W base sp held fuel 25 [v] = some y) :
    ∃ (a : Option Addr) (l : List Sgn) (cap : Nat), v = .slice a l.length cap ∧ SgnS W a l := by
  have hC : Tryz.prog.cellsOf 69 = 9 := by kernel_rfl
  rcases Go.Deep.open_slice Tryz.underlying25 h with ⟨hcs, _⟩ | ⟨a, len, cap, m, n, D, Pl, hcs, hb, hl, hm, hmm, hx, hi⟩
  · obtain rfl : v = .slice none 0 0 := by simpa using hcs
    exact ⟨none, [], 0, rfl, ⟨by simp, 0, 0, fun _ => none, fun _ => 0, (fun h => absurd rfl h), fun i hi => absurd hi (Nat.not_lt_zero _)⟩⟩
  · obtain rfl : v = .slice (some a) len cap := by simpa using hcs
    have hlm : len ≤ m := by rw [hmm]; split <;> omega
    rw [hC] at hi
    have key0 : ∀ i, i < len → ∃ x : Sgn × Option Addr × Nat, (W.cell? ((a.add (i * 9)).add 0) = some (.int .i64 x.1.n) ∧ W.cell? ((a.add (i * 9)).add 1) = some (.int .i64 x.1.k) ∧ W.cell? ((a.add (i * 9)).add 2) = some (.int .i64 x.1.v) ∧ W.cell? ((a.add (i * 9)).add 3) = some (.int .i64 x.1.c) ∧ W.cell? ((a.add (i * 9)).add 4) = some (.int .i64 x.1.d) ∧ W.cell? ((a.add (i * 9)).add 5) = some (.int .i64 x.1.rk) ∧ W.cell? ((a.add (i * 9)).add 6) = some (.int .i64 x.1.up) ∧ W.cell? ((a.add (i * 9)).add 7) = some (.int .i64 x.1.dn)) ∧ W.cell? ((a.add (i * 9)).add 8) = some (.slice x.2.1 x.1.cv.length x.2.2) ∧ PairsS W x.2.1 x.1.cv := fun i hil => by
      obtain ⟨cs, hc, htr⟩ := hi i (by omega)
      obtain ⟨hcl, _, hat⟩ := World.cells?_some hc
      match cs, hcl with
      | [c0, c1, c2, c3, c4, c5, c6, c7, c8], _ =>
        obtain ⟨xs, n', _, _, _, hlen, hg⟩ := DataW.trod_struct Tryz.underlying69 htr
        match xs, hlen with
        | [y0, y1, y2, y3, y4, y5, y6, y7, y8], _ =>
          obtain ⟨z0, rfl, b0⟩ := part_int rfl (show DataW.trod enc Tryz.prog W base sp held n' 3 [c0] = some y0 from hg 0 _ rfl)
          obtain ⟨z1, rfl, b1⟩ := part_int rfl (show DataW.trod enc Tryz.prog W base sp held n' 3 [c1] = some y1 from hg 1 _ rfl)
          obtain ⟨z2, rfl, b2⟩ := part_int rfl (show DataW.trod enc Tryz.prog W base sp held n' 3 [c2] = some y2 from hg 2 _ rfl)
          obtain ⟨z3, rfl, b3⟩ := part_int rfl (show DataW.trod enc Tryz.prog W base sp held n' 3 [c3] = some y3 from hg 3 _ rfl)
          obtain ⟨z4, rfl, b4⟩ := part_int rfl (show DataW.trod enc Tryz.prog W base sp held n' 3 [c4] = some y4 from hg 4 _ rfl)
          obtain ⟨z5, rfl, b5⟩ := part_int rfl (show DataW.trod enc Tryz.prog W base sp held n' 3 [c5] = some y5 from hg 5 _ rfl)
          obtain ⟨z6, rfl, b6⟩ := part_int rfl (show DataW.trod enc Tryz.prog W base sp held n' 3 [c6] = some y6 from hg 6 _ rfl)
          obtain ⟨z7, rfl, b7⟩ := part_int rfl (show DataW.trod enc Tryz.prog W base sp held n' 3 [c7] = some y7 from hg 7 _ rfl)
          obtain ⟨b8, l8, p8, rfl, hP⟩ := open_spans (show DataW.trod enc Tryz.prog W base sp held n' 67 [c8] = some y8 from hg 8 _ rfl)
          exact ⟨(⟨z0, z1, z2, z3, z4, z5, z6, z7, l8⟩, b8, p8), ⟨hat 0 (by decide), hat 1 (by decide), hat 2 (by decide), hat 3 (by decide), hat 4 (by decide), hat 5 (by decide), hat 6 (by decide), hat 7 (by decide)⟩, hat 8 (by decide), hP⟩
    have hspot : 0 < len → a.spot = none := fun h0 => by
      obtain ⟨x, ⟨hc, _⟩, _⟩ := key0 0 h0
      rw [show 0 * 9 = 0 from rfl, add_zero, add_zero] at hc
      exact spot_none hc
    obtain ⟨f, hf⟩ := choose_ltR (α := Sgn × Option Addr × Nat) (n := len) (⟨0, 0, 0, 0, 0, 0, 0, 0, []⟩, none, 0) (p := fun i x => (W.cell? ((a.add (i * 9)).add 0) = some (.int .i64 x.1.n) ∧ W.cell? ((a.add (i * 9)).add 1) = some (.int .i64 x.1.k) ∧ W.cell? ((a.add (i * 9)).add 2) = some (.int .i64 x.1.v) ∧ W.cell? ((a.add (i * 9)).add 3) = some (.int .i64 x.1.c) ∧ W.cell? ((a.add (i * 9)).add 4) = some (.int .i64 x.1.d) ∧ W.cell? ((a.add (i * 9)).add 5) = some (.int .i64 x.1.rk) ∧ W.cell? ((a.add (i * 9)).add 6) = some (.int .i64 x.1.up) ∧ W.cell? ((a.add (i * 9)).add 7) = some (.int .i64 x.1.dn)) ∧ W.cell? ((a.add (i * 9)).add 8) = some (.slice x.2.1 x.1.cv.length x.2.2) ∧ PairsS W x.2.1 x.1.cv) key0
    refine ⟨some a, (List.range len).map fun i => (f i).1, cap, by simp, ⟨by simp; unfold maxLen at hm; omega, a.block, a.off, fun i => (f i).2.1, fun i => (f i).2.2, ?_, ?_⟩⟩
    · intro hne
      have hp : 0 < len := by
        have := List.length_pos_iff.2 hne
        simpa using this
      rw [← addr_of (hspot hp)]
    · intro i hi
      have hi : i < len := by simpa using hi
      have hs := hspot (by omega)
      have := hf i hi
      rw [add_at hs, add_zero, add_at rfl, add_at rfl, add_at rfl, add_at rfl, add_at rfl, add_at rfl, add_at rfl, add_at rfl] at this
      rw [gs_map (fun i => (f i).1) hi]
      exact this
theorem open_edicts {fuel : Nat} {v : Value} {y : DataW H × List MemPlace} (h : DataW.trod enc Tryz.prog W base sp held fuel 26 [v] = some y) :
    ∃ (a : Option Addr) (l : List Edc) (cap : Nat), v = .slice a l.length cap ∧ EdS W a l := by
  have hC : Tryz.prog.cellsOf 126 = 8 := by kernel_rfl
  rcases Go.Deep.open_slice Tryz.underlying26 h with ⟨hcs, _⟩ | ⟨a, len, cap, m, n, D, Pl, hcs, hb, hl, hm, hmm, hx, hi⟩
  · obtain rfl : v = .slice none 0 0 := by simpa using hcs
    exact ⟨none, [], 0, rfl, ⟨by simp, 0, 0, (fun h => absurd rfl h), fun i hi => absurd hi (Nat.not_lt_zero _)⟩⟩
  · obtain rfl : v = .slice (some a) len cap := by simpa using hcs
    have hlm : len ≤ m := by rw [hmm]; split <;> omega
    rw [hC] at hi
    have key0 : ∀ i, i < len → ∃ x : Edc, W.cell? ((a.add (i * 8)).add 0) = some (.int .i64 x.n) ∧ W.cell? ((a.add (i * 8)).add 1) = some (.int .i64 x.tp) ∧ W.cell? ((a.add (i * 8)).add 2) = some (.int .i64 x.v) ∧ W.cell? ((a.add (i * 8)).add 3) = some (.int .i64 x.d) ∧ W.cell? ((a.add (i * 8)).add 4) = some (.int .i64 x.fr) ∧ W.cell? ((a.add (i * 8)).add 5) = some (.int .i64 x.tt) ∧ W.cell? ((a.add (i * 8)).add 6) = some (.int .i64 x.st) ∧ W.cell? ((a.add (i * 8)).add 7) = some (.int .i64 x.en) := fun i hil => by
      obtain ⟨cs, hc, htr⟩ := hi i (by omega)
      obtain ⟨hcl, _, hat⟩ := World.cells?_some hc
      match cs, hcl with
      | [c0, c1, c2, c3, c4, c5, c6, c7], _ =>
        obtain ⟨xs, n', _, _, _, hlen, hg⟩ := DataW.trod_struct Tryz.underlying126 htr
        match xs, hlen with
        | [y0, y1, y2, y3, y4, y5, y6, y7], _ =>
          obtain ⟨z0, rfl, b0⟩ := part_int rfl (show DataW.trod enc Tryz.prog W base sp held n' 3 [c0] = some y0 from hg 0 _ rfl)
          obtain ⟨z1, rfl, b1⟩ := part_int rfl (show DataW.trod enc Tryz.prog W base sp held n' 3 [c1] = some y1 from hg 1 _ rfl)
          obtain ⟨z2, rfl, b2⟩ := part_int rfl (show DataW.trod enc Tryz.prog W base sp held n' 3 [c2] = some y2 from hg 2 _ rfl)
          obtain ⟨z3, rfl, b3⟩ := part_int rfl (show DataW.trod enc Tryz.prog W base sp held n' 3 [c3] = some y3 from hg 3 _ rfl)
          obtain ⟨z4, rfl, b4⟩ := part_int rfl (show DataW.trod enc Tryz.prog W base sp held n' 3 [c4] = some y4 from hg 4 _ rfl)
          obtain ⟨z5, rfl, b5⟩ := part_int rfl (show DataW.trod enc Tryz.prog W base sp held n' 3 [c5] = some y5 from hg 5 _ rfl)
          obtain ⟨z6, rfl, b6⟩ := part_int rfl (show DataW.trod enc Tryz.prog W base sp held n' 3 [c6] = some y6 from hg 6 _ rfl)
          obtain ⟨z7, rfl, b7⟩ := part_int rfl (show DataW.trod enc Tryz.prog W base sp held n' 3 [c7] = some y7 from hg 7 _ rfl)
          exact ⟨⟨z0, z1, z2, z3, z4, z5, z6, z7⟩, hat 0 (by decide), hat 1 (by decide), hat 2 (by decide), hat 3 (by decide), hat 4 (by decide), hat 5 (by decide), hat 6 (by decide), hat 7 (by decide)⟩
    have hspot : 0 < len → a.spot = none := fun h0 => by
      obtain ⟨x, hc, _⟩ := key0 0 h0
      rw [show 0 * 8 = 0 from rfl, add_zero, add_zero] at hc
      exact spot_none hc
    obtain ⟨f, hf⟩ := choose_ltR (α := Edc) (n := len) ⟨0, 0, 0, 0, 0, 0, 0, 0⟩ (p := fun i x => W.cell? ((a.add (i * 8)).add 0) = some (.int .i64 x.n) ∧ W.cell? ((a.add (i * 8)).add 1) = some (.int .i64 x.tp) ∧ W.cell? ((a.add (i * 8)).add 2) = some (.int .i64 x.v) ∧ W.cell? ((a.add (i * 8)).add 3) = some (.int .i64 x.d) ∧ W.cell? ((a.add (i * 8)).add 4) = some (.int .i64 x.fr) ∧ W.cell? ((a.add (i * 8)).add 5) = some (.int .i64 x.tt) ∧ W.cell? ((a.add (i * 8)).add 6) = some (.int .i64 x.st) ∧ W.cell? ((a.add (i * 8)).add 7) = some (.int .i64 x.en)) key0
    refine ⟨some a, (List.range len).map f, cap, by simp, ⟨by simp; unfold maxLen at hm; omega, a.block, a.off, ?_, ?_⟩⟩
    · intro hne
      have hp : 0 < len := by
        have := List.length_pos_iff.2 hne
        simpa using this
      rw [← addr_of (hspot hp)]
    · intro i hi
      have hi : i < len := by simpa using hi
      have hs := hspot (by omega)
      have := hf i hi
      rw [add_at hs, add_zero, add_at rfl, add_at rfl, add_at rfl, add_at rfl, add_at rfl, add_at rfl, add_at rfl] at this
      rw [ge_map f hi]
      exact this
theorem open_line {n : Nat} {c0 c1 : Value} {y : DataW H × List MemPlace} (h : DataW.trod enc Tryz.prog W base sp held n 24 [c0, c1] = some y) : ∃ (L : Int) (a : Option Addr) (l : List Int) (ca : Nat), c0 = .int .i64 L ∧ c1 = .slice a l.length ca ∧ IntsS W a l ∧ I64 L := by
  obtain ⟨xs, n', _, _, _, hlen, hg⟩ := DataW.trod_struct Tryz.underlying24 h
  match xs, hlen with
  | [y0, y1], _ =>
    obtain ⟨z0, rfl, b0⟩ := part_int rfl (show DataW.trod enc Tryz.prog W base sp held n' 3 [c0] = some y0 from hg 0 _ rfl)
    obtain ⟨a, l, ca, rfl, hA, _⟩ := part_ints rfl (show DataW.trod enc Tryz.prog W base sp held n' 22 [c1] = some y1 from hg 1 _ rfl)
    exact ⟨z0, a, l, ca, rfl, rfl, hA, b0⟩
theorem open_ask {v : Value} {d : DataW H} {p : List MemPlace} (hv : Value.okWide Tryz.prog W .any base 28 v) (h : DataW.Trod enc Tryz.prog W 0 sp held 28 v d p) :
    ∃ (L : Int) (a : Option Addr) (js : List Int) (ca : Nat) (aa : Option Addr) (l : List Sgn) (cl : Nat) (ae : Option Addr) (q : List Edc) (cq : Nat) (q0 q1 q2 q3 : Int), v = .agg #[.int .i64 L, .slice a js.length ca, .slice aa l.length cl, .slice ae q.length cq, .int .i64 q0, .int .i64 q1, .int .i64 q2, .int .i64 q3] ∧ IntsS W a js ∧ SgnS W aa l ∧ EdS W ae q ∧ I64 L ∧ I64 q0 ∧ I64 q1 ∧ I64 q2 ∧ I64 q3 := by
  obtain ⟨⟨cs⟩, rfl, hsz⟩ := okWide_struct Tryz.underlying28 hv
  have hC : Tryz.prog.cellsOf 28 = 8 := by kernel_rfl
  match cs, hsz.trans hC with
  | [c0, c1, c2, c3, c4, c5, c6, c7], _ =>
    obtain ⟨fuel, hf⟩ := h
    obtain ⟨xs, n, _, _, _, hlen, hg⟩ := DataW.trod_struct Tryz.underlying28 hf
    match xs, hlen with
    | [u0, u1, u2, u3, u4, u5, u6], _ =>
      obtain ⟨L, a, js, ca, rfl, rfl, hJ, bL⟩ := open_line (show DataW.trod enc Tryz.prog W 0 sp held n 24 [c0, c1] = some u0 from hg 0 _ rfl)
      obtain ⟨aa, l, cl, rfl, hA⟩ := open_signs (show DataW.trod enc Tryz.prog W 0 sp held n 25 [c2] = some u1 from hg 1 _ rfl)
      obtain ⟨ae, q, cq, rfl, hE⟩ := open_edicts (show DataW.trod enc Tryz.prog W 0 sp held n 26 [c3] = some u2 from hg 2 _ rfl)
      obtain ⟨q0, rfl, b0⟩ := part_int rfl (show DataW.trod enc Tryz.prog W 0 sp held n 3 [c4] = some u3 from hg 3 _ rfl)
      obtain ⟨q1, rfl, b1⟩ := part_int rfl (show DataW.trod enc Tryz.prog W 0 sp held n 3 [c5] = some u4 from hg 4 _ rfl)
      obtain ⟨q2, rfl, b2⟩ := part_int rfl (show DataW.trod enc Tryz.prog W 0 sp held n 3 [c6] = some u5 from hg 5 _ rfl)
      obtain ⟨q3, rfl, b3⟩ := part_int rfl (show DataW.trod enc Tryz.prog W 0 sp held n 3 [c7] = some u6 from hg 6 _ rfl)
      exact ⟨L, a, js, ca, aa, l, cl, ae, q, cq, q0, q1, q2, q3, rfl, hJ, hA, hE, bL, b0, b1, b2, b3⟩
end
end Go.Proofs.YtlpdjinhkmgbgaaGreatDoor
