/-
  The check at the example of package night. By an AI agent.; Arguments, opened: lists of ints and of pairs, tables, scenes, structs of them, arrays. By an AI agent.; The day of the week of a day: both packages, and the law. By an AI agent.; Job and Night of the reference of package night. By an AI agent.
-/
import Derived.Test.YtghlhjiomebmhaaMgNightRight0
import Derived.Test.YtghlhjiomebmhaaMgNightRight10
import Derived.Lib.SmallJoins
import Derived.Deep.Slices
import Derived.OpenShut
import Derived.Deep.RegionHeld3
import Derived.BigQuiet

namespace Go.Proofs.Ytghlhjiomebmhaa
set_option linter.unusedVariables false
set_option linter.unusedSimpArgs false
open Go.RowKit

def ej : List Jo := [⟨1, 5, 100, 10, 20, 1, false, false⟩, ⟨2, 5, 900, 10, 20, 1, false, false⟩]
def en : List Ni := [⟨12, 5, 0, 1000, 1, 1, false, false⟩]
theorem e_err : errL ej en = 0 := by decide +kernel
theorem e_most : mostN ej en = 1 := by decide +kernel
theorem e_best : bestL ej en = [0, -1] := by decide +kernel
set_option maxRecDepth 100000 in
set_option maxHeartbeats 2000000 in
theorem awake_any (w : World) : Calls Try.prog 8 #[] w fun e w' => e = .returned (.bool true) ∧ Below w.heap.size w w' := by
  obtain ⟨wB, hwB⟩ : ∃ wB, (w.alloc (.cells #[.int .i64 1, .int .i64 5, .int .i64 100, .int .i64 10, .int .i64 20, .int .i64 1, .bool false, .bool false, .int .i64 2, .int .i64 5, .int .i64 900, .int .i64 10, .int .i64 20, .int .i64 1, .bool false, .bool false] 43)).alloc (.cells #[.int .i64 12, .int .i64 5, .int .i64 0, .int .i64 1000, .int .i64 1, .int .i64 1, .bool false, .bool false] 51) = wB := ⟨_, rfl⟩
  have hbB : Below w.heap.size w wB := by rw [← hwB]; exact ((Below.refl _ _).alloc (Nat.le_refl _) _).alloc (by simp) _
  have hJ : JobsS wB (some ⟨w.heap.size, 0, none⟩) ej := ⟨by decide, w.heap.size, 0, fun _ => rfl, fun i hi => by
    have hi : i < 2 := hi
    match i, hi with
    | 0, _ => rw [← hwB]; simp [go_sem, gj, ej]
    | 1, _ => rw [← hwB]; simp [go_sem, gj, ej]⟩
  have hN : NightsS wB (some ⟨w.heap.size + 1, 0, none⟩) en := ⟨by decide, w.heap.size + 1, 0, fun _ => rfl, fun i hi => by
    have hi : i < 1 := hi
    match i, hi with
    | 0, _ => rw [← hwB]; simp [go_sem, gn, en]⟩
  have H1 := Lib.hid (most_ok (some ⟨w.heap.size, 0, none⟩) ej 2 (some ⟨w.heap.size + 1, 0, none⟩) en 1 wB hJ hN e_err)
  have H2 := Lib.hid (fun W (hW : Below wB.heap.size wB W) => best_ok (some ⟨w.heap.size, 0, none⟩) ej 2 (some ⟨w.heap.size + 1, 0, none⟩) en 1 W (hJ.below hW) (hN.below hW) e_err)
  rw [e_most] at H1
  rw [e_best] at H2
  have e1 : ej.length = 2 := rfl
  have e2 : en.length = 1 := rfl
  rw [e1, e2] at H1 H2
  clear hJ hN e1 e2
  go_enter Try.func8, Try.ntmps8
  go_wp2_with fail
  refine H1.out.mono ?_
  rintro e w1 ⟨rfl, hb1⟩
  go_wp2_with fail
  refine (H2.out _ hb1).mono ?_
  rintro e w2 ⟨g, c, rfl, hP, -, -, hb2⟩
  have c0 := hP.1 0 (by decide)
  have c1 := hP.1 1 (by decide)
  have c0 : w2.cell? ⟨g, 0, none⟩ = some (.int .i64 0) := c0
  have c1 : w2.cell? ⟨g, 1, none⟩ = some (.int .i64 (-1)) := c1
  have hf := below_onN (below_onN hbB hb1 hbB.size) hb2 (below_onN hbB hb1 hbB.size).size
  clear hP H1 H2
  go_wp2_with fail
  go_ret
  exact ⟨rfl, hf⟩
end Go.Proofs.Ytghlhjiomebmhaa

namespace Go.Proofs.Ytghlhjiomebmhaa
set_option linter.unusedVariables false
set_option linter.unusedSimpArgs false
open Go.RowKit Go.ChangeShapes Go.WideShapes Go.ChangeAt
set_option maxRecDepth 100000

theorem cInt : Try.prog.cellsOf 3 = 1 := by kernel_rfl
theorem cInts : Try.prog.cellsOf 26 = 1 := by kernel_rfl
section
variable {H : Type} {enc : TypeId × Value → H} {W : World} {base : Nat} {sp : Nat → Bool} {held : Bool}

/-- A cell that reads as an int. -/
theorem part_int {n : Nat} {c : Value} {o : Option (DataW H × List MemPlace)} {y : DataW H × List MemPlace} (ho : o = some y) (h : DataW.trod enc Try.prog W base sp held n 3 [c] = o) : ∃ z : Int, c = .int .i64 z ∧ I64 z := by
  obtain ⟨z, e, _, hw⟩ := DataW.trod_int Try.underlying3 (h.trans ho)
  exact ⟨z, by simpa using e, bounds_i64 hw⟩
theorem add_at {a : Addr} (h : a.spot = none) (n : Nat) : a.add n = ⟨a.block, a.off + n, none⟩ := by
  unfold Addr.add
  split
  · rename_i h0; subst h0; cases a; simp only at h; subst h; rfl
  · rfl
theorem add_zero (a : Addr) : a.add 0 = a := by unfold Addr.add; simp
theorem spot_none {w : World} {a : Addr} {v : Value} (h : w.cell? a = some v) : a.spot = none := by
  unfold World.cell? at h
  split at h
  · split at h
    · cases h
    · rename_i hs; simpa using hs
  · cases h
theorem addr_of {a : Addr} (h : a.spot = none) : a = ⟨a.block, a.off, none⟩ := by cases a; simp only at h; subst h; rfl
theorem gi_map (f : Nat → Int) {n i : Nat} (h : i < n) : gi ((List.range n).map f) i = f i := by
  unfold gi; rw [List.getD_eq_getElem?_getD, List.getElem?_map, List.getElem?_range h]; rfl
theorem gp_map (f : Nat → Int × Int) {n i : Nat} (h : i < n) : gp ((List.range n).map f) i = f i := by
  unfold gp; rw [List.getD_eq_getElem?_getD, List.getElem?_map, List.getElem?_range h]; rfl
theorem gr_map (f : Nat → List Int) {n i : Nat} (h : i < n) : gr ((List.range n).map f) i = f i := by
  unfold gr; rw [List.getD_eq_getElem?_getD, List.getElem?_map, List.getElem?_range h]; rfl
theorem ne_pos {α : Type} {f : Nat → α} {n : Nat} (h : (List.range n).map f ≠ []) : 0 < n := by
  apply Nat.pos_of_ne_zero
  rintro rfl
  exact h rfl

theorem open_ints {fuel : Nat} {v : Value} {y : DataW H × List MemPlace} (h : DataW.trod enc Try.prog W base sp held fuel 26 [v] = some y) :
    ∃ (a : Option Addr) (l : List Int) (cap : Nat), v = .slice a l.length cap ∧ IntsS W a l ∧ l.length ≤ cap := by
  rcases Go.Deep.open_slice1 Try.underlying26 cInt h with ⟨hcs, _⟩ | ⟨a, len, cap, m, n, V, D, Pl, hcs, hb, hl, hm, hmm, hx, hi⟩
  · obtain rfl : v = .slice none 0 0 := by simpa using hcs
    exact ⟨none, [], 0, rfl, ⟨by simp, fun i hi => absurd hi (Nat.not_lt_zero _), 0, 0, (fun h => absurd rfl h), fun i hi => absurd hi (Nat.not_lt_zero _)⟩, Nat.le_refl _⟩
  · obtain rfl : v = .slice (some a) len cap := by simpa using hcs
    have hlm : len ≤ m := by rw [hmm]; split <;> omega
    have key0 : ∀ i, i < len → ∃ x : Int, W.cell? (a.add i) = some (.int .i64 x) ∧ I64 x := fun i hil => by
      obtain ⟨hc, ht⟩ := hi i (by omega)
      obtain ⟨z, hz, hb⟩ := part_int rfl ht
      exact ⟨z, by rw [hc, hz], hb⟩
    have hspot : 0 < len → a.spot = none := fun h0 => by
      obtain ⟨x, hc, _⟩ := key0 0 h0
      rw [add_zero] at hc
      exact spot_none hc
    obtain ⟨f, hf⟩ := Go.Deep.choose_lt (α := Int) (n := len) (p := fun i x => W.cell? (a.add i) = some (.int .i64 x) ∧ I64 x) key0
    refine ⟨some a, (List.range len).map f, cap, by simp, ⟨by simp; unfold maxLen at hm; omega, ?_, a.block, a.off, ?_, ?_⟩, by simpa using hl⟩
    · intro i hi
      have hi : i < len := by simpa using hi
      rw [gi_map f hi]
      exact (hf i hi).2
    · intro hne
      rw [← addr_of (hspot (ne_pos hne))]
    · intro i hi
      have hi : i < len := by simpa using hi
      rw [gi_map f hi, ← add_at (hspot (by omega))]
      exact (hf i hi).1

theorem open_rows {fuel : Nat} {v : Value} {y : DataW H × List MemPlace} (h : DataW.trod enc Try.prog W base sp held fuel 62 [v] = some y) :
    ∃ (a : Option Addr) (r : List (List Int)) (cap : Nat), v = .slice a r.length cap ∧ RowsS W a r := by
  rcases Go.Deep.open_slice1 Try.underlying62 cInts h with ⟨hcs, _⟩ | ⟨a, len, cap, m, n, V, D, Pl, hcs, hb, hl, hm, hmm, hx, hi⟩
  · obtain rfl : v = .slice none 0 0 := by simpa using hcs
    exact ⟨none, [], 0, rfl, by simp, 0, 0, fun _ => none, fun _ => 0, (fun h => absurd rfl h), fun i hi => absurd hi (Nat.not_lt_zero _)⟩
  · obtain rfl : v = .slice (some a) len cap := by simpa using hcs
    have hlm : len ≤ m := by rw [hmm]; split <;> omega
    have key0 : ∀ i, i < len → ∃ x : Option Addr × List Int × Nat, W.cell? (a.add i) = some (.slice x.1 x.2.1.length x.2.2) ∧ IntsS W x.1 x.2.1 ∧ x.2.1.length ≤ x.2.2 := fun i hil => by
      obtain ⟨hc, ht⟩ := hi i (by omega)
      obtain ⟨b, l, c, hz, hI⟩ := open_ints ht
      exact ⟨(b, l, c), by rw [hc, hz], hI⟩
    have hspot : 0 < len → a.spot = none := fun h0 => by
      obtain ⟨x, hc, _⟩ := key0 0 h0
      rw [add_zero] at hc
      exact spot_none hc
    obtain ⟨f, hf⟩ := Go.Deep.choose_lt (α := Option Addr × List Int × Nat) (n := len) (p := fun i x => W.cell? (a.add i) = some (.slice x.1 x.2.1.length x.2.2) ∧ IntsS W x.1 x.2.1 ∧ x.2.1.length ≤ x.2.2) key0
    refine ⟨some a, (List.range len).map fun i => (f i).2.1, cap, by simp, by simp; unfold maxLen at hm; omega, a.block, a.off, fun i => (f i).1, fun i => (f i).2.2, ?_, ?_⟩
    · intro hne
      rw [← addr_of (hspot (ne_pos hne))]
    · intro i hi
      have hi : i < len := by simpa using hi
      rw [gr_map (fun i => (f i).2.1) hi, ← add_at (hspot (by omega))]
      exact hf i hi

/-- A slice of structs of two ints. -/
theorem open_pairs {t e : TypeId} {f0 f1 : Field} (ht : Try.prog.underlying t = some (.slice e)) (he : Try.prog.underlying e = some (.struct #[f0, f1])) (hC : Try.prog.cellsOf e = 2) (o0 : f0.offset = 0) (o1 : f1.offset = 1) (t0 : f0.type = 3) (t1 : f1.type = 3)
    {fuel : Nat} {v : Value} {y : DataW H × List MemPlace} (h : DataW.trod enc Try.prog W base sp held fuel t [v] = some y) :
    ∃ (a : Option Addr) (l : List (Int × Int)) (cap : Nat), v = .slice a l.length cap ∧ PairsS W a l := by
  rcases Go.Deep.open_slice ht h with ⟨hcs, _⟩ | ⟨a, len, cap, m, n, D, Pl, hcs, hb, hl, hm, hmm, hx, hi⟩
  · obtain rfl : v = .slice none 0 0 := by simpa using hcs
    exact ⟨none, [], 0, rfl, by simp, fun i hi => absurd hi (Nat.not_lt_zero _), 0, 0, (fun h => absurd rfl h), fun i hi => absurd hi (Nat.not_lt_zero _)⟩
  · obtain rfl : v = .slice (some a) len cap := by simpa using hcs
    have hlm : len ≤ m := by rw [hmm]; split <;> omega
    rw [hC] at hi
    have key0 : ∀ i, i < len → ∃ x : Int × Int, (W.cell? ((a.add (i * 2)).add 0) = some (.int .i64 x.1) ∧ W.cell? ((a.add (i * 2)).add 1) = some (.int .i64 x.2)) ∧ (I64 x.1 ∧ I64 x.2) := fun i hil => by
      obtain ⟨cs, hc, htr⟩ := hi i (by omega)
      obtain ⟨hcl, _, hat⟩ := World.cells?_some hc
      match cs, hcl with
      | [c0, c1], _ =>
        obtain ⟨y0, y1, n', _, _, g0, g1⟩ := trod_struct2 he htr
        rw [o0, t0, cInt] at g0
        rw [o1, t1, cInt] at g1
        obtain ⟨z0, rfl, b0⟩ := part_int rfl g0
        obtain ⟨z1, rfl, b1⟩ := part_int rfl g1
        exact ⟨(z0, z1), ⟨hat 0 (by decide), hat 1 (by decide)⟩, b0, b1⟩
    have hspot : 0 < len → a.spot = none := fun h0 => by
      obtain ⟨x, ⟨hc, _⟩, _⟩ := key0 0 h0
      rw [show 0 * 2 = 0 from rfl, add_zero, add_zero] at hc
      exact spot_none hc
    obtain ⟨f, hf⟩ := Go.Deep.choose_lt (α := Int × Int) (n := len) (p := fun i x => (W.cell? ((a.add (i * 2)).add 0) = some (.int .i64 x.1) ∧ W.cell? ((a.add (i * 2)).add 1) = some (.int .i64 x.2)) ∧ (I64 x.1 ∧ I64 x.2)) key0
    refine ⟨some a, (List.range len).map f, cap, by simp, by simp; unfold maxLen at hm; omega, ?_, a.block, a.off, ?_, ?_⟩
    · intro i hi
      have hi : i < len := by simpa using hi
      rw [gp_map f hi]
      exact (hf i hi).2
    · intro hne
      rw [← addr_of (hspot (ne_pos hne))]
    · intro i hi
      have hi : i < len := by simpa using hi
      have hs := hspot (by omega)
      have := (hf i hi).1
      rw [add_at hs, add_zero, add_at rfl] at this
      rw [gp_map f hi]
      exact this
theorem part_ints {fuel : Nat} {c : Value} {o : Option (DataW H × List MemPlace)} {y : DataW H × List MemPlace} (ho : o = some y) (h : DataW.trod enc Try.prog W base sp held fuel 26 [c] = o) :
    ∃ (a : Option Addr) (l : List Int) (cap : Nat), c = .slice a l.length cap ∧ IntsS W a l ∧ l.length ≤ cap := open_ints (h.trans ho)
theorem part_rows {fuel : Nat} {c : Value} {o : Option (DataW H × List MemPlace)} {y : DataW H × List MemPlace} (ho : o = some y) (h : DataW.trod enc Try.prog W base sp held fuel 62 [c] = o) :
    ∃ (a : Option Addr) (r : List (List Int)) (cap : Nat), c = .slice a r.length cap ∧ RowsS W a r := open_rows (h.trans ho)

theorem part_two {t : TypeId} {f0 f1 : Field} (he : Try.prog.underlying t = some (.struct #[f0, f1])) (o0 : f0.offset = 0) (o1 : f1.offset = 1) (t0 : f0.type = 3) (t1 : f1.type = 3)
    {fuel : Nat} {c0 c1 : Value} {o : Option (DataW H × List MemPlace)} {y : DataW H × List MemPlace} (hs : o = some y) (h : DataW.trod enc Try.prog W base sp held fuel t [c0, c1] = o) :
    ∃ z0 z1 : Int, c0 = .int .i64 z0 ∧ c1 = .int .i64 z1 ∧ I64 z0 ∧ I64 z1 := by
  obtain ⟨y0, y1, n, _, _, g0, g1⟩ := trod_struct2 he (h.trans hs)
  rw [o0, t0, cInt] at g0
  rw [o1, t1, cInt] at g1
  obtain ⟨z0, rfl, b0⟩ := part_int rfl g0
  obtain ⟨z1, rfl, b1⟩ := part_int rfl g1
  exact ⟨z0, z1, rfl, rfl, b0, b1⟩
theorem okWide_array {r : Reach} {b0 : Nat} {t : TypeId} {n : Nat} {e : TypeId} {v : Value} (ht : Try.prog.underlying t = some (.array n e)) (h : Value.okWide Try.prog W r b0 t v) : ∃ cs : Array Value, v = .agg cs ∧ cs.size = Try.prog.cellsOf t := by
  simp only [Value.okWide, ht] at h
  obtain ⟨cs, h1, h2, _⟩ := h
  exact ⟨cs, h1, h2⟩

/-- Two numbers of a small kind. -/
theorem open_duo {t e : TypeId} {k : IntKind} (ht : Try.prog.underlying t = some (.array 2 e)) (he : Try.prog.underlying e = some (.int k)) (hC : Try.prog.cellsOf t = 2) (hE : Try.prog.cellsOf e = 1) {v : Value} {d : DataW H} {p : List MemPlace} (hv : Value.okWide Try.prog W .any base t v) (h : DataW.Trod enc Try.prog W 0 sp held t v d p) :
    ∃ m n : Int, v = .agg #[.int k m, .int k n] ∧ (Lit.int k m).wf = true ∧ (Lit.int k n).wf = true := by
  obtain ⟨⟨cs⟩, rfl, hsz⟩ := okWide_array ht hv
  match cs, hsz.trans hC with
  | [c0, c1], _ =>
    obtain ⟨fuel, hf⟩ := h
    obtain ⟨xs, n, _, _, _, hlen, hg⟩ := DataW.trod_array ht hf
    match xs, hlen with
    | [u0, u1], _ =>
      have g0 := hg 0 (by omega)
      have g1 := hg 1 (by omega)
      rw [hE] at g0 g1
      obtain ⟨z0, e0, _, w0⟩ := DataW.trod_int he (show DataW.trod enc Try.prog W 0 sp held n e [c0] = some u0 from g0)
      obtain ⟨z1, e1, _, w1⟩ := DataW.trod_int he (show DataW.trod enc Try.prog W 0 sp held n e [c1] = some u1 from g1)
      obtain rfl : c0 = .int k z0 := by simpa using e0
      obtain rfl : c1 = .int k z1 := by simpa using e1
      exact ⟨z0, z1, rfl, w0, w1⟩
theorem open_intsV {v : Value} {d : DataW H} {p : List MemPlace} (hv : Value.okWide Try.prog W .any base 26 v) (h : DataW.Trod enc Try.prog W 0 sp held 26 v d p) :
    ∃ (a : Option Addr) (l : List Int) (cap : Nat), v = .slice a l.length cap ∧ IntsS W a l ∧ l.length ≤ cap := by
  obtain ⟨a, n, c, rfl⟩ := okWide_slice Try.underlying26 hv
  obtain ⟨fuel, hf⟩ := h
  exact open_ints hf
end
end Go.Proofs.Ytghlhjiomebmhaa

namespace Go.Proofs.Ytghlhjiomebmhaa
set_option linter.unusedVariables false
set_option linter.unusedSimpArgs false
open Go.RowKit

theorem refFrom_v {a n b : Int} {v : Bool} (h : btw n a b = v) (w : World) :
    Calls Try.prog 41 #[.int .i64 a, .int .i64 n, .int .i64 b] w fun e w' => e = .returned (.bool v) ∧ w' = w := by
  subst h
  by_cases h1 : a ≤ n
  · by_cases h2 : n ≤ b
    · rw [btw_t h1 h2]
      go_enter Try.func41, Try.ntmps41
      go_wp2
      go_ret
      exact ⟨rfl, rfl⟩
    · rw [btw_f (by omega)]
      go_enter Try.func41, Try.ntmps41
      go_wp2
      go_ret
      exact ⟨rfl, rfl⟩
  · rw [btw_f (by omega)]
    go_enter Try.func41, Try.ntmps41
    go_wp2
    go_ret
    exact ⟨rfl, rfl⟩
/-- The day of the week, and the error. -/
def wkV (d : Int) : Int := if btw d 0 100000 = true then d.tmod 7 else 0
def wkE (d : Int) : Int := if btw d 0 100000 = true then 0 else 2
end Go.Proofs.Ytghlhjiomebmhaa

namespace Go.Proofs.Ytghlhjiomebmhaa
set_option linter.unusedVariables false
set_option linter.unusedSimpArgs false
open Go.RowKit

theorem jobB_ref (s : Jo) : jobB s = (btw s.n 1 1000000000 && (btw s.r 1 1000000 && (btw s.c 0 10000000 && (btw s.f 0 s.l && (decide (s.l ≤ 100000) && (btw s.w 1 9)))))) := by
  rw [Bool.eq_iff_iff]
  simp only [jobB, placeB, Bool.and_eq_true, btw_iff, decide_eq_true_eq]
  omega
theorem nightB_ref (s : Ni) : nightB s = (btw s.d 0 100000 && (btw s.r 1 1000000 && (btw s.f 0 s.t && (decide (s.t ≤ 10000000) && (btw s.w 1 9 && (btw s.p 0 100)))))) := by
  rw [Bool.eq_iff_iff]
  simp only [nightB, placeB, Bool.and_eq_true, btw_iff, decide_eq_true_eq]
  omega
theorem refJob_0 (s : Jo) (w : World) (h0 : btw s.n 1 1000000000 = false) :
    Calls Try.prog 54 #[.agg #[.int .i64 s.n, .int .i64 s.r, .int .i64 s.c, .int .i64 s.f, .int .i64 s.l, .int .i64 s.w, .bool s.dy, .bool s.wm]] w fun e w' => e = .returned (.bool false) ∧ Below w.heap.size w w' := by
  have H0 := Lib.hid (fun W => refFrom_v h0 W)
  clear h0
  have hb := (Below.refl w.heap.size w).alloc (Nat.le_refl _) (.cells #[.int .i64 s.n, .int .i64 s.r, .int .i64 s.c, .int .i64 s.f, .int .i64 s.l, .int .i64 s.w, .bool s.dy, .bool s.wm] 43)
  go_enter Try.func54, Try.ntmps54
  go_wp2_with fail
  refine (H0.out _).mono ?_
  rintro e w0 ⟨rfl, rfl⟩
  go_wp2_with fail
  go_ret
  exact ⟨rfl, hb⟩
theorem refJob_1 (s : Jo) (w : World) (h0 : btw s.n 1 1000000000 = true) (h1 : btw s.r 1 1000000 = false) :
    Calls Try.prog 54 #[.agg #[.int .i64 s.n, .int .i64 s.r, .int .i64 s.c, .int .i64 s.f, .int .i64 s.l, .int .i64 s.w, .bool s.dy, .bool s.wm]] w fun e w' => e = .returned (.bool false) ∧ Below w.heap.size w w' := by
  have H0 := Lib.hid (fun W => refFrom_v h0 W)
  have H1 := Lib.hid (fun W => refFrom_v h1 W)
  clear h0 h1
  have hb := (Below.refl w.heap.size w).alloc (Nat.le_refl _) (.cells #[.int .i64 s.n, .int .i64 s.r, .int .i64 s.c, .int .i64 s.f, .int .i64 s.l, .int .i64 s.w, .bool s.dy, .bool s.wm] 43)
  go_enter Try.func54, Try.ntmps54
  go_wp2_with fail
  refine (H0.out _).mono ?_
  rintro e w0 ⟨rfl, rfl⟩
  go_wp2_with fail
  refine (H1.out _).mono ?_
  rintro e w1 ⟨rfl, rfl⟩
  go_wp2_with fail
  go_ret
  exact ⟨rfl, hb⟩
theorem refJob_2 (s : Jo) (w : World) (h0 : btw s.n 1 1000000000 = true) (h1 : btw s.r 1 1000000 = true) (h2 : btw s.c 0 10000000 = false) :
    Calls Try.prog 54 #[.agg #[.int .i64 s.n, .int .i64 s.r, .int .i64 s.c, .int .i64 s.f, .int .i64 s.l, .int .i64 s.w, .bool s.dy, .bool s.wm]] w fun e w' => e = .returned (.bool false) ∧ Below w.heap.size w w' := by
  have H0 := Lib.hid (fun W => refFrom_v h0 W)
  have H1 := Lib.hid (fun W => refFrom_v h1 W)
  have H2 := Lib.hid (fun W => refFrom_v h2 W)
  clear h0 h1 h2
  have hb := (Below.refl w.heap.size w).alloc (Nat.le_refl _) (.cells #[.int .i64 s.n, .int .i64 s.r, .int .i64 s.c, .int .i64 s.f, .int .i64 s.l, .int .i64 s.w, .bool s.dy, .bool s.wm] 43)
  go_enter Try.func54, Try.ntmps54
  go_wp2_with fail
  refine (H0.out _).mono ?_
  rintro e w0 ⟨rfl, rfl⟩
  go_wp2_with fail
  refine (H1.out _).mono ?_
  rintro e w1 ⟨rfl, rfl⟩
  go_wp2_with fail
  refine (H2.out _).mono ?_
  rintro e w2 ⟨rfl, rfl⟩
  go_wp2_with fail
  go_ret
  exact ⟨rfl, hb⟩
theorem refJob_3 (s : Jo) (w : World) (h0 : btw s.n 1 1000000000 = true) (h1 : btw s.r 1 1000000 = true) (h2 : btw s.c 0 10000000 = true) (h3 : btw s.f 0 s.l = false) :
    Calls Try.prog 54 #[.agg #[.int .i64 s.n, .int .i64 s.r, .int .i64 s.c, .int .i64 s.f, .int .i64 s.l, .int .i64 s.w, .bool s.dy, .bool s.wm]] w fun e w' => e = .returned (.bool false) ∧ Below w.heap.size w w' := by
  have H0 := Lib.hid (fun W => refFrom_v h0 W)
  have H1 := Lib.hid (fun W => refFrom_v h1 W)
  have H2 := Lib.hid (fun W => refFrom_v h2 W)
  have H3 := Lib.hid (fun W => refFrom_v h3 W)
  clear h0 h1 h2 h3
  have hb := (Below.refl w.heap.size w).alloc (Nat.le_refl _) (.cells #[.int .i64 s.n, .int .i64 s.r, .int .i64 s.c, .int .i64 s.f, .int .i64 s.l, .int .i64 s.w, .bool s.dy, .bool s.wm] 43)
  go_enter Try.func54, Try.ntmps54
  go_wp2_with fail
  refine (H0.out _).mono ?_
  rintro e w0 ⟨rfl, rfl⟩
  go_wp2_with fail
  refine (H1.out _).mono ?_
  rintro e w1 ⟨rfl, rfl⟩
  go_wp2_with fail
  refine (H2.out _).mono ?_
  rintro e w2 ⟨rfl, rfl⟩
  go_wp2_with fail
  refine (H3.out _).mono ?_
  rintro e w3 ⟨rfl, rfl⟩
  go_wp2_with fail
  go_ret
  exact ⟨rfl, hb⟩
theorem refJob_4 (s : Jo) (w : World) (h0 : btw s.n 1 1000000000 = true) (h1 : btw s.r 1 1000000 = true) (h2 : btw s.c 0 10000000 = true) (h3 : btw s.f 0 s.l = true) (h4 : decide (s.l ≤ 100000) = false) :
    Calls Try.prog 54 #[.agg #[.int .i64 s.n, .int .i64 s.r, .int .i64 s.c, .int .i64 s.f, .int .i64 s.l, .int .i64 s.w, .bool s.dy, .bool s.wm]] w fun e w' => e = .returned (.bool false) ∧ Below w.heap.size w w' := by
  have H0 := Lib.hid (fun W => refFrom_v h0 W)
  have H1 := Lib.hid (fun W => refFrom_v h1 W)
  have H2 := Lib.hid (fun W => refFrom_v h2 W)
  have H3 := Lib.hid (fun W => refFrom_v h3 W)
  clear h0 h1 h2 h3
  have hb := (Below.refl w.heap.size w).alloc (Nat.le_refl _) (.cells #[.int .i64 s.n, .int .i64 s.r, .int .i64 s.c, .int .i64 s.f, .int .i64 s.l, .int .i64 s.w, .bool s.dy, .bool s.wm] 43)
  go_enter Try.func54, Try.ntmps54
  go_wp2_with fail
  refine (H0.out _).mono ?_
  rintro e w0 ⟨rfl, rfl⟩
  go_wp2_with fail
  refine (H1.out _).mono ?_
  rintro e w1 ⟨rfl, rfl⟩
  go_wp2_with fail
  refine (H2.out _).mono ?_
  rintro e w2 ⟨rfl, rfl⟩
  go_wp2_with fail
  refine (H3.out _).mono ?_
  rintro e w3 ⟨rfl, rfl⟩
  go_wp2_with fail
  go_ret
  exact ⟨rfl, hb⟩
theorem refJob_5 (s : Jo) (w : World) (h0 : btw s.n 1 1000000000 = true) (h1 : btw s.r 1 1000000 = true) (h2 : btw s.c 0 10000000 = true) (h3 : btw s.f 0 s.l = true) (h4 : decide (s.l ≤ 100000) = true) (h5 : btw s.w 1 9 = false) :
    Calls Try.prog 54 #[.agg #[.int .i64 s.n, .int .i64 s.r, .int .i64 s.c, .int .i64 s.f, .int .i64 s.l, .int .i64 s.w, .bool s.dy, .bool s.wm]] w fun e w' => e = .returned (.bool false) ∧ Below w.heap.size w w' := by
  have H0 := Lib.hid (fun W => refFrom_v h0 W)
  have H1 := Lib.hid (fun W => refFrom_v h1 W)
  have H2 := Lib.hid (fun W => refFrom_v h2 W)
  have H3 := Lib.hid (fun W => refFrom_v h3 W)
  have H5 := Lib.hid (fun W => refFrom_v h5 W)
  clear h0 h1 h2 h3 h5
  have hb := (Below.refl w.heap.size w).alloc (Nat.le_refl _) (.cells #[.int .i64 s.n, .int .i64 s.r, .int .i64 s.c, .int .i64 s.f, .int .i64 s.l, .int .i64 s.w, .bool s.dy, .bool s.wm] 43)
  go_enter Try.func54, Try.ntmps54
  go_wp2_with fail
  refine (H0.out _).mono ?_
  rintro e w0 ⟨rfl, rfl⟩
  go_wp2_with fail
  refine (H1.out _).mono ?_
  rintro e w1 ⟨rfl, rfl⟩
  go_wp2_with fail
  refine (H2.out _).mono ?_
  rintro e w2 ⟨rfl, rfl⟩
  go_wp2_with fail
  refine (H3.out _).mono ?_
  rintro e w3 ⟨rfl, rfl⟩
  go_wp2_with fail
  refine (H5.out _).mono ?_
  rintro e w5 ⟨rfl, rfl⟩
  go_wp2_with fail
  go_ret
  exact ⟨rfl, hb⟩
theorem refJob_6 (s : Jo) (w : World) (h0 : btw s.n 1 1000000000 = true) (h1 : btw s.r 1 1000000 = true) (h2 : btw s.c 0 10000000 = true) (h3 : btw s.f 0 s.l = true) (h4 : decide (s.l ≤ 100000) = true) (h5 : btw s.w 1 9 = true) :
    Calls Try.prog 54 #[.agg #[.int .i64 s.n, .int .i64 s.r, .int .i64 s.c, .int .i64 s.f, .int .i64 s.l, .int .i64 s.w, .bool s.dy, .bool s.wm]] w fun e w' => e = .returned (.bool true) ∧ Below w.heap.size w w' := by
  have H0 := Lib.hid (fun W => refFrom_v h0 W)
  have H1 := Lib.hid (fun W => refFrom_v h1 W)
  have H2 := Lib.hid (fun W => refFrom_v h2 W)
  have H3 := Lib.hid (fun W => refFrom_v h3 W)
  have H5 := Lib.hid (fun W => refFrom_v h5 W)
  clear h0 h1 h2 h3 h5
  have hb := (Below.refl w.heap.size w).alloc (Nat.le_refl _) (.cells #[.int .i64 s.n, .int .i64 s.r, .int .i64 s.c, .int .i64 s.f, .int .i64 s.l, .int .i64 s.w, .bool s.dy, .bool s.wm] 43)
  go_enter Try.func54, Try.ntmps54
  go_wp2_with fail
  refine (H0.out _).mono ?_
  rintro e w0 ⟨rfl, rfl⟩
  go_wp2_with fail
  refine (H1.out _).mono ?_
  rintro e w1 ⟨rfl, rfl⟩
  go_wp2_with fail
  refine (H2.out _).mono ?_
  rintro e w2 ⟨rfl, rfl⟩
  go_wp2_with fail
  refine (H3.out _).mono ?_
  rintro e w3 ⟨rfl, rfl⟩
  go_wp2_with fail
  refine (H5.out _).mono ?_
  rintro e w5 ⟨rfl, rfl⟩
  go_wp2_with fail
  go_ret
  exact ⟨rfl, hb⟩
theorem refJob_r (s : Jo) (w : World) :
    Calls Try.prog 54 #[.agg #[.int .i64 s.n, .int .i64 s.r, .int .i64 s.c, .int .i64 s.f, .int .i64 s.l, .int .i64 s.w, .bool s.dy, .bool s.wm]] w fun e w' => e = .returned (.bool (jobB s)) ∧ Below w.heap.size w w' := by
  rw [jobB_ref]
  cases h0 : btw s.n 1 1000000000 with
  | false => exact refJob_0 s w h0
  | true =>
    cases h1 : btw s.r 1 1000000 with
    | false => exact refJob_1 s w h0 h1
    | true =>
      cases h2 : btw s.c 0 10000000 with
      | false => exact refJob_2 s w h0 h1 h2
      | true =>
        cases h3 : btw s.f 0 s.l with
        | false => exact refJob_3 s w h0 h1 h2 h3
        | true =>
          cases h4 : decide (s.l ≤ 100000) with
          | false => exact refJob_4 s w h0 h1 h2 h3 h4
          | true =>
            cases h5 : btw s.w 1 9 with
            | false => exact refJob_5 s w h0 h1 h2 h3 h4 h5
            | true =>
              exact refJob_6 s w h0 h1 h2 h3 h4 h5
theorem refNight_0 (s : Ni) (w : World) (h0 : btw s.d 0 100000 = false) :
    Calls Try.prog 55 #[.agg #[.int .i64 s.d, .int .i64 s.r, .int .i64 s.f, .int .i64 s.t, .int .i64 s.w, .int .i64 s.p, .bool s.rn, .bool s.fr]] w fun e w' => e = .returned (.bool false) ∧ Below w.heap.size w w' := by
  have H0 := Lib.hid (fun W => refFrom_v h0 W)
  clear h0
  have hb := (Below.refl w.heap.size w).alloc (Nat.le_refl _) (.cells #[.int .i64 s.d, .int .i64 s.r, .int .i64 s.f, .int .i64 s.t, .int .i64 s.w, .int .i64 s.p, .bool s.rn, .bool s.fr] 51)
  go_enter Try.func55, Try.ntmps55
  go_wp2_with fail
  refine (H0.out _).mono ?_
  rintro e w0 ⟨rfl, rfl⟩
  go_wp2_with fail
  go_ret
  exact ⟨rfl, hb⟩
theorem refNight_1 (s : Ni) (w : World) (h0 : btw s.d 0 100000 = true) (h1 : btw s.r 1 1000000 = false) :
    Calls Try.prog 55 #[.agg #[.int .i64 s.d, .int .i64 s.r, .int .i64 s.f, .int .i64 s.t, .int .i64 s.w, .int .i64 s.p, .bool s.rn, .bool s.fr]] w fun e w' => e = .returned (.bool false) ∧ Below w.heap.size w w' := by
  have H0 := Lib.hid (fun W => refFrom_v h0 W)
  have H1 := Lib.hid (fun W => refFrom_v h1 W)
  clear h0 h1
  have hb := (Below.refl w.heap.size w).alloc (Nat.le_refl _) (.cells #[.int .i64 s.d, .int .i64 s.r, .int .i64 s.f, .int .i64 s.t, .int .i64 s.w, .int .i64 s.p, .bool s.rn, .bool s.fr] 51)
  go_enter Try.func55, Try.ntmps55
  go_wp2_with fail
  refine (H0.out _).mono ?_
  rintro e w0 ⟨rfl, rfl⟩
  go_wp2_with fail
  refine (H1.out _).mono ?_
  rintro e w1 ⟨rfl, rfl⟩
  go_wp2_with fail
  go_ret
  exact ⟨rfl, hb⟩
theorem refNight_2 (s : Ni) (w : World) (h0 : btw s.d 0 100000 = true) (h1 : btw s.r 1 1000000 = true) (h2 : btw s.f 0 s.t = false) :
    Calls Try.prog 55 #[.agg #[.int .i64 s.d, .int .i64 s.r, .int .i64 s.f, .int .i64 s.t, .int .i64 s.w, .int .i64 s.p, .bool s.rn, .bool s.fr]] w fun e w' => e = .returned (.bool false) ∧ Below w.heap.size w w' := by
  have H0 := Lib.hid (fun W => refFrom_v h0 W)
  have H1 := Lib.hid (fun W => refFrom_v h1 W)
  have H2 := Lib.hid (fun W => refFrom_v h2 W)
  clear h0 h1 h2
  have hb := (Below.refl w.heap.size w).alloc (Nat.le_refl _) (.cells #[.int .i64 s.d, .int .i64 s.r, .int .i64 s.f, .int .i64 s.t, .int .i64 s.w, .int .i64 s.p, .bool s.rn, .bool s.fr] 51)
  go_enter Try.func55, Try.ntmps55
  go_wp2_with fail
  refine (H0.out _).mono ?_
  rintro e w0 ⟨rfl, rfl⟩
  go_wp2_with fail
  refine (H1.out _).mono ?_
  rintro e w1 ⟨rfl, rfl⟩
  go_wp2_with fail
  refine (H2.out _).mono ?_
  rintro e w2 ⟨rfl, rfl⟩
  go_wp2_with fail
  go_ret
  exact ⟨rfl, hb⟩
theorem refNight_3 (s : Ni) (w : World) (h0 : btw s.d 0 100000 = true) (h1 : btw s.r 1 1000000 = true) (h2 : btw s.f 0 s.t = true) (h3 : decide (s.t ≤ 10000000) = false) :
    Calls Try.prog 55 #[.agg #[.int .i64 s.d, .int .i64 s.r, .int .i64 s.f, .int .i64 s.t, .int .i64 s.w, .int .i64 s.p, .bool s.rn, .bool s.fr]] w fun e w' => e = .returned (.bool false) ∧ Below w.heap.size w w' := by
  have H0 := Lib.hid (fun W => refFrom_v h0 W)
  have H1 := Lib.hid (fun W => refFrom_v h1 W)
  have H2 := Lib.hid (fun W => refFrom_v h2 W)
  clear h0 h1 h2
  have hb := (Below.refl w.heap.size w).alloc (Nat.le_refl _) (.cells #[.int .i64 s.d, .int .i64 s.r, .int .i64 s.f, .int .i64 s.t, .int .i64 s.w, .int .i64 s.p, .bool s.rn, .bool s.fr] 51)
  go_enter Try.func55, Try.ntmps55
  go_wp2_with fail
  refine (H0.out _).mono ?_
  rintro e w0 ⟨rfl, rfl⟩
  go_wp2_with fail
  refine (H1.out _).mono ?_
  rintro e w1 ⟨rfl, rfl⟩
  go_wp2_with fail
  refine (H2.out _).mono ?_
  rintro e w2 ⟨rfl, rfl⟩
  go_wp2_with fail
  go_ret
  exact ⟨rfl, hb⟩
theorem refNight_4 (s : Ni) (w : World) (h0 : btw s.d 0 100000 = true) (h1 : btw s.r 1 1000000 = true) (h2 : btw s.f 0 s.t = true) (h3 : decide (s.t ≤ 10000000) = true) (h4 : btw s.w 1 9 = false) :
    Calls Try.prog 55 #[.agg #[.int .i64 s.d, .int .i64 s.r, .int .i64 s.f, .int .i64 s.t, .int .i64 s.w, .int .i64 s.p, .bool s.rn, .bool s.fr]] w fun e w' => e = .returned (.bool false) ∧ Below w.heap.size w w' := by
  have H0 := Lib.hid (fun W => refFrom_v h0 W)
  have H1 := Lib.hid (fun W => refFrom_v h1 W)
  have H2 := Lib.hid (fun W => refFrom_v h2 W)
  have H4 := Lib.hid (fun W => refFrom_v h4 W)
  clear h0 h1 h2 h4
  have hb := (Below.refl w.heap.size w).alloc (Nat.le_refl _) (.cells #[.int .i64 s.d, .int .i64 s.r, .int .i64 s.f, .int .i64 s.t, .int .i64 s.w, .int .i64 s.p, .bool s.rn, .bool s.fr] 51)
  go_enter Try.func55, Try.ntmps55
  go_wp2_with fail
  refine (H0.out _).mono ?_
  rintro e w0 ⟨rfl, rfl⟩
  go_wp2_with fail
  refine (H1.out _).mono ?_
  rintro e w1 ⟨rfl, rfl⟩
  go_wp2_with fail
  refine (H2.out _).mono ?_
  rintro e w2 ⟨rfl, rfl⟩
  go_wp2_with fail
  refine (H4.out _).mono ?_
  rintro e w4 ⟨rfl, rfl⟩
  go_wp2_with fail
  go_ret
  exact ⟨rfl, hb⟩
theorem refNight_5 (s : Ni) (w : World) (h0 : btw s.d 0 100000 = true) (h1 : btw s.r 1 1000000 = true) (h2 : btw s.f 0 s.t = true) (h3 : decide (s.t ≤ 10000000) = true) (h4 : btw s.w 1 9 = true) (h5 : btw s.p 0 100 = false) :
    Calls Try.prog 55 #[.agg #[.int .i64 s.d, .int .i64 s.r, .int .i64 s.f, .int .i64 s.t, .int .i64 s.w, .int .i64 s.p, .bool s.rn, .bool s.fr]] w fun e w' => e = .returned (.bool false) ∧ Below w.heap.size w w' := by
  have H0 := Lib.hid (fun W => refFrom_v h0 W)
  have H1 := Lib.hid (fun W => refFrom_v h1 W)
  have H2 := Lib.hid (fun W => refFrom_v h2 W)
  have H4 := Lib.hid (fun W => refFrom_v h4 W)
  have H5 := Lib.hid (fun W => refFrom_v h5 W)
  clear h0 h1 h2 h4 h5
  have hb := (Below.refl w.heap.size w).alloc (Nat.le_refl _) (.cells #[.int .i64 s.d, .int .i64 s.r, .int .i64 s.f, .int .i64 s.t, .int .i64 s.w, .int .i64 s.p, .bool s.rn, .bool s.fr] 51)
  go_enter Try.func55, Try.ntmps55
  go_wp2_with fail
  refine (H0.out _).mono ?_
  rintro e w0 ⟨rfl, rfl⟩
  go_wp2_with fail
  refine (H1.out _).mono ?_
  rintro e w1 ⟨rfl, rfl⟩
  go_wp2_with fail
  refine (H2.out _).mono ?_
  rintro e w2 ⟨rfl, rfl⟩
  go_wp2_with fail
  refine (H4.out _).mono ?_
  rintro e w4 ⟨rfl, rfl⟩
  go_wp2_with fail
  refine (H5.out _).mono ?_
  rintro e w5 ⟨rfl, rfl⟩
  go_wp2_with fail
  go_ret
  exact ⟨rfl, hb⟩
theorem refNight_6 (s : Ni) (w : World) (h0 : btw s.d 0 100000 = true) (h1 : btw s.r 1 1000000 = true) (h2 : btw s.f 0 s.t = true) (h3 : decide (s.t ≤ 10000000) = true) (h4 : btw s.w 1 9 = true) (h5 : btw s.p 0 100 = true) :
    Calls Try.prog 55 #[.agg #[.int .i64 s.d, .int .i64 s.r, .int .i64 s.f, .int .i64 s.t, .int .i64 s.w, .int .i64 s.p, .bool s.rn, .bool s.fr]] w fun e w' => e = .returned (.bool true) ∧ Below w.heap.size w w' := by
  have H0 := Lib.hid (fun W => refFrom_v h0 W)
  have H1 := Lib.hid (fun W => refFrom_v h1 W)
  have H2 := Lib.hid (fun W => refFrom_v h2 W)
  have H4 := Lib.hid (fun W => refFrom_v h4 W)
  have H5 := Lib.hid (fun W => refFrom_v h5 W)
  clear h0 h1 h2 h4 h5
  have hb := (Below.refl w.heap.size w).alloc (Nat.le_refl _) (.cells #[.int .i64 s.d, .int .i64 s.r, .int .i64 s.f, .int .i64 s.t, .int .i64 s.w, .int .i64 s.p, .bool s.rn, .bool s.fr] 51)
  go_enter Try.func55, Try.ntmps55
  go_wp2_with fail
  refine (H0.out _).mono ?_
  rintro e w0 ⟨rfl, rfl⟩
  go_wp2_with fail
  refine (H1.out _).mono ?_
  rintro e w1 ⟨rfl, rfl⟩
  go_wp2_with fail
  refine (H2.out _).mono ?_
  rintro e w2 ⟨rfl, rfl⟩
  go_wp2_with fail
  refine (H4.out _).mono ?_
  rintro e w4 ⟨rfl, rfl⟩
  go_wp2_with fail
  refine (H5.out _).mono ?_
  rintro e w5 ⟨rfl, rfl⟩
  go_wp2_with fail
  go_ret
  exact ⟨rfl, hb⟩
theorem refNight_r (s : Ni) (w : World) :
    Calls Try.prog 55 #[.agg #[.int .i64 s.d, .int .i64 s.r, .int .i64 s.f, .int .i64 s.t, .int .i64 s.w, .int .i64 s.p, .bool s.rn, .bool s.fr]] w fun e w' => e = .returned (.bool (nightB s)) ∧ Below w.heap.size w w' := by
  rw [nightB_ref]
  cases h0 : btw s.d 0 100000 with
  | false => exact refNight_0 s w h0
  | true =>
    cases h1 : btw s.r 1 1000000 with
    | false => exact refNight_1 s w h0 h1
    | true =>
      cases h2 : btw s.f 0 s.t with
      | false => exact refNight_2 s w h0 h1 h2
      | true =>
        cases h3 : decide (s.t ≤ 10000000) with
        | false => exact refNight_3 s w h0 h1 h2 h3
        | true =>
          cases h4 : btw s.w 1 9 with
          | false => exact refNight_4 s w h0 h1 h2 h3 h4
          | true =>
            cases h5 : btw s.p 0 100 with
            | false => exact refNight_5 s w h0 h1 h2 h3 h4 h5
            | true =>
              exact refNight_6 s w h0 h1 h2 h3 h4 h5
end Go.Proofs.Ytghlhjiomebmhaa
