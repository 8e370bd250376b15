/-
  The arguments of package rule's laws, opened. By an AI agent.; What is proved: for every line, signs, edicts, hour, direction, topic, metre and number the law RuleMoments (P7.9) returns true: between two neighbouring moments nothing changes on any metre. Conditions: none. By an AI agent.; The laws' comparison of lists that are the same. By an AI agent.; wanted and Wanted; Held at any arguments. By an AI agent.
-/
import Derived.Test.YtjoffnbpaebgjaaGreatMgRuleMH3
import Derived.Test.YtjoffnbpaebgjaaGreatMgRuleMH5
import Derived.Test.YtjoffnbpaebgjaaGreatMgRuleMH7
import Derived.Test.YtjoffnbpaebgjaaGreatMgRuleMH13
import Derived.Test.YtjoffnbpaebgjaaGreatMgRuleMH16
import Derived.Test.YtjoffnbpaebgjaaGreatRows
import Derived.Carry
import Derived.Deep.DeepHandedRow
import Derived.Lay
import Derived.BigQuiet
import Derived.BigRegion
import Derived.Deep.RegionHeld3
import Derived.Deep.AppendLies

namespace Go.Proofs.YtjoffnbpaebgjaaGreat
set_option linter.unusedVariables false
set_option linter.unusedSimpArgs false
open Go.RowKit Go.ChangeShapes Go.WideShapes Go.ChangeAt
set_option maxRecDepth 100000

theorem choose_ltR {α : Type} {n : Nat} (d : α) {p : Nat → α → Prop} (h : ∀ i, i < n → ∃ x, p i x) : ∃ f : Nat → α, ∀ i, i < n → p i (f i) := by
  classical
  exact ⟨fun i => if hi : i < n then (h i hi).choose else d, fun i hi => by simp only [hi, dif_pos]; exact (h i hi).choose_spec⟩
theorem gs_map (f : Nat → Sgn) {n i : Nat} (h : i < n) : gs ((List.range n).map f) i = f i := by
  unfold gs; rw [List.getD_eq_getElem?_getD, List.getElem?_map, List.getElem?_range h]; rfl
theorem ge_map (f : Nat → Edc) {n i : Nat} (h : i < n) : ge ((List.range n).map f) i = f i := by
  unfold ge; rw [List.getD_eq_getElem?_getD, List.getElem?_map, List.getElem?_range h]; rfl
section
variable {H : Type} {enc : TypeId × Value → H} {W : World} {base : Nat} {sp : Nat → Bool} {held : Bool}
theorem open_signs {fuel : Nat} {v : Value} {y : DataW H × List MemPlace} (h : DataW.trod enc Tryz.prog W base sp held fuel 25 [v] = some y) :
    ∃ (a : Option Addr) (l : List Sgn) (cap : Nat), v = .slice a l.length cap ∧ SgnS W a l := by
  have hC : Tryz.prog.cellsOf 58 = 9 := by kernel_rfl
  rcases Go.Deep.open_slice Tryz.underlying25 h with ⟨hcs, _⟩ | ⟨a, len, cap, m, n, D, Pl, hcs, hb, hl, hm, hmm, hx, hi⟩
  · obtain rfl : v = .slice none 0 0 := by simpa using hcs
    exact ⟨none, [], 0, rfl, ⟨by simp, 0, 0, fun _ => none, fun _ => 0, (fun h => absurd rfl h), fun i hi => absurd hi (Nat.not_lt_zero _)⟩⟩
  · obtain rfl : v = .slice (some a) len cap := by simpa using hcs
    have hlm : len ≤ m := by rw [hmm]; split <;> omega
    rw [hC] at hi
    have key0 : ∀ i, i < len → ∃ x : Sgn × Option Addr × Nat, (W.cell? ((a.add (i * 9)).add 0) = some (.int .i64 x.1.n) ∧ W.cell? ((a.add (i * 9)).add 1) = some (.int .i64 x.1.k) ∧ W.cell? ((a.add (i * 9)).add 2) = some (.int .i64 x.1.v) ∧ W.cell? ((a.add (i * 9)).add 3) = some (.int .i64 x.1.c) ∧ W.cell? ((a.add (i * 9)).add 4) = some (.int .i64 x.1.d) ∧ W.cell? ((a.add (i * 9)).add 5) = some (.int .i64 x.1.rk) ∧ W.cell? ((a.add (i * 9)).add 6) = some (.int .i64 x.1.up) ∧ W.cell? ((a.add (i * 9)).add 7) = some (.int .i64 x.1.dn)) ∧ W.cell? ((a.add (i * 9)).add 8) = some (.slice x.2.1 x.1.cv.length x.2.2) ∧ PairsS W x.2.1 x.1.cv := fun i hil => by
      obtain ⟨cs, hc, htr⟩ := hi i (by omega)
      obtain ⟨hcl, _, hat⟩ := World.cells?_some hc
      match cs, hcl with
      | [c0, c1, c2, c3, c4, c5, c6, c7, c8], _ =>
        obtain ⟨xs, n', _, _, _, hlen, hg⟩ := DataW.trod_struct Tryz.underlying58 htr
        match xs, hlen with
        | [y0, y1, y2, y3, y4, y5, y6, y7, y8], _ =>
          obtain ⟨z0, rfl, b0⟩ := part_int rfl (show DataW.trod enc Tryz.prog W base sp held n' 3 [c0] = some y0 from hg 0 _ rfl)
          obtain ⟨z1, rfl, b1⟩ := part_int rfl (show DataW.trod enc Tryz.prog W base sp held n' 3 [c1] = some y1 from hg 1 _ rfl)
          obtain ⟨z2, rfl, b2⟩ := part_int rfl (show DataW.trod enc Tryz.prog W base sp held n' 3 [c2] = some y2 from hg 2 _ rfl)
          obtain ⟨z3, rfl, b3⟩ := part_int rfl (show DataW.trod enc Tryz.prog W base sp held n' 3 [c3] = some y3 from hg 3 _ rfl)
          obtain ⟨z4, rfl, b4⟩ := part_int rfl (show DataW.trod enc Tryz.prog W base sp held n' 3 [c4] = some y4 from hg 4 _ rfl)
          obtain ⟨z5, rfl, b5⟩ := part_int rfl (show DataW.trod enc Tryz.prog W base sp held n' 3 [c5] = some y5 from hg 5 _ rfl)
          obtain ⟨z6, rfl, b6⟩ := part_int rfl (show DataW.trod enc Tryz.prog W base sp held n' 3 [c6] = some y6 from hg 6 _ rfl)
          obtain ⟨z7, rfl, b7⟩ := part_int rfl (show DataW.trod enc Tryz.prog W base sp held n' 3 [c7] = some y7 from hg 7 _ rfl)
          obtain ⟨b8, l8, p8, rfl, hP⟩ := open_spans (show DataW.trod enc Tryz.prog W base sp held n' 56 [c8] = some y8 from hg 8 _ rfl)
          exact ⟨(⟨z0, z1, z2, z3, z4, z5, z6, z7, l8⟩, b8, p8), ⟨hat 0 (by decide), hat 1 (by decide), hat 2 (by decide), hat 3 (by decide), hat 4 (by decide), hat 5 (by decide), hat 6 (by decide), hat 7 (by decide)⟩, hat 8 (by decide), hP⟩
    have hspot : 0 < len → a.spot = none := fun h0 => by
      obtain ⟨x, ⟨hc, _⟩, _⟩ := key0 0 h0
      rw [show 0 * 9 = 0 from rfl, add_zero, add_zero] at hc
      exact spot_none hc
    obtain ⟨f, hf⟩ := choose_ltR (α := Sgn × Option Addr × Nat) (n := len) (⟨0, 0, 0, 0, 0, 0, 0, 0, []⟩, none, 0) (p := fun i x => (W.cell? ((a.add (i * 9)).add 0) = some (.int .i64 x.1.n) ∧ W.cell? ((a.add (i * 9)).add 1) = some (.int .i64 x.1.k) ∧ W.cell? ((a.add (i * 9)).add 2) = some (.int .i64 x.1.v) ∧ W.cell? ((a.add (i * 9)).add 3) = some (.int .i64 x.1.c) ∧ W.cell? ((a.add (i * 9)).add 4) = some (.int .i64 x.1.d) ∧ W.cell? ((a.add (i * 9)).add 5) = some (.int .i64 x.1.rk) ∧ W.cell? ((a.add (i * 9)).add 6) = some (.int .i64 x.1.up) ∧ W.cell? ((a.add (i * 9)).add 7) = some (.int .i64 x.1.dn)) ∧ W.cell? ((a.add (i * 9)).add 8) = some (.slice x.2.1 x.1.cv.length x.2.2) ∧ PairsS W x.2.1 x.1.cv) key0
    refine ⟨some a, (List.range len).map fun i => (f i).1, cap, by simp, ⟨by simp; unfold maxLen at hm; omega, a.block, a.off, fun i => (f i).2.1, fun i => (f i).2.2, ?_, ?_⟩⟩
    · intro hne
      have hp : 0 < len := by
        have := List.length_pos_iff.2 hne
        simpa using this
      rw [← addr_of (hspot hp)]
    · intro i hi
      have hi : i < len := by simpa using hi
      have hs := hspot (by omega)
      have := hf i hi
      rw [add_at hs, add_zero, add_at rfl, add_at rfl, add_at rfl, add_at rfl, add_at rfl, add_at rfl, add_at rfl, add_at rfl] at this
      rw [gs_map (fun i => (f i).1) hi]
      exact this
theorem open_edicts {fuel : Nat} {v : Value} {y : DataW H × List MemPlace} (h : DataW.trod enc Tryz.prog W base sp held fuel 26 [v] = some y) :
    ∃ (a : Option Addr) (l : List Edc) (cap : Nat), v = .slice a l.length cap ∧ EdS W a l := by
  have hC : Tryz.prog.cellsOf 82 = 8 := by kernel_rfl
  rcases Go.Deep.open_slice Tryz.underlying26 h with ⟨hcs, _⟩ | ⟨a, len, cap, m, n, D, Pl, hcs, hb, hl, hm, hmm, hx, hi⟩
  · obtain rfl : v = .slice none 0 0 := by simpa using hcs
    exact ⟨none, [], 0, rfl, ⟨by simp, 0, 0, (fun h => absurd rfl h), fun i hi => absurd hi (Nat.not_lt_zero _)⟩⟩
  · obtain rfl : v = .slice (some a) len cap := by simpa using hcs
    have hlm : len ≤ m := by rw [hmm]; split <;> omega
    rw [hC] at hi
    have key0 : ∀ i, i < len → ∃ x : Edc, W.cell? ((a.add (i * 8)).add 0) = some (.int .i64 x.n) ∧ W.cell? ((a.add (i * 8)).add 1) = some (.int .i64 x.tp) ∧ W.cell? ((a.add (i * 8)).add 2) = some (.int .i64 x.v) ∧ W.cell? ((a.add (i * 8)).add 3) = some (.int .i64 x.d) ∧ W.cell? ((a.add (i * 8)).add 4) = some (.int .i64 x.fr) ∧ W.cell? ((a.add (i * 8)).add 5) = some (.int .i64 x.tt) ∧ W.cell? ((a.add (i * 8)).add 6) = some (.int .i64 x.st) ∧ W.cell? ((a.add (i * 8)).add 7) = some (.int .i64 x.en) := fun i hil => by
      obtain ⟨cs, hc, htr⟩ := hi i (by omega)
      obtain ⟨hcl, _, hat⟩ := World.cells?_some hc
      match cs, hcl with
      | [c0, c1, c2, c3, c4, c5, c6, c7], _ =>
        obtain ⟨xs, n', _, _, _, hlen, hg⟩ := DataW.trod_struct Tryz.underlying82 htr
        match xs, hlen with
        | [y0, y1, y2, y3, y4, y5, y6, y7], _ =>
          obtain ⟨z0, rfl, b0⟩ := part_int rfl (show DataW.trod enc Tryz.prog W base sp held n' 3 [c0] = some y0 from hg 0 _ rfl)
          obtain ⟨z1, rfl, b1⟩ := part_int rfl (show DataW.trod enc Tryz.prog W base sp held n' 3 [c1] = some y1 from hg 1 _ rfl)
          obtain ⟨z2, rfl, b2⟩ := part_int rfl (show DataW.trod enc Tryz.prog W base sp held n' 3 [c2] = some y2 from hg 2 _ rfl)
          obtain ⟨z3, rfl, b3⟩ := part_int rfl (show DataW.trod enc Tryz.prog W base sp held n' 3 [c3] = some y3 from hg 3 _ rfl)
          obtain ⟨z4, rfl, b4⟩ := part_int rfl (show DataW.trod enc Tryz.prog W base sp held n' 3 [c4] = some y4 from hg 4 _ rfl)
          obtain ⟨z5, rfl, b5⟩ := part_int rfl (show DataW.trod enc Tryz.prog W base sp held n' 3 [c5] = some y5 from hg 5 _ rfl)
          obtain ⟨z6, rfl, b6⟩ := part_int rfl (show DataW.trod enc Tryz.prog W base sp held n' 3 [c6] = some y6 from hg 6 _ rfl)
          obtain ⟨z7, rfl, b7⟩ := part_int rfl (show DataW.trod enc Tryz.prog W base sp held n' 3 [c7] = some y7 from hg 7 _ rfl)
          exact ⟨⟨z0, z1, z2, z3, z4, z5, z6, z7⟩, hat 0 (by decide), hat 1 (by decide), hat 2 (by decide), hat 3 (by decide), hat 4 (by decide), hat 5 (by decide), hat 6 (by decide), hat 7 (by decide)⟩
    have hspot : 0 < len → a.spot = none := fun h0 => by
      obtain ⟨x, hc, _⟩ := key0 0 h0
      rw [show 0 * 8 = 0 from rfl, add_zero, add_zero] at hc
      exact spot_none hc
    obtain ⟨f, hf⟩ := choose_ltR (α := Edc) (n := len) ⟨0, 0, 0, 0, 0, 0, 0, 0⟩ (p := fun i x => W.cell? ((a.add (i * 8)).add 0) = some (.int .i64 x.n) ∧ W.cell? ((a.add (i * 8)).add 1) = some (.int .i64 x.tp) ∧ W.cell? ((a.add (i * 8)).add 2) = some (.int .i64 x.v) ∧ W.cell? ((a.add (i * 8)).add 3) = some (.int .i64 x.d) ∧ W.cell? ((a.add (i * 8)).add 4) = some (.int .i64 x.fr) ∧ W.cell? ((a.add (i * 8)).add 5) = some (.int .i64 x.tt) ∧ W.cell? ((a.add (i * 8)).add 6) = some (.int .i64 x.st) ∧ W.cell? ((a.add (i * 8)).add 7) = some (.int .i64 x.en)) key0
    refine ⟨some a, (List.range len).map f, cap, by simp, ⟨by simp; unfold maxLen at hm; omega, a.block, a.off, ?_, ?_⟩⟩
    · intro hne
      have hp : 0 < len := by
        have := List.length_pos_iff.2 hne
        simpa using this
      rw [← addr_of (hspot hp)]
    · intro i hi
      have hi : i < len := by simpa using hi
      have hs := hspot (by omega)
      have := hf i hi
      rw [add_at hs, add_zero, add_at rfl, add_at rfl, add_at rfl, add_at rfl, add_at rfl, add_at rfl, add_at rfl] at this
      rw [ge_map f hi]
      exact this
theorem open_line {n : Nat} {c0 c1 : Value} {y : DataW H × List MemPlace} (h : DataW.trod enc Tryz.prog W base sp held n 24 [c0, c1] = some y) : ∃ (L : Int) (a : Option Addr) (l : List Int) (ca : Nat), c0 = .int .i64 L ∧ c1 = .slice a l.length ca ∧ IntsS W a l ∧ I64 L := by
  obtain ⟨xs, n', _, _, _, hlen, hg⟩ := DataW.trod_struct Tryz.underlying24 h
  match xs, hlen with
  | [y0, y1], _ =>
    obtain ⟨z0, rfl, b0⟩ := part_int rfl (show DataW.trod enc Tryz.prog W base sp held n' 3 [c0] = some y0 from hg 0 _ rfl)
    obtain ⟨a, l, ca, rfl, hA, _⟩ := part_ints rfl (show DataW.trod enc Tryz.prog W base sp held n' 22 [c1] = some y1 from hg 1 _ rfl)
    exact ⟨z0, a, l, ca, rfl, rfl, hA, b0⟩
theorem open_ask {v : Value} {d : DataW H} {p : List MemPlace} (hv : Value.okWide Tryz.prog W .any base 28 v) (h : DataW.Trod enc Tryz.prog W 0 sp held 28 v d p) :
    ∃ (L : Int) (a : Option Addr) (js : List Int) (ca : Nat) (aa : Option Addr) (l : List Sgn) (cl : Nat) (ae : Option Addr) (q : List Edc) (cq : Nat) (q0 q1 q2 q3 : Int), v = .agg #[.int .i64 L, .slice a js.length ca, .slice aa l.length cl, .slice ae q.length cq, .int .i64 q0, .int .i64 q1, .int .i64 q2, .int .i64 q3] ∧ IntsS W a js ∧ SgnS W aa l ∧ EdS W ae q ∧ I64 L ∧ I64 q0 ∧ I64 q1 ∧ I64 q2 ∧ I64 q3 := by
  obtain ⟨⟨cs⟩, rfl, hsz⟩ := okWide_struct Tryz.underlying28 hv
  have hC : Tryz.prog.cellsOf 28 = 8 := by kernel_rfl
  match cs, hsz.trans hC with
  | [c0, c1, c2, c3, c4, c5, c6, c7], _ =>
    obtain ⟨fuel, hf⟩ := h
    obtain ⟨xs, n, _, _, _, hlen, hg⟩ := DataW.trod_struct Tryz.underlying28 hf
    match xs, hlen with
    | [u0, u1, u2, u3, u4, u5, u6], _ =>
      obtain ⟨L, a, js, ca, rfl, rfl, hJ, bL⟩ := open_line (show DataW.trod enc Tryz.prog W 0 sp held n 24 [c0, c1] = some u0 from hg 0 _ rfl)
      obtain ⟨aa, l, cl, rfl, hA⟩ := open_signs (show DataW.trod enc Tryz.prog W 0 sp held n 25 [c2] = some u1 from hg 1 _ rfl)
      obtain ⟨ae, q, cq, rfl, hE⟩ := open_edicts (show DataW.trod enc Tryz.prog W 0 sp held n 26 [c3] = some u2 from hg 2 _ rfl)
      obtain ⟨q0, rfl, b0⟩ := part_int rfl (show DataW.trod enc Tryz.prog W 0 sp held n 3 [c4] = some u3 from hg 3 _ rfl)
      obtain ⟨q1, rfl, b1⟩ := part_int rfl (show DataW.trod enc Tryz.prog W 0 sp held n 3 [c5] = some u4 from hg 4 _ rfl)
      obtain ⟨q2, rfl, b2⟩ := part_int rfl (show DataW.trod enc Tryz.prog W 0 sp held n 3 [c6] = some u5 from hg 5 _ rfl)
      obtain ⟨q3, rfl, b3⟩ := part_int rfl (show DataW.trod enc Tryz.prog W 0 sp held n 3 [c7] = some u6 from hg 6 _ rfl)
      exact ⟨L, a, js, ca, aa, l, cl, ae, q, cq, q0, q1, q2, q3, rfl, hJ, hA, hE, bL, b0, b1, b2, b3⟩
end
end Go.Proofs.YtjoffnbpaebgjaaGreat

namespace Go.Proofs.YtjoffnbpaebgjaaGreat.ruleMoments
set_option linter.unusedVariables false
set_option linter.unusedSimpArgs false
open Go.ChangeShapes Go.WideShapes Go.ChangeAt Go.RowKit
open Go.ChangeMaps (open_string shut_string)

theorem own : ownKnob Tryz.prog.godebug = none := by kernel_rfl

set_option maxRecDepth 100000 in
theorem contract (H : Type) (enc : TypeId × Value → H) (W : World) (base : Nat) (args : Array Value) (ds gs : List (DataW H)) (before : List MemPlace)
    (hval : ∀ (j : Nat) t v, Tryz.f4.params[j]? = some t → args[j]? = some v → Value.okWide Tryz.prog W .any base t v)
    (hW : DataW.Whole enc Tryz.prog Tryz.f4.params.toList Rows.ruleMomentsSpec.vars false W args.toList ds gs before) (hL : laidMetH Tryz.prog Rows.ruleMomentsRow.laid W) (hsh : W.ShapedOpen Tryz.prog) :
    Calls Tryz.prog 4 args W fun e W' => ∃ v, e = .returned v ∧ Rows.ruleMomentsSpec.post enc Tryz.prog Tryz.f4 false true false false W args v W' := by
  have hW' := hW
  obtain ⟨p, q, hA0, hV, rfl, hfz, hnd⟩ := hW
  have hA : DataW.TrodAll enc Tryz.prog W 0 (fun _ => true) true Tryz.f4.params.toList args.toList ds p := hA0
  rw [Tryz.params4] at hA hval
  obtain ⟨v0, v1, d0, d1, p0, p1, rfl, rfl, rfl, h0, h1⟩ := trodAll_two hA
  obtain ⟨rfl, rfl⟩ := trodVars_none hV
  obtain ⟨L, a, js, ca, aa, l, cl, ae, q, cq, q0, q1, q2, q3, rfl, hI, hA2, hE, bL, b0, b1, b2, b3⟩ := open_ask (hval 0 28 v0 rfl rfl) h0
  obtain ⟨u1, rfl, rfl, rfl, w1⟩ := open_int Tryz.underlying43 (hval 1 43 v1 rfl rfl) h1
  clear hA0
  simp only [List.append_nil] at hW'
  refine (ruleMoments_any L a js ca aa l cl ae q cq q0 q1 q2 q3 W hI hA2 hE u1 (bounds_u32 w1).1 (bounds_u32 w1).2).mono fun e W' ⟨he, hg⟩ => ?_
  subst he
  exact ⟨_, rfl, ⟨_, _, _, [], p0 ++ ([]), [], hW', trodAll_mk1 (shut_bool Tryz.underlying4 _), trodAll_mk2 (Below.trod (by kernel_rfl) (by kernel_rfl) (of_decide_eq_true (by kernel_rfl)) h0 hg (fun x hx => hW'.lt x (by first | exact hx | (simpa using hx) | (simp; first | exact Or.inl hx | exact Or.inr hx | exact Or.inr (Or.inl hx) | exact Or.inr (Or.inr hx))))) (shut_int Tryz.underlying43 w1), rfl, hg.frame _, fun h => by cases h⟩⟩

/-- A start that fits: the listed variables laid, the arguments at their zero values. -/
noncomputable def start (os : Os) : World := World.laidAll Tryz.prog os Rows.ruleMomentsRow.laid
abbrev zeroArgs : Array Value := #[.agg #[.int .i64 0, .slice none 0 0, .slice none 0 0, .slice none 0 0, .int .i64 0, .int .i64 0, .int .i64 0, .int .i64 0], .int .u32 0]
theorem reads (os : Os) {H : Type} (enc : TypeId × Value → H) : ∃ places, DataW.whole enc Tryz.prog ((start os).forCall (fun _ _ => 0) ⟨#[], zeroArgs, []⟩).memory Tryz.f4.params.toList Rows.ruleMomentsSpec.vars false zeroArgs.toList 16 = some ([.agg [.agg [.lit (.int .i64 0), .nil], .nil, .nil, .lit (.int .i64 0), .lit (.int .i64 0), .lit (.int .i64 0), .lit (.int .i64 0)], .lit (.int .u32 0)], [], places) :=
  ⟨[], by kernel_rfl⟩

set_option maxRecDepth 100000 in
theorem lifted (os : Os) (started : os.Started) (H : Type) (enc : TypeId × Value → H) (F : Stop.Interp) :
    ReturnsInHanded {} Tryz.checked os 4 .any ((OpenSpec.ofChange Rows.ruleMomentsSpec).preRow enc Tryz.prog Tryz.f4 Rows.ruleMomentsRow.domain false Rows.ruleMomentsRow.laid) (((OpenSpec.ofChange Rows.ruleMomentsSpec).at F).post enc Tryz.prog Tryz.f4 false true false false) := by
  obtain ⟨places, hx⟩ := reads os enc
  refine returnsInHanded_of_row (C := Tryz.checked) (s := OpenSpec.ofChange Rows.ruleMomentsSpec) own started (by kernel_rfl) Tryz.func4
    ⟨start os, fun _ _ => 0, ⟨#[], zeroArgs, []⟩, World.laidAll_os _ _ _, World.shaped_of_ZipB (by kernel_rfl) (by kernel_rfl),
      (Input.okWide_of_okWideB (base := 0) (show Input.okWideB Tryz.checked.prog ((start os).forCall (fun _ _ => 0) ⟨#[], zeroArgs, []⟩) 4 ⟨#[], zeroArgs, []⟩ = true by kernel_rfl)).1,
      (Input.okWide_of_okWideB (show Input.okWideB Tryz.checked.prog ((start os).forCall (fun _ _ => 0) ⟨#[], zeroArgs, []⟩) 4 ⟨#[], zeroArgs, []⟩ = true by kernel_rfl)).2,
      OpenSpec.preRow_of_cond 16 hx (by kernel_rfl) (fun k hk => by cases hk) (by kernel_rfl) (laidMet_laidAll _ (by kernel_rfl) (by kernel_rfl)), by
        simp only [Assume.holds]
        exact ⟨by simp, by simp, fun _ => Modest.zero, by simp, by simp⟩⟩ ?_
  intro W base args ds gs before hval hW _ _ _ hL hsh _
  exact contract H enc W base args ds gs before hval hW hL hsh

theorem said : Rows.RuleMomentsSaid :=
  OpenClaim.holds_of_cond 4 Tryz.f4 rfl rfl rfl rfl rfl rfl rfl ⟨rfl, rfl, rfl, rfl, rfl⟩ rfl rfl rfl rfl rfl (by kernel_rfl) Tryz.func4 (by kernel_rfl)
    (of_decide_eq_true (by kernel_rfl)) (by unfold Func.isWrapper; first | (rw [if_pos (by decide +kernel)]; kernel_rfl) | (rw [if_neg (by decide +kernel)]; exact ⟨rfl, rfl⟩))
    (fun os started H enc _ F => by rw [OpenClaim.pre_eq_preRow]; exact lifted os started H enc F)
end Go.Proofs.YtjoffnbpaebgjaaGreat.ruleMoments

namespace Go.Proofs.YtjoffnbpaebgjaaGreat
set_option linter.unusedVariables false
set_option linter.unusedSimpArgs false
open Go.RowKit

set_option maxRecDepth 100000 in
set_option maxHeartbeats 1000000 in
theorem sameInts_r (a b : Option Addr) (l : List (Int)) (ca cb : Nat) (w : World) (hA : IntsS w a l) (hB : IntsS w b l) :
    Calls Tryz.prog 15 #[.slice a l.length ca, .slice b l.length cb] w fun e w' => e = .returned (.bool true) ∧ Below w.heap.size w w' := by
  obtain ⟨hlen, -, blk, off, hadr, hc⟩ := hA
  obtain ⟨-, -, blk2, off2, hadr2, hc2⟩ := hB
  have HC := Lib.hid hc
  have HC2 := Lib.hid hc2
  have HL : Hid (0 < l.length → a = some ⟨blk, off, none⟩) := Lib.hid fun h => hadr (List.ne_nil_of_length_pos h)
  have HL2 : Hid (0 < l.length → b = some ⟨blk2, off2, none⟩) := Lib.hid fun h => hadr2 (List.ne_nil_of_length_pos h)
  clear hc hc2 hadr hadr2
  have n4 : ((l.length : Int) != l.length) = false := by simp
  go_enter Tryz.func15, Tryz.ntmps15
  go_wp2_with fail
  go_loopw [5] (fun i wr => ∃ k : Nat, k ≤ l.length ∧ i = .int .i64 k ∧ Below w.heap.size w wr) (fun i _ => l.length - (intOf i).toNat)
  case atStart => exact ⟨0, Nat.zero_le _, rfl, Below.refl _ _⟩
  case round =>
    obtain ⟨k, hk, rfl, hb⟩ := hrel
    by_cases hlt : k < l.length
    · obtain rfl := HL.out (by omega)
      obtain rfl := HL2.out (by omega)
      have x0 := cell_below (HC.out k hlt) hb
      have y0 := cell_below (HC2.out k hlt) hb
      clear HC HC2 HL HL2
      generalize (gi l k) = z0 at *
      have e0 : (z0 != z0) = false := by simp
      have e0b : (z0 == z0) = true := by simp
      have g0 : (0 : Int) ≤ (k : Int) := by omega
      have g1 : (k : Int) < l.length := by omega
      go_wp2_with fail
      go_quiet (fail)
      go_wp2_with fail
      go_roundw
      case rel => exact ⟨k + 1, by omega, by go_num, below_drewN hb _⟩
      case measure => simp [intOf]; omega
    · go_wp2_with fail
      go_ret
      exact ⟨rfl, hb⟩
def TriS (w : World) (a : Option Addr) (l : List (Int × Int × Int)) : Prop :=
  l.length ≤ 9223372036854775807 ∧ ∃ blk off, (l ≠ [] → a = some ⟨blk, off, none⟩) ∧ ∀ i, i < l.length → w.cell? ⟨blk, off + i * 3, none⟩ = some (.int .i64 (gt3 l i).1) ∧ w.cell? ⟨blk, off + i * 3 + 1, none⟩ = some (.int .i64 (gt3 l i).2.1) ∧ w.cell? ⟨blk, off + i * 3 + 2, none⟩ = some (.int .i64 (gt3 l i).2.2)
theorem TriS.below {w w' : World} {a : Option Addr} {l : List (Int × Int × Int)} (h : TriS w a l) (hb : Below w.heap.size w w') : TriS w' a l := by
  obtain ⟨h0, blk, off, h2, h3⟩ := h
  exact ⟨h0, blk, off, h2, fun i hi => by
    have hx := h3 i hi
    exact ⟨cell_below hx.1 hb, cell_below hx.2.1 hb, cell_below hx.2.2 hb⟩⟩
theorem tri_own {w : World} {base c : Nat} {a : Option Addr} {zs : List Tri} {T : TypeId} (h : w.ownsRow base T 3 (.slice a zs.length c) zs.length (cl3 zs)) (hn : zs.length ≤ 9223372036854775807) : TriS w a zs := by
  refine ⟨hn, ?_⟩
  rcases h.2 with ⟨h1, h2⟩ | ⟨g2, c2, cur, h1, _⟩
  · exact ⟨0, 0, (fun hne => absurd (List.eq_nil_of_length_eq_zero h2) hne), fun i hi => by omega⟩
  · obtain ⟨rfl, rfl⟩ : a = some ⟨g2, 0, none⟩ ∧ c = c2 := by simpa using h1
    refine ⟨g2, 0, fun _ => rfl, fun i hi => ?_⟩
    obtain ⟨c0, c1, c2⟩ := cl3_c zs i hi
    rw [Nat.zero_add]
    exact ⟨by rw [World.ownsRow.cellAt h (i * 3) (by omega)]; exact c0, by rw [World.ownsRow.cellAt h (i * 3 + 1) (by omega)]; exact c1, by rw [World.ownsRow.cellAt h (i * 3 + 2) (by omega)]; exact c2⟩
theorem tri_nil (w : World) : TriS w none [] := ⟨by decide, 0, 0, fun h => (h rfl).elim, fun i hi => absurd hi (Nat.not_lt_zero i)⟩
set_option maxRecDepth 100000 in
set_option maxHeartbeats 1000000 in
theorem sameTold_r (a b : Option Addr) (l : List (Int × Int × Int)) (ca cb : Nat) (w : World) (hA : TriS w a l) (hB : TriS w b l) :
    Calls Tryz.prog 16 #[.slice a l.length ca, .slice b l.length cb] w fun e w' => e = .returned (.bool true) ∧ Below w.heap.size w w' := by
  obtain ⟨hlen, blk, off, hadr, hc⟩ := hA
  obtain ⟨-, blk2, off2, hadr2, hc2⟩ := hB
  have HC := Lib.hid hc
  have HC2 := Lib.hid hc2
  have HL : Hid (0 < l.length → a = some ⟨blk, off, none⟩) := Lib.hid fun h => hadr (List.ne_nil_of_length_pos h)
  have HL2 : Hid (0 < l.length → b = some ⟨blk2, off2, none⟩) := Lib.hid fun h => hadr2 (List.ne_nil_of_length_pos h)
  clear hc hc2 hadr hadr2
  have n4 : ((l.length : Int) != l.length) = false := by simp
  go_enter Tryz.func16, Tryz.ntmps16
  go_wp2_with fail
  go_loopw [5] (fun i wr => ∃ k : Nat, k ≤ l.length ∧ i = .int .i64 k ∧ Below w.heap.size w wr) (fun i _ => l.length - (intOf i).toNat)
  case atStart => exact ⟨0, Nat.zero_le _, rfl, Below.refl _ _⟩
  case round =>
    obtain ⟨k, hk, rfl, hb⟩ := hrel
    by_cases hlt : k < l.length
    · obtain rfl := HL.out (by omega)
      obtain rfl := HL2.out (by omega)
      obtain ⟨x0, x1, x2⟩ := HC.out k hlt
      have x0 := cell_below x0 hb
      have x1 := cell_below x1 hb
      have x2 := cell_below x2 hb
      obtain ⟨y0, y1, y2⟩ := HC2.out k hlt
      have y0 := cell_below y0 hb
      have y1 := cell_below y1 hb
      have y2 := cell_below y2 hb
      clear HC HC2 HL HL2
      generalize (gt3 l k).1 = z0 at *
      generalize (gt3 l k).2.1 = z1 at *
      generalize (gt3 l k).2.2 = z2 at *
      have e0 : (z0 != z0) = false := by simp
      have e0b : (z0 == z0) = true := by simp
      have e1 : (z1 != z1) = false := by simp
      have e1b : (z1 == z1) = true := by simp
      have e2 : (z2 != z2) = false := by simp
      have e2b : (z2 == z2) = true := by simp
      have g0 : (0 : Int) ≤ (k : Int) := by omega
      have g1 : (k : Int) < l.length := by omega
      go_wp2_with fail
      go_quiet (fail)
      go_wp2_with fail
      go_roundw
      case rel => exact ⟨k + 1, by omega, by go_num, below_drewN hb _⟩
      case measure => simp [intOf]; omega
    · go_wp2_with fail
      go_ret
      exact ⟨rfl, hb⟩
set_option maxRecDepth 100000 in
set_option maxHeartbeats 1000000 in
theorem sameFaults_r (a b : Option Addr) (l : List (Int × Int)) (ca cb : Nat) (w : World) (hA : PairsS w a l) (hB : PairsS w b l) :
    Calls Tryz.prog 23 #[.slice a l.length ca, .slice b l.length cb] w fun e w' => e = .returned (.bool true) ∧ Below w.heap.size w w' := by
  obtain ⟨hlen, -, blk, off, hadr, hc⟩ := hA
  obtain ⟨-, -, blk2, off2, hadr2, hc2⟩ := hB
  have HC := Lib.hid hc
  have HC2 := Lib.hid hc2
  have HL : Hid (0 < l.length → a = some ⟨blk, off, none⟩) := Lib.hid fun h => hadr (List.ne_nil_of_length_pos h)
  have HL2 : Hid (0 < l.length → b = some ⟨blk2, off2, none⟩) := Lib.hid fun h => hadr2 (List.ne_nil_of_length_pos h)
  clear hc hc2 hadr hadr2
  have n4 : ((l.length : Int) != l.length) = false := by simp
  go_enter Tryz.func23, Tryz.ntmps23
  go_wp2_with fail
  go_loopw [5] (fun i wr => ∃ k : Nat, k ≤ l.length ∧ i = .int .i64 k ∧ Below w.heap.size w wr) (fun i _ => l.length - (intOf i).toNat)
  case atStart => exact ⟨0, Nat.zero_le _, rfl, Below.refl _ _⟩
  case round =>
    obtain ⟨k, hk, rfl, hb⟩ := hrel
    by_cases hlt : k < l.length
    · obtain rfl := HL.out (by omega)
      obtain rfl := HL2.out (by omega)
      obtain ⟨x0, x1⟩ := HC.out k hlt
      have x0 := cell_below x0 hb
      have x1 := cell_below x1 hb
      obtain ⟨y0, y1⟩ := HC2.out k hlt
      have y0 := cell_below y0 hb
      have y1 := cell_below y1 hb
      clear HC HC2 HL HL2
      generalize (gp l k).1 = z0 at *
      generalize (gp l k).2 = z1 at *
      have e0 : (z0 != z0) = false := by simp
      have e0b : (z0 == z0) = true := by simp
      have e1 : (z1 != z1) = false := by simp
      have e1b : (z1 == z1) = true := by simp
      have g0 : (0 : Int) ≤ (k : Int) := by omega
      have g1 : (k : Int) < l.length := by omega
      go_wp2_with fail
      go_quiet (fail)
      go_wp2_with fail
      go_roundw
      case rel => exact ⟨k + 1, by omega, by go_num, below_drewN hb _⟩
      case measure => simp [intOf]; omega
    · go_wp2_with fail
      go_ret
      exact ⟨rfl, hb⟩
end Go.Proofs.YtjoffnbpaebgjaaGreat

namespace Go.Proofs.YtjoffnbpaebgjaaGreat
set_option linter.unusedVariables false
set_option linter.unusedSimpArgs false
open Go.RowKit

theorem cutsW_pair (L : Int) (q : List Edc) (k : Nat) : clI (cutsW L q (k + 1)) = clI (cutsW L q k) ++ [.int .i64 (ge q k).fr, .int .i64 (ge q k).tt] := by rw [cutsW]; simp [clI]
theorem cutsW_ne (L : Int) (q : List Edc) (k : Nat) : cutsW L q k ≠ [] := fun e => by
  have := cutsW_len L q k
  rw [e] at this
  simp at this
  omega
theorem edcs_len {L : Int} {js : List Int} {q : List Edc} (h : edcsB L js q = true) : q.length ≤ 50 := by
  unfold edcsB at h
  simp only [Bool.and_eq_true, decide_eq_true_eq] at h
  exact h.1.1.2
set_option maxRecDepth 100000 in
set_option maxHeartbeats 1000000 in
theorem Held_bad (L : Int) (a : Option Addr) (js : List Int) (ca : Nat) (aa : Option Addr) (l : List Sgn) (cl : Nat) (h dir tp : Int) (hV : lstE L js l [] ≠ 0) (w : World) (hI : IntsS w a js) (hA : SgnS w aa l) :
    Calls Tryz.prog 25 #[.agg #[.int .i64 L, .slice a js.length ca], .slice aa l.length cl, .int .i64 h, .int .i64 dir, .int .i64 tp] w fun e w' => e = .returned (.tuple #[.slice none 0 0, .int .i64 (lstE L js l [])]) ∧ Below w.heap.size w w' := by
  have H1 := Lib.hid (fun W (hW : Below w.heap.size w W) => listsError_r L a js ca aa l cl none [] 0 W (hI.below hW) (hA.below hW) (ed_nilR W))
  clear hI hA
  generalize lstE L js l [] = E at *
  have d1 : (E != 0) = true := by simp [hV]
  clear hV
  go_enter Tryz.func25, Tryz.ntmps25
  go_wp2_with fail
  obtain ⟨wB, hwB⟩ : ∃ wB, w.alloc (.cells #[.int .i64 L, .slice a js.length ca] 24) = wB := ⟨_, rfl⟩
  have hb : Below w.heap.size w wB := by rw [← hwB]; exact (Below.refl _ _).alloc (Nat.le_refl _) _
  have l0 : wB.cell? ⟨w.heap.size, 0, none⟩ = some (.int .i64 L) := by rw [← hwB]; simp [go_sem]
  have l1 : wB.cell? ⟨w.heap.size, 1, none⟩ = some (.slice a js.length ca) := by rw [← hwB]; simp [go_sem]
  rw [hwB]
  clear hwB
  go_wp2_with (go_at_call 26; refine (H1.out _ hb).mono ?_; rintro e w1 ⟨rfl, hb1⟩)
  go_ret2
  exact ⟨rfl, hb.trans (hb1.mono hb.size)⟩
set_option maxRecDepth 100000 in
set_option maxHeartbeats 1000000 in
theorem Held_arg (L : Int) (a : Option Addr) (js : List Int) (ca : Nat) (aa : Option Addr) (l : List Sgn) (cl : Nat) (h dir tp : Int) (hV : lstE L js l [] = 0) (hx : ((btw h 0 10000000) && (dirB dir) && (topB tp)) = false) (w : World) (hI : IntsS w a js) (hA : SgnS w aa l) :
    Calls Tryz.prog 25 #[.agg #[.int .i64 L, .slice a js.length ca], .slice aa l.length cl, .int .i64 h, .int .i64 dir, .int .i64 tp] w fun e w' => e = .returned (.tuple #[.slice none 0 0, .int .i64 2]) ∧ Below w.heap.size w w' := by
  have hLb := (lst_good hV).1
  have H1 := Lib.hid (fun W (hW : Below w.heap.size w W) => by
    have := listsError_r L a js ca aa l cl none [] 0 W (hI.below hW) (hA.below hW) (ed_nilR W)
    rw [hV] at this
    exact this)
  have K0 := Lib.hid (fun W => isHour_r h W)
  have K1 := Lib.hid (fun W => isDir_r dir W)
  have K2 := Lib.hid (fun W => isTopic_r tp W)
  clear hI hA hV hLb
  generalize btw h 0 10000000 = b0 at *
  generalize dirB dir = b1 at *
  generalize topB tp = b2 at *
  cases b0 with
  | false =>
    clear hx
    go_enter Tryz.func25, Tryz.ntmps25
    go_wp2_with fail
    obtain ⟨wB, hwB⟩ : ∃ wB, w.alloc (.cells #[.int .i64 L, .slice a js.length ca] 24) = wB := ⟨_, rfl⟩
    have hb : Below w.heap.size w wB := by rw [← hwB]; exact (Below.refl _ _).alloc (Nat.le_refl _) _
    have l0 : wB.cell? ⟨w.heap.size, 0, none⟩ = some (.int .i64 L) := by rw [← hwB]; simp [go_sem]
    have l1 : wB.cell? ⟨w.heap.size, 1, none⟩ = some (.slice a js.length ca) := by rw [← hwB]; simp [go_sem]
    rw [hwB]
    clear hwB
    go_wp2_with (first | (go_at_call 26; refine (H1.out _ hb).mono ?_; rintro e w1 ⟨rfl, hb1⟩; replace hb := hb.trans (hb1.mono hb.size); replace l0 := cell_below l0 hb1; replace l1 := cell_below l1 hb1; clear hb1) | (go_at_call 41; refine (K0.out _).mono ?_; rintro e w2 ⟨rfl, rfl⟩) | (go_at_call 28; refine (K1.out _).mono ?_; rintro e w2 ⟨rfl, rfl⟩) | (go_at_call 29; refine (K2.out _).mono ?_; rintro e w2 ⟨rfl, rfl⟩))
    go_ret2
    exact ⟨rfl, hb⟩
  | true =>
    cases b1 with
    | false =>
      clear hx
      go_enter Tryz.func25, Tryz.ntmps25
      go_wp2_with fail
      obtain ⟨wB, hwB⟩ : ∃ wB, w.alloc (.cells #[.int .i64 L, .slice a js.length ca] 24) = wB := ⟨_, rfl⟩
      have hb : Below w.heap.size w wB := by rw [← hwB]; exact (Below.refl _ _).alloc (Nat.le_refl _) _
      have l0 : wB.cell? ⟨w.heap.size, 0, none⟩ = some (.int .i64 L) := by rw [← hwB]; simp [go_sem]
      have l1 : wB.cell? ⟨w.heap.size, 1, none⟩ = some (.slice a js.length ca) := by rw [← hwB]; simp [go_sem]
      rw [hwB]
      clear hwB
      go_wp2_with (first | (go_at_call 26; refine (H1.out _ hb).mono ?_; rintro e w1 ⟨rfl, hb1⟩; replace hb := hb.trans (hb1.mono hb.size); replace l0 := cell_below l0 hb1; replace l1 := cell_below l1 hb1; clear hb1) | (go_at_call 41; refine (K0.out _).mono ?_; rintro e w2 ⟨rfl, rfl⟩) | (go_at_call 28; refine (K1.out _).mono ?_; rintro e w2 ⟨rfl, rfl⟩) | (go_at_call 29; refine (K2.out _).mono ?_; rintro e w2 ⟨rfl, rfl⟩))
      go_ret2
      exact ⟨rfl, hb⟩
    | true =>
      cases b2 with
      | false =>
        clear hx
        go_enter Tryz.func25, Tryz.ntmps25
        go_wp2_with fail
        obtain ⟨wB, hwB⟩ : ∃ wB, w.alloc (.cells #[.int .i64 L, .slice a js.length ca] 24) = wB := ⟨_, rfl⟩
        have hb : Below w.heap.size w wB := by rw [← hwB]; exact (Below.refl _ _).alloc (Nat.le_refl _) _
        have l0 : wB.cell? ⟨w.heap.size, 0, none⟩ = some (.int .i64 L) := by rw [← hwB]; simp [go_sem]
        have l1 : wB.cell? ⟨w.heap.size, 1, none⟩ = some (.slice a js.length ca) := by rw [← hwB]; simp [go_sem]
        rw [hwB]
        clear hwB
        go_wp2_with (first | (go_at_call 26; refine (H1.out _ hb).mono ?_; rintro e w1 ⟨rfl, hb1⟩; replace hb := hb.trans (hb1.mono hb.size); replace l0 := cell_below l0 hb1; replace l1 := cell_below l1 hb1; clear hb1) | (go_at_call 41; refine (K0.out _).mono ?_; rintro e w2 ⟨rfl, rfl⟩) | (go_at_call 28; refine (K1.out _).mono ?_; rintro e w2 ⟨rfl, rfl⟩) | (go_at_call 29; refine (K2.out _).mono ?_; rintro e w2 ⟨rfl, rfl⟩))
        go_ret2
        exact ⟨rfl, hb⟩
      | true =>
        cases hx
/-- Stretches with an error. -/
def TriA (M : List Tri) (E : Int) (w : World) (e : Ending) (w' : World) : Prop := ∃ b c, e = .returned (.tuple #[.slice b M.length c, .int .i64 E]) ∧ TriS w' b M ∧ Below w.heap.size w w'
theorem Held_goodS (L : Int) (a : Option Addr) (js : List Int) (ca : Nat) (aa : Option Addr) (l : List Sgn) (cl : Nat) (h dir tp : Int) (hV : lstE L js l [] = 0) (h0 : btw h 0 10000000 = true) (h1 : dirB dir = true) (h2 : topB tp = true) (w : World) (hI : IntsS w a js) (hA : SgnS w aa l) :
    Calls Tryz.prog 25 #[.agg #[.int .i64 L, .slice a js.length ca], .slice aa l.length cl, .int .i64 h, .int .i64 dir, .int .i64 tp] w (TriA (heldS L js l h dir tp) 0 w) := by
  refine (Held_good L a js ca aa l cl h dir tp hV h0 h1 h2 w hI hA).mono ?_
  rintro e w' ⟨row, b, c, hRL, rfl, hown, hb⟩
  have hlen : (hldM L dir tp row).length ≤ 9223372036854775807 := by
    have e1 : (hldM L dir tp row).length ≤ (cutsK L dir row row.length).length := heldL_len (Nat.le_trans (prtK_len _ _ _) (asc_len _))
    obtain ⟨ad, cp, l1, hp, -, rfl⟩ := hRL
    have e2 := hp.length_eq
    have e3 := rowK_len L js dir h l ad cp l.length
    have e4 := (lst_good hV).2.2.2
    rw [cutsK_len, List.length_map, finP_len] at e1
    omega
  have htp := top_or h2
  rw [hldM_eq hV h1 (by omega) hRL] at hown hlen ⊢
  exact ⟨b, c, rfl, tri_own hown hlen, hb⟩
theorem Held_any (L : Int) (a : Option Addr) (js : List Int) (ca : Nat) (aa : Option Addr) (l : List Sgn) (cl : Nat) (h dir tp : Int) (b9 r : Bool) (hr : r = (btw h 0 10000000 && dirB dir && topB tp)) (w : World) (hI : IntsS w a js) (hA : SgnS w aa l) :
    Calls Tryz.prog 25 #[.agg #[.int .i64 L, .slice a js.length ca], .slice aa l.length cl, .int .i64 h, .int .i64 dir, .int .i64 tp] w (TriA (if whyK (lineB L js) true (sgnsB L js l) false b9 r = 0 then heldS L js l h dir tp else []) (whyK (lineB L js) true (sgnsB L js l) false b9 r) w) := by
  obtain ⟨k1, k2⟩ := lst_s L js l true b9 r
  by_cases hV : lstE L js l [] = 0
  · rw [k2 hV]
    cases hx : r with
    | false =>
      rw [if_pos rfl, if_neg (by decide)]
      refine (Held_arg L a js ca aa l cl h dir tp hV (by rw [← hr]; exact hx) w hI hA).mono ?_
      rintro e w' ⟨rfl, hb⟩
      exact ⟨none, 0, rfl, tri_nil _, hb⟩
    | true =>
      rw [if_neg (show ¬ (true = false) by decide), if_pos rfl]
      rw [hx] at hr
      have hr := hr.symm
      simp only [Bool.and_eq_true] at hr
      exact Held_goodS L a js ca aa l cl h dir tp hV hr.1.1 hr.1.2 hr.2 w hI hA
  · rw [k1 hV, if_neg hV]
    refine (Held_bad L a js ca aa l cl h dir tp hV w hI hA).mono ?_
    rintro e w' ⟨rfl, hb⟩
    exact ⟨none, 0, rfl, tri_nil _, hb⟩
end Go.Proofs.YtjoffnbpaebgjaaGreat
