/-
  A face that comes in as an argument: its fields, and its items in memory. By an AI agent.
-/
import Derived.Test.YtbogmdelceikgaaGreatDoorLaid
import Derived.Test.YtbogmdelceikgaaGreatDoorFaceF
import Derived.Lib.SmallJoins
import Derived.Deep.Slices
namespace Go.Proofs.YtbogmdelceikgaaGreatDoor
open Go.RowKit Go.ChangeShapes Go.WideShapes Go.ChangeAt

theorem cItem : Tryz.prog.cellsOf 33 = 7 := by kernel_rfl
theorem cFace : Tryz.prog.cellsOf 28 = 4 := by kernel_rfl
section
variable {H : Type} {enc : TypeId × Value → H} {W : World} {base : Nat} {sp : Nat → Bool} {held : Bool}

/-- A part of a list of cells that reads as a field of one cell. -/
theorem part_int {n : Nat} {c : Value} {o : Option (DataW H × List MemPlace)} {y : DataW H × List MemPlace} (ho : o = some y) (h : DataW.trod enc Tryz.prog W base sp held n 3 [c] = o) : ∃ z : Int, c = .int .i64 z := by
  obtain ⟨z, e, _, _⟩ := DataW.trod_int Tryz.underlying3 (h.trans ho)
  exact ⟨z, by simpa using e⟩
theorem part_str {n : Nat} {c : Value} {o : Option (DataW H × List MemPlace)} {y : DataW H × List MemPlace} (ho : o = some y) (h : DataW.trod enc Tryz.prog W base sp held n 9 [c] = o) : ∃ t : ByteArray, c = .string t ∧ t.size ≤ maxLen := by
  obtain ⟨t, e, _, ht⟩ := DataW.trod_string Tryz.underlying9 (h.trans ho)
  exact ⟨t, by simpa using e, ht⟩
set_option maxRecDepth 100000 in
theorem item_of {n : Nat} {cs : List Value} {y : DataW H × List MemPlace} (h : DataW.trod enc Tryz.prog W base sp held n 33 cs = some y) :
    ∃ x : It, cs = [.int .i64 x.k, .int .i64 x.c, .int .i64 x.l, .int .i64 x.o, .int .i64 x.a, .int .i64 x.b, .string x.t] ∧ x.t.size ≤ maxLen := by
  obtain ⟨xs, n', _, _, hl, hxl, hf⟩ := DataW.trod_struct Tryz.underlying33 h
  have hlen : cs.length = 7 := hl.trans cItem
  match cs, hlen with
  | [c0, c1, c2, c3, c4, c5, c6], _ =>
    match xs, hxl with
    | [y0, y1, y2, y3, y4, y5, y6], _ =>
      have g0 := hf 0 _ rfl
      have g1 := hf 1 _ rfl
      have g2 := hf 2 _ rfl
      have g3 := hf 3 _ rfl
      have g4 := hf 4 _ rfl
      have g5 := hf 5 _ rfl
      have g6 := hf 6 _ rfl
      simp only [List.getElem?_cons_zero, List.getElem?_cons_succ] at g0 g1 g2 g3 g4 g5 g6
      obtain ⟨k, rfl⟩ := part_int rfl g0
      obtain ⟨c, rfl⟩ := part_int rfl g1
      obtain ⟨l, rfl⟩ := part_int rfl g2
      obtain ⟨o, rfl⟩ := part_int rfl g3
      obtain ⟨a, rfl⟩ := part_int rfl g4
      obtain ⟨b, rfl⟩ := part_int rfl g5
      obtain ⟨t, rfl, ht⟩ := part_str rfl g6
      exact ⟨⟨k, c, l, o, a, b, t⟩, rfl, ht⟩
theorem add_at {a : Addr} (h : a.spot = none) (n : Nat) : a.add n = ⟨a.block, a.off + n, none⟩ := by
  unfold Addr.add
  split
  · rename_i h0; subst h0; cases a; simp only at h; subst h; rfl
  · rfl
theorem spot_none {w : World} {a : Addr} {v : Value} (h : w.cell? a = some v) : a.spot = none := by
  unfold World.cell? at h
  split at h
  · split at h
    · cases h
    · rename_i hs; simpa using hs
  · cases h
set_option maxRecDepth 100000 in
theorem open_items {fuel : Nat} {v : Value} {y : DataW H × List MemPlace} (h : DataW.trod enc Tryz.prog W base sp held fuel 26 [v] = some y) :
    ∃ (a : Option Addr) (its : List It) (cap : Nat), v = .slice a its.length cap ∧ ItemsAt W a its := by
  rcases Go.Deep.open_slice Tryz.underlying26 h with ⟨hcs, _⟩ | ⟨a, len, cap, m, n, D, Pl, hcs, hb, hl, hm, hmm, hx, hi⟩
  · obtain rfl : v = .slice none 0 0 := by simpa using hcs
    exact ⟨none, [], 0, rfl, by decide, (fun x hx => absurd hx List.not_mem_nil), 0, 0, (fun h => absurd rfl h), fun i hi => absurd hi (Nat.not_lt_zero _)⟩
  · obtain rfl : v = .slice (some a) len cap := by simpa using hcs
    have hlm : len ≤ m := by rw [hmm]; split <;> omega
    have hspot : 0 < len → a.spot = none := by
      intro h0
      obtain ⟨cs, hc, ht⟩ := hi 0 (by omega)
      obtain ⟨x, rfl, _⟩ := item_of ht
      obtain ⟨_, _, hat⟩ := World.cells?_some hc
      rw [cItem] at hat
      have h1 := spot_none (hat 0 (by decide))
      rw [show (a.add (0 * 7)).add 0 = a from by unfold Addr.add; simp] at h1
      exact h1
    have key : ∀ i, i < len → ∃ x : It, ItemAt W a.block (a.off + i * 7) x ∧ x.t.size ≤ maxLen := by
      intro i hil
      obtain ⟨cs, hc, ht⟩ := hi i (by omega)
      obtain ⟨x, rfl, hxt⟩ := item_of ht
      obtain ⟨_, _, hat⟩ := World.cells?_some hc
      rw [cItem] at hat
      have hs := hspot (by omega)
      have e : ∀ j, ((a.add (i * 7)).add j) = ⟨a.block, a.off + i * 7 + j, none⟩ := fun j => by rw [add_at hs, add_at rfl]
      refine ⟨x, ⟨?_, ?_, ?_, ?_, ?_, ?_, ?_⟩, hxt⟩
      · have := hat 0 (by decide); rw [e] at this; exact this
      · have := hat 1 (by decide); rw [e] at this; exact this
      · have := hat 2 (by decide); rw [e] at this; exact this
      · have := hat 3 (by decide); rw [e] at this; exact this
      · have := hat 4 (by decide); rw [e] at this; exact this
      · have := hat 5 (by decide); rw [e] at this; exact this
      · have := hat 6 (by decide); rw [e] at this; exact this
    have hex : ∃ f : Nat → It, ∀ i, i < len → ItemAt W a.block (a.off + i * 7) (f i) ∧ (f i).t.size ≤ maxLen :=
      ⟨fun i => if h : i < len then Classical.choose (key i h) else ⟨0, 0, 0, 0, 0, 0, ByteArray.empty⟩, fun i h => by
        simp only [dif_pos h]; exact Classical.choose_spec (key i h)⟩
    obtain ⟨f, hf⟩ := hex
    have hlen : ((List.range len).map f).length = len := by simp
    refine ⟨some a, (List.range len).map f, cap, by rw [hlen], ?_⟩
    refine ⟨by rw [hlen]; unfold maxLen at hm; omega, ?_, a.block, a.off, ?_, ?_⟩
    · intro x hx
      obtain ⟨i, hi1, rfl⟩ := List.mem_map.1 hx
      exact (hf i (List.mem_range.1 hi1)).2
    · intro hne
      have : 0 < len := by
        apply Nat.pos_of_ne_zero
        rintro rfl
        exact hne rfl
      have hs := hspot this
      cases a
      simp only at hs
      subst hs
      rfl
    · intro i hi1
      have hi2 : i < len := by simpa using hi1
      have := (hf i hi2).1
      simpa using this

set_option maxRecDepth 100000 in
/-- A face by value. -/
theorem open_face {v : Value} {d : DataW H} {p : List MemPlace} (hv : Value.okWide Tryz.prog W .any base 28 v) (h : DataW.Trod enc Tryz.prog W 0 sp held 28 v d p) :
    ∃ (sh sz hh : Int) (a : Option Addr) (its : List It) (cap : Nat), v = .agg #[.int .i64 sh, .int .i64 sz, .int .i64 hh, .slice a its.length cap] ∧ ItemsAt W a its := by
  obtain ⟨v0, v1, v2, v3, y0, y1, y2, y3, n, rfl, _, _, h0, h1, h2, h3⟩ := Joins.open_agg4 Tryz.underlying28 (by kernel_rfl) cFace hv h
  obtain ⟨sh, rfl⟩ := part_int rfl h0
  obtain ⟨sz, rfl⟩ := part_int rfl h1
  obtain ⟨hh, rfl⟩ := part_int rfl h2
  obtain ⟨a, its, cap, rfl, hI⟩ := open_items h3
  exact ⟨sh, sz, hh, a, its, cap, rfl, hI⟩
end
end Go.Proofs.YtbogmdelceikgaaGreatDoor
