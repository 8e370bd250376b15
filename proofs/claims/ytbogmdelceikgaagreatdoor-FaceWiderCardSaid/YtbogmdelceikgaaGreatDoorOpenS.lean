/-
  What Panel is given, as an argument: its lines in memory. By an AI agent.
-/
import Derived.Test.YtbogmdelceikgaaGreatDoorOpen
import Derived.Test.YtbogmdelceikgaaGreatDoorPanA
namespace Go.Proofs.YtbogmdelceikgaaGreatDoor
open Go.RowKit Go.ChangeShapes Go.WideShapes Go.ChangeAt

theorem cSheet : Tryz.prog.cellsOf 24 = 4 := by kernel_rfl
section
variable {H : Type} {enc : TypeId × Value → H} {W : World} {base : Nat} {sp : Nat → Bool} {held : Bool}

set_option maxRecDepth 100000 in
theorem open_lines {fuel : Nat} {v : Value} {y : DataW H × List MemPlace} (h : DataW.trod enc Tryz.prog W base sp held fuel 22 [v] = some y) :
    ∃ (a : Option Addr) (ls : List ByteArray) (cap : Nat), v = .slice a ls.length cap ∧ LinesAt W a ls := by
  rcases Go.Deep.open_slice Tryz.underlying22 h with ⟨hcs, _⟩ | ⟨a, len, cap, m, n, D, Pl, hcs, hb, hl, hm, hmm, hx, hi⟩
  · obtain rfl : v = .slice none 0 0 := by simpa using hcs
    exact ⟨none, [], 0, rfl, by decide, (fun x hx => absurd hx List.not_mem_nil), 0, 0, (fun h => absurd rfl h), fun i hi => absurd hi (Nat.not_lt_zero _)⟩
  · obtain rfl : v = .slice (some a) len cap := by simpa using hcs
    have hlm : len ≤ m := by rw [hmm]; split <;> omega
    have key0 : ∀ i, i < len → ∃ x : ByteArray, W.cell? (a.add i) = some (.string x) ∧ x.size ≤ maxLen := by
      intro i hil
      obtain ⟨cs, hc, ht⟩ := hi i (by omega)
      obtain ⟨hcl, _, hat⟩ := World.cells?_some hc
      rw [cStr] at hat hcl
      match cs, hcl with
      | [c0], _ =>
        obtain ⟨x, rfl, hxt⟩ := part_str rfl ht
        refine ⟨x, ?_, hxt⟩
        have h1 := hat 0 (by decide)
        rw [show (a.add (i * 1)).add 0 = a.add i from by rw [Nat.mul_one]; unfold Addr.add; simp] at h1
        exact h1
    have hspot : 0 < len → a.spot = none := by
      intro h0
      obtain ⟨x, hc, _⟩ := key0 0 h0
      have h1 := spot_none hc
      rwa [show a.add 0 = a from by unfold Addr.add; simp] at h1
    have key : ∀ i, i < len → ∃ x : ByteArray, W.cell? ⟨a.block, a.off + i, none⟩ = some (.string x) ∧ x.size ≤ maxLen := by
      intro i hil
      obtain ⟨x, hc, hxt⟩ := key0 i hil
      rw [add_at (hspot (by omega))] at hc
      exact ⟨x, hc, hxt⟩
    have hex : ∃ f : Nat → ByteArray, ∀ i, i < len → W.cell? ⟨a.block, a.off + i, none⟩ = some (.string (f i)) ∧ (f i).size ≤ maxLen :=
      ⟨fun i => if h : i < len then Classical.choose (key i h) else ByteArray.empty, fun i h => by
        simp only [dif_pos h]; exact Classical.choose_spec (key i h)⟩
    obtain ⟨f, hf⟩ := hex
    have hlen : ((List.range len).map f).length = len := by simp
    refine ⟨some a, (List.range len).map f, cap, by rw [hlen], ?_⟩
    refine ⟨by rw [hlen]; unfold maxLen at hm; omega, ?_, a.block, a.off, ?_, ?_⟩
    · intro x hx
      obtain ⟨i, hi1, rfl⟩ := List.mem_map.1 hx
      exact (hf i (List.mem_range.1 hi1)).2
    · intro hne
      have : 0 < len := by
        apply Nat.pos_of_ne_zero
        rintro rfl
        exact hne rfl
      have hs := hspot this
      cases a
      simp only at hs
      subst hs
      rfl
    · intro i hi1
      have hi2 : i < len := by simpa using hi1
      have := (hf i hi2).1
      simpa using this

set_option maxRecDepth 100000 in
/-- What Panel is given, by value. -/
theorem open_sheet {v : Value} {d : DataW H} {p : List MemPlace} (hv : Value.okWide Tryz.prog W .any base 24 v) (h : DataW.Trod enc Tryz.prog W 0 sp held 24 v d p) :
    ∃ (a : Option Addr) (ls : List ByteArray) (cap : Nat) (u g k : Int), v = .agg #[.slice a ls.length cap, .int .i64 u, .int .i64 g, .int .i64 k] ∧ LinesAt W a ls := by
  obtain ⟨v0, v1, v2, v3, y0, y1, y2, y3, n, rfl, _, _, h0, h1, h2, h3⟩ := Joins.open_agg4 Tryz.underlying24 (by kernel_rfl) cSheet hv h
  obtain ⟨a, ls, cap, rfl, hI⟩ := open_lines h0
  obtain ⟨u, rfl⟩ := part_int rfl h1
  obtain ⟨g, rfl⟩ := part_int rfl h2
  obtain ⟨k, rfl⟩ := part_int rfl h3
  exact ⟨a, ls, cap, u, g, k, rfl, hI⟩
end
end Go.Proofs.YtbogmdelceikgaaGreatDoor
