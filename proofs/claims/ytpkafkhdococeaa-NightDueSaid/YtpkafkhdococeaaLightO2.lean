/-
  Faces with measures, opened with their capacity. By an AI agent.
-/
import Derived.Test.YtpkafkhdococeaaLightO
namespace Go.Proofs.Ytpkafkhdococeaa
open Go.RowKit Go.ChangeShapes Go.WideShapes Go.ChangeAt
set_option maxRecDepth 100000
set_option linter.unusedVariables false
section
variable {H : Type} {enc : TypeId × Value → H} {W : World} {base : Nat} {sp : Nat → Bool} {held : Bool}
/-- A slice of structs of two ints. -/
theorem open_pairs2 {t e : TypeId} {f0 f1 : Field} (ht : Try.prog.underlying t = some (.slice e)) (he : Try.prog.underlying e = some (.struct #[f0, f1])) (hC : Try.prog.cellsOf e = 2) (o0 : f0.offset = 0) (o1 : f1.offset = 1) (t0 : f0.type = 3) (t1 : f1.type = 3)
    {fuel : Nat} {v : Value} {y : DataW H × List MemPlace} (h : DataW.trod enc Try.prog W base sp held fuel t [v] = some y) :
    ∃ (a : Option Addr) (l : List (Int × Int)) (cap : Nat), v = .slice a l.length cap ∧ PairsS W a l ∧ l.length ≤ cap := by
  rcases Go.Deep.open_slice ht h with ⟨hcs, _⟩ | ⟨a, len, cap, m, n, D, Pl, hcs, hb, hl, hm, hmm, hx, hi⟩
  · obtain rfl : v = .slice none 0 0 := by simpa using hcs
    exact ⟨none, [], 0, rfl, ⟨by simp, fun i hi => absurd hi (Nat.not_lt_zero _), 0, 0, (fun h => absurd rfl h), fun i hi => absurd hi (Nat.not_lt_zero _)⟩, Nat.le_refl _⟩
  · obtain rfl : v = .slice (some a) len cap := by simpa using hcs
    have hlm : len ≤ m := by rw [hmm]; split <;> omega
    rw [hC] at hi
    have key0 : ∀ i, i < len → ∃ x : Int × Int, (W.cell? ((a.add (i * 2)).add 0) = some (.int .i64 x.1) ∧ W.cell? ((a.add (i * 2)).add 1) = some (.int .i64 x.2)) ∧ (I64 x.1 ∧ I64 x.2) := fun i hil => by
      obtain ⟨cs, hc, htr⟩ := hi i (by omega)
      obtain ⟨hcl, _, hat⟩ := World.cells?_some hc
      match cs, hcl with
      | [c0, c1], _ =>
        obtain ⟨y0, y1, n', _, _, g0, g1⟩ := trod_struct2 he htr
        rw [o0, t0, cInt] at g0
        rw [o1, t1, cInt] at g1
        obtain ⟨z0, rfl, b0⟩ := part_int rfl g0
        obtain ⟨z1, rfl, b1⟩ := part_int rfl g1
        exact ⟨(z0, z1), ⟨hat 0 (by decide), hat 1 (by decide)⟩, b0, b1⟩
    have hspot : 0 < len → a.spot = none := fun h0 => by
      obtain ⟨x, ⟨hc, _⟩, _⟩ := key0 0 h0
      rw [show 0 * 2 = 0 from rfl, add_zero, add_zero] at hc
      exact spot_none hc
    obtain ⟨f, hf⟩ := Go.Deep.choose_lt (α := Int × Int) (n := len) (p := fun i x => (W.cell? ((a.add (i * 2)).add 0) = some (.int .i64 x.1) ∧ W.cell? ((a.add (i * 2)).add 1) = some (.int .i64 x.2)) ∧ (I64 x.1 ∧ I64 x.2)) key0
    refine ⟨some a, (List.range len).map f, cap, by simp, ⟨by simp; unfold maxLen at hm; omega, ?_, a.block, a.off, ?_, ?_⟩, by simpa using hl⟩
    · intro i hi
      have hi : i < len := by simpa using hi
      rw [gp_map f hi]
      exact (hf i hi).2
    · intro hne
      rw [← addr_of (hspot (ne_pos hne))]
    · intro i hi
      have hi : i < len := by simpa using hi
      have hs := hspot (by omega)
      have := (hf i hi).1
      rw [add_at hs, add_zero, add_at rfl] at this
      rw [gp_map f hi]
      exact this
end
end Go.Proofs.Ytpkafkhdococeaa
