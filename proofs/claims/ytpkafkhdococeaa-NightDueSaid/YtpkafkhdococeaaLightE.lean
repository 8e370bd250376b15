/-
  The walks of coefficient and of the reference's Coefficient. By an AI agent.
-/
import Derived.Test.YtpkafkhdococeaaLightD
namespace Go.Proofs.Ytpkafkhdococeaa
set_option linter.unusedVariables false
set_option linter.unusedSimpArgs false
open Go.RowKit

/-- What a walk reads of a cell of a table. -/
theorem table_cell {w : World} {ao ae ar : Option Addr} {o e : List Int} {r : List (List Int)} (hT : TableS w ao ae ar o e r) (hk : TableOk o e r) {i k : Nat} (hi : i < o.length) (hk2 : k < e.length) :
    ∃ (bo fo be fe br fr b f : Nat) (cp : Nat), ao = some ⟨bo, fo, none⟩ ∧ ae = some ⟨be, fe, none⟩ ∧ ar = some ⟨br, fr, none⟩ ∧ w.cell? ⟨bo, fo + i, none⟩ = some (.int .i64 (gi o i)) ∧ w.cell? ⟨be, fe + k, none⟩ = some (.int .i64 (gi e k)) ∧
      w.cell? ⟨br, fr + i, none⟩ = some (.slice (some ⟨b, f, none⟩) e.length cp) ∧ w.cell? ⟨b, f + k, none⟩ = some (.int .i64 (gi (gr r i) k)) := by
  obtain ⟨⟨_, _, bo, fo, ho1, ho2⟩, ⟨_, _, be, fe, he1, he2⟩, _, br, fr, ad, cp, hr1, hr2⟩ := hT
  have hrl : i < r.length := by rw [hk.2.2.1]; exact hi
  obtain ⟨hr3, ⟨_, _, b, f, h1, h2⟩, _⟩ := hr2 i hrl
  have hl := (hk.2.2.2 i hrl).1
  refine ⟨bo, fo, be, fe, br, fr, b, f, cp i, ho1 (fun h => by rw [h] at hi; simp at hi), he1 (fun h => by rw [h] at hk2; simp at hk2), hr1 (fun h => by rw [h] at hrl; simp at hrl), ho2 i hi, he2 k hk2, ?_, h2 k (by omega)⟩
  rw [hr3, h1 (fun h => by rw [h] at hl; simp at hl; omega), hl]
/-- A two by two part of a table, in memory. -/
structure Part (w : World) (ao ae ar : Option Addr) (i k le : Nat) (o1 o2 e1 e2 r1 r2 s1 s2 : Int) (bo fo be fe br fr b f b' f' cp cp' : Nat) : Prop where
  ho : ao = some ⟨bo, fo, none⟩
  he : ae = some ⟨be, fe, none⟩
  hr : ar = some ⟨br, fr, none⟩
  c1 : w.cell? ⟨bo, fo + i, none⟩ = some (.int .i64 o1)
  c2 : w.cell? ⟨bo, fo + (i + 1), none⟩ = some (.int .i64 o2)
  c3 : w.cell? ⟨be, fe + k, none⟩ = some (.int .i64 e1)
  c4 : w.cell? ⟨be, fe + (k + 1), none⟩ = some (.int .i64 e2)
  c5 : w.cell? ⟨br, fr + i, none⟩ = some (.slice (some ⟨b, f, none⟩) le cp)
  c6 : w.cell? ⟨br, fr + (i + 1), none⟩ = some (.slice (some ⟨b', f', none⟩) le cp')
  c7 : w.cell? ⟨b, f + k, none⟩ = some (.int .i64 r1)
  c8 : w.cell? ⟨b, f + (k + 1), none⟩ = some (.int .i64 r2)
  c9 : w.cell? ⟨b', f' + k, none⟩ = some (.int .i64 s1)
  c10 : w.cell? ⟨b', f' + (k + 1), none⟩ = some (.int .i64 s2)
theorem part_of {w : World} {ao ae ar : Option Addr} {o e : List Int} {r : List (List Int)} (hT : TableS w ao ae ar o e r) (hk : TableOk o e r) {i k : Nat} (hi : i + 1 < o.length) (hk2 : k + 1 < e.length) :
    ∃ (bo fo be fe br fr b f b' f' cp cp' : Nat), Part w ao ae ar i k e.length (gi o i) (gi o (i + 1)) (gi e k) (gi e (k + 1)) (gi (gr r i) k) (gi (gr r i) (k + 1)) (gi (gr r (i + 1)) k) (gi (gr r (i + 1)) (k + 1)) bo fo be fe br fr b f b' f' cp cp' := by
  obtain ⟨bo, fo, be, fe, br, fr, b, f, cp, h1, h2, h3, a1, a2, a3, a4⟩ := table_cell hT hk (show i < o.length by omega) (show k < e.length by omega)
  obtain ⟨bo', fo', be', fe', br', fr', b', f', cp', h1', h2', h3', a1', a2', a3', a4'⟩ := table_cell hT hk hi hk2
  rw [h1] at h1'
  rw [h2] at h2'
  rw [h3] at h3'
  simp only [Option.some.injEq, Addr.mk.injEq, and_true] at h1' h2' h3'
  obtain ⟨rfl, rfl⟩ := h1'
  obtain ⟨rfl, rfl⟩ := h2'
  obtain ⟨rfl, rfl⟩ := h3'
  obtain ⟨_, _, _, _, _, _, b1, f1, cp1, g1, g2, g3, _, _, d3, d4⟩ := table_cell hT hk (show i < o.length by omega) hk2
  rw [h1] at g1
  rw [h2] at g2
  rw [h3] at g3
  simp only [Option.some.injEq, Addr.mk.injEq, and_true] at g1 g2 g3
  obtain ⟨rfl, rfl⟩ := g1
  obtain ⟨rfl, rfl⟩ := g2
  obtain ⟨rfl, rfl⟩ := g3
  rw [a3] at d3
  simp only [Option.some.injEq, Value.slice.injEq, Addr.mk.injEq, and_true, true_and] at d3
  obtain ⟨⟨rfl, rfl⟩, rfl⟩ := d3
  obtain ⟨_, _, _, _, _, _, b1, f1, cp1, g1, g2, g3, _, _, d3, d5⟩ := table_cell hT hk hi (show k < e.length by omega)
  rw [h1] at g1
  rw [h2] at g2
  rw [h3] at g3
  simp only [Option.some.injEq, Addr.mk.injEq, and_true] at g1 g2 g3
  obtain ⟨rfl, rfl⟩ := g1
  obtain ⟨rfl, rfl⟩ := g2
  obtain ⟨rfl, rfl⟩ := g3
  rw [a3'] at d3
  simp only [Option.some.injEq, Value.slice.injEq, Addr.mk.injEq, and_true, true_and] at d3
  obtain ⟨⟨rfl, rfl⟩, rfl⟩ := d3
  exact ⟨_, _, _, _, _, _, _, _, _, _, _, _, h1, h2, h3, a1, a1', a2, a2', a3, a3', a4, d4, d5, a4'⟩
theorem mul_small {a b A B : Int} (h0 : 0 ≤ a) (h1 : a ≤ A) (h2 : 0 ≤ b) (h3 : b ≤ B) : ∃ q, a * b = q ∧ 0 ≤ q ∧ q ≤ A * B := ⟨_, rfl, prod_bd h0 h1 h2 h3⟩

end Go.Proofs.Ytpkafkhdococeaa
