/-
  slices.SortFunc at spans with the comparison of package sheet's Clear. By an AI agent.
-/
import Derived.Test.YthiaefhejdfobaaGreatRoadR
import Derived.Test.YthiaefhejdfobaaGreatSheC
namespace Go.Proofs.YthiaefhejdfobaaGreat
set_option linter.unusedVariables false
set_option linter.unusedSimpArgs false
open Go.RowKit

theorem closC_any (x y : Int × Int) (W : World) : Calls Tryz.prog 68 #[.agg #[.int .i64 x.1, .int .i64 x.2], .agg #[.int .i64 y.1, .int .i64 y.2]] W fun e w' => e = .returned (.int .i64 (Lib.compareInt x.1 y.1)) ∧ ∃ q os', w' = Sort.grow (W.drewN q) os' := by
  have hcon := fun W' => compare_any x.1 y.1 W'
  generalize Lib.compareInt x.1 y.1 = r at hcon ⊢
  go_enter Tryz.func68, Tryz.ntmps68
  go_wp2_with (go_at_call 37; refine (hcon _).mono ?_; rintro e w' ⟨rfl, rfl⟩)
  go_ret
  exact ⟨rfl, 0, _, by rw [Sort.alloc_eq_grow, Sort.alloc_eq_grow, Sort.grow_grow]; rfl⟩
theorem cmpC_lays (blk off size : Nat) (w : World) : CmpLays Tryz.prog 68 #[] encS 2 (fun x y => Lib.compareInt x.1 y.1) blk off size w :=
  fun _ _ _ _ x y => closC_any x y _
/-- slices.SortFunc at stretches, by where they begin. -/
theorem sortC_any (base g c : Nat) (l : List Spn) (w : World) (h : w.ownsRow base 86 2 (.slice (some ⟨g, 0, none⟩) l.length c) l.length (clS l)) (hn : l.length ≤ 100000000) :
    Calls Tryz.prog 67 #[.slice (some ⟨g, 0, none⟩) l.length c, .func (.func 68) #[] #[]] w fun e w' => e = .returned (.tuple #[]) ∧ ∃ d : List Spn, d.Perm l ∧ AscF d ∧ (∀ i, i < d.length → w'.cell? ⟨g, i * 2, none⟩ = some (.int .i64 (gp d i).1) ∧ w'.cell? ⟨g, i * 2 + 1, none⟩ = some (.int .i64 (gp d i).2)) ∧ Below base w w' := by
  have eg : ∀ args w, (callFunc 68 args).run Tryz.prog w = .ok (.enter 68 args) w := enters_of Tryz.func68 (by kernel_rfl) rfl
  obtain ⟨hg1, hg2⟩ : base ≤ g ∧ g < w.heap.size := by
    rcases h.2 with ⟨h1, h2⟩ | ⟨g2, c2, cur, h1, h2, h3, h4⟩
    · cases h1
    · have e : g = g2 := by simpa using (Value.slice.inj h1).1
      subst e
      refine ⟨h2, ?_⟩
      apply Nat.lt_of_not_le
      intro hle
      rw [Array.getElem?_eq_none hle] at h3
      cases h3
  have hcon := AnyQ.slices_SortFunc Tryz.laysSort 2 Tryz.isAgg86 Tryz.sizeOf86 encS (fun _ => rfl) (fun x v hv => by simp [encS] at hv; rcases hv with rfl | rfl <;> rfl) (fun x y => Lib.compareInt x.1 y.1) swoU 68 #[] g 0 c l.toArray w eg (cmpC_lays g 0 l.toArray.size w) (holds_own h) hg2 (by simp; omega)
  change Calls Tryz.prog 67 _ _ _ at hcon
  rw [show l.toArray.size = l.length by simp] at hcon
  refine hcon.mono ?_
  rintro e w' ⟨he, d', n, os, ⟨hs, -, hp⟩, hso, rfl⟩
  have hs2 : d'.size = l.length := by simpa using hs
  have hH := holdsK_sortWorldK encS 2 w g 0 n l.toArray d' os hg2 (holds_own h) hs
  refine ⟨he, d'.toList, ?_, ?_, ?_, ?_⟩
  · have e1 : (d'.extract 0 l.length).toList = d'.toList := by rw [← hs2]; simp
    have e2 : (l.toArray.extract 0 l.length).toList = l := by simp
    rw [e1, e2] at hp
    exact hp
  · intro i j hij hj
    have hj : j < d'.size := by simpa using hj
    have := hso i j (Nat.zero_le _) hij (by omega)
    rw [ltU] at this
    rw [gp_arr d' hj, gp_arr d' (by omega)]
    simp at this
    exact this
  · intro i hi
    have hi : i < d'.size := by simpa using hi
    have c0 := (hH.cell hi (c := 0) (by omega)).1
    have c1 := (hH.cell hi (c := 1) (by omega)).1
    rw [Nat.zero_add] at c0 c1
    rw [gp_arr d' hi]
    exact ⟨c0, c1⟩
  · have b1 : Below base w (Sort.putRowK encS 2 (Sort.ahead w n) g 0 d') := Lib.below_putRow (Below.refl _ _) hg1
    exact b1.trans (by
      have := Lib.below_grow base (Sort.putRowK encS 2 (Sort.ahead w n) g 0 d') (by have := b1.size; omega) 0 os
      exact this)
end Go.Proofs.YthiaefhejdfobaaGreat
