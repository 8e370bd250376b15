/-
  slices.SortFunc at the signs of a row. By an AI agent.
-/
import Derived.Test.YtiagflackfkmnaaGreatRuQ
import Derived.Shelf.SlSortCmp.NoneTotal
import Derived.Lib.OwnBridge
namespace Go.Proofs.YtiagflackfkmnaaGreat
set_option linter.unusedVariables false
set_option linter.unusedSimpArgs false
open Go.RowKit

/-- A sign of a row with where its covers lie. -/
abbrev PE := Pst × Option Addr × Nat
def encP (x : PE) : List Value := [.int .i64 x.1.s.n, .int .i64 x.1.s.k, .int .i64 x.1.s.v, .int .i64 x.1.s.c, .int .i64 x.1.s.d, .int .i64 x.1.s.rk, .int .i64 x.1.s.up, .int .i64 x.1.s.dn, .slice x.2.1 x.1.s.cv.length x.2.2, .int .i64 x.1.d, .int .i64 x.1.u, .bool x.1.b]
theorem encP_len (x : PE) : (encP x).length = 12 := rfl
theorem encP_one (x : PE) : ∀ v ∈ encP x, v.oneCell' = true := by
  intro v hv
  simp [encP] at hv
  rcases hv with rfl | rfl | rfl | rfl | rfl | rfl | rfl | rfl | rfl | rfl | rfl | rfl <;> rfl
instance : Inhabited Pst := ⟨⟨⟨0, 0, 0, 0, 0, 0, 0, 0, []⟩, 0, 0, false⟩⟩
def clP (l : List PE) : List Value := l.flatMap encP
theorem clP_app (l : List PE) (x : PE) : clP (l ++ [x]) = clP l ++ encP x := by simp [clP]
theorem clP_len (l : List PE) : (clP l).length = l.length * 12 := by
  induction l with
  | nil => rfl
  | cons p l ih => unfold clP at *; rw [List.flatMap_cons, List.length_append, ih, encP_len]; simp; omega
theorem clP_get : ∀ (l : List PE) (j : Nat), j < l.length * 12 → (clP l)[j]? = some ((encP l[j / 12]!)[j % 12]!)
  | [], j, h => by simp at h
  | p :: l, j, h => by
    unfold clP
    rw [List.flatMap_cons]
    by_cases h1 : j < 12
    · rw [List.getElem?_append_left (by rw [encP_len]; exact h1), show j / 12 = 0 by omega, show j % 12 = j by omega]
      have hl : j < (encP p).length := h1
      rw [List.getElem?_eq_getElem hl, getElem!_pos _ j hl]
      rfl
    · have ih := clP_get l (j - 12) (by simp at h; omega)
      unfold clP at ih
      rw [List.getElem?_append_right (by rw [encP_len]; omega), encP_len, ih, show j / 12 = (j - 12) / 12 + 1 by omega, show j % 12 = (j - 12) % 12 by omega]
      rfl
theorem holdsP {w : World} {base g c : Nat} {l : List PE} (h : w.ownsRow base 82 12 (.slice (some ⟨g, 0, none⟩) l.length c) l.length (clP l)) : Sort.HoldsK encP 12 w g 0 l.toArray := by
  intro j hj
  rw [Sort.size_flatK] at hj
  have hj2 : j < l.length * 12 := by simpa using hj
  rw [Sort.get_flatK _ _ _ _ hj, Nat.zero_add, World.ownsRow.cellAt h j (by omega), clP_get l j hj2]
  refine ⟨?_, World.ownsRow.frozenAt h j⟩
  have hd : j / 12 < l.length := by omega
  have e : l.toArray[j / 12]! = l[j / 12]! := by rw [getElem!_pos _ (j / 12) (by simpa using hd), getElem!_pos _ (j / 12) hd]; simp
  rw [e]; rfl
theorem cmp_lt (a b : Int) : Lib.compareInt a b < 0 ↔ a < b := by
  unfold Lib.compareInt; split
  · simp_all
  · split <;> simp_all
theorem cmp_eq (a b : Int) : Lib.compareInt a b = 0 ↔ a = b := by
  unfold Lib.compareInt; split
  · simp; omega
  · split <;> (simp; omega)
/-- Comes p ahead of q? -/
def ahdP (p q : Pst) : Prop := p.d < q.d ∨ (p.d = q.d ∧ (p.s.rk < q.s.rk ∨ (p.s.rk = q.s.rk ∧ p.s.n < q.s.n)))
theorem cmpP_lt (p q : Pst) : cmpP p q < 0 ↔ ahdP p q := by
  unfold cmpP ahdP
  have a0 := cmp_lt p.d q.d
  have a1 := cmp_eq p.d q.d
  have b0 := cmp_lt p.s.rk q.s.rk
  have b1 := cmp_eq p.s.rk q.s.rk
  have c0 := cmp_lt p.s.n q.s.n
  generalize Lib.compareInt p.d q.d = A at *
  generalize Lib.compareInt p.s.rk q.s.rk = B at *
  generalize Lib.compareInt p.s.n q.s.n = C at *
  by_cases hA : A = 0
  · rw [if_neg (by simp [hA])]
    by_cases hB : B = 0
    · rw [if_neg (by simp [hB]), c0]; have := a1.1 hA; have := b1.1 hB; omega
    · rw [if_pos hB, b0]; have := a1.1 hA; have := mt b1.2 hB; omega
  · rw [if_pos hA, a0]; have := mt a1.2 hA; omega
theorem ltP (x y : PE) : ltOf (fun x y : PE => cmpP x.1 y.1) x y = decide (cmpP x.1 y.1 < 0) := rfl
theorem swoP : Sort.SWO (ltOf fun x y : PE => cmpP x.1 y.1) where
  irrefl x := by rw [ltP, decide_eq_false_iff_not, cmpP_lt]; unfold ahdP; omega
  trans x y z h1 h2 := by rw [ltP, decide_eq_true_eq, cmpP_lt] at *; unfold ahdP at *; omega
  ntrans x y z h1 h2 := by rw [ltP, decide_eq_false_iff_not, cmpP_lt] at *; unfold ahdP at *; omega
/-- slices.SortFunc at a row. -/
theorem sortP_r (base g c B Fb : Nat) (l : List PE) (w : World) (h : w.ownsRow base 82 12 (.slice (some ⟨g, 0, none⟩) l.length c) l.length (clP l)) (hn : l.length ≤ 100000000) (cB : w.cell? ⟨B, 0, none⟩ = some (.slice (some ⟨Fb, 0, none⟩) 3 3))
    (f0 : w.cell? ⟨Fb, 0, none⟩ = some (.func (.func 84) #[] #[])) (f1 : w.cell? ⟨Fb, 1, none⟩ = some (.func (.func 85) #[] #[])) (f2 : w.cell? ⟨Fb, 2, none⟩ = some (.func (.func 86) #[] #[])) (hB : B ≠ g) (hF : Fb ≠ g) :
    Calls Tryz.prog 82 #[.slice (some ⟨g, 0, none⟩) l.length c, .func (.func 120) #[] #[.pointer (some ⟨B, 0, none⟩)]] w fun e w' => e = .returned (.tuple #[]) ∧ ∃ d : Array PE, d.toList.Perm l ∧ d.size = l.length ∧ (∀ i j, i < j → j < d.size → ¬ ahdP d[j]!.1 d[i]!.1) ∧ Sort.HoldsK encP 12 w' g 0 d ∧ Below base w w' := by
  have eg : ∀ args w, (callFunc 120 args).run Tryz.prog w = .ok (.enter 120 args) w := enters_of Tryz.func120 (by kernel_rfl) rfl
  obtain ⟨hg1, hg2⟩ : base ≤ g ∧ g < w.heap.size := by
    rcases h.2 with ⟨h1, h2⟩ | ⟨g2, c2, cur, h1, h2, h3, h4⟩
    · cases h1
    · have e : g = g2 := by simpa using (Value.slice.inj h1).1
      subst e
      exact ⟨h2, (Array.getElem?_eq_some_iff.1 h3).1⟩
  have hcmp : CmpLays Tryz.prog 120 #[.pointer (some ⟨B, 0, none⟩)] encP 12 (fun x y : PE => cmpP x.1 y.1) g 0 l.toArray.size w := fun m os dk _ x y => by
    have k := fun (b o : Nat) (v : Value) (hb : b ≠ g) (hv : w.cell? ⟨b, o, none⟩ = some v) => (cell?_sortWorldK_other encP 12 w g 0 m dk os ⟨b, o, none⟩ hb (block_lt hv)).trans hv
    exact by_r x.1 y.1 x.2.1 y.2.1 x.2.2 y.2.2 B Fb _ (k B 0 _ hB cB) (k Fb 0 _ hF f0) (k Fb 1 _ hF f1) (k Fb 2 _ hF f2)
  have hcon := AnyQ.slices_SortFunc Tryz.laysSortP 12 Tryz.isAgg82 Tryz.sizeOf82 encP encP_len encP_one (fun x y : PE => cmpP x.1 y.1) swoP 120 #[.pointer (some ⟨B, 0, none⟩)] g 0 c l.toArray w eg hcmp (holdsP h) hg2 (by simp; omega)
  change Calls Tryz.prog 82 _ _ _ at hcon
  rw [show l.toArray.size = l.length by simp] at hcon
  refine hcon.mono ?_
  rintro e w' ⟨he, d', n, os, ⟨hs, -, hp⟩, hso, rfl⟩
  have hs2 : d'.size = l.length := by simpa using hs
  refine ⟨he, d', ?_, hs2, ?_, holdsK_sortWorldK encP 12 w g 0 n l.toArray d' os hg2 (holdsP h) hs, ?_⟩
  · have e1 : (d'.extract 0 l.length).toList = d'.toList := by rw [← hs2]; simp
    have e2 : (l.toArray.extract 0 l.length).toList = l := by simp
    rw [e1, e2] at hp
    exact hp
  · intro i j hij hj
    have := hso i j (Nat.zero_le _) hij (by omega)
    rw [ltP, decide_eq_false_iff_not, cmpP_lt] at this
    exact this
  · have b1 : Below base w (Sort.putRowK encP 12 (Sort.ahead w n) g 0 d') := Lib.below_putRow (Below.refl _ _) hg1
    exact b1.trans (by
      have := Lib.below_grow base (Sort.putRowK encP 12 (Sort.ahead w n) g 0 d') (by have := b1.size; omega) 0 os
      exact this)
theorem sortPNil_r (c : Nat) (fv : Value) (w : World) : Calls Tryz.prog 82 #[.slice none 0 c, fv] w fun e w' => e = .returned (.tuple #[]) ∧ w' = w := by
  have := AnyF.slices_SortFunc_none Tryz.laysSortP none c fv w
  change Calls Tryz.prog 82 _ _ _ at this
  exact this
end Go.Proofs.YtiagflackfkmnaaGreat
