/-
  Rows of signs in order, in memory, and what the second loop of rowOf makes of them. By an AI agent.
-/
import Derived.Test.YtiagflackfkmnaaGreatRuR
import Derived.Test.YtiagflackfkmnaaGreatStepU
import Derived.Laws.EntriesVeiled
namespace Go.Proofs.YtiagflackfkmnaaGreat
set_option linter.unusedVariables false
set_option linter.unusedSimpArgs false
open Go.RowKit Go.Shelf

/-- Values from the head of a block on, which may be stored to. -/
def CelP (w : World) (g : Nat) (L : List Value) : Prop := ∀ j u, L[j]? = some u → w.cell? ⟨g, j, none⟩ = some u ∧ w.frozen? ⟨g, j, none⟩ = false
theorem CelP.same {w w' : World} {g : Nat} {L : List Value} (h : CelP w g L) (hb : w'.heap[g]? = w.heap[g]?) : CelP w' g L := fun j u hu =>
  ⟨(World.cell?_of_block (w := w) (w' := w') (a := ⟨g, j, none⟩) hb).trans (h j u hu).1, (World.frozen?_of_block (w := w) (w' := w') (a := ⟨g, j, none⟩) hb).trans (h j u hu).2⟩
theorem CelP.below {w w' : World} {g : Nat} {L : List Value} (h : CelP w g L) (hb : Below w.heap.size w w') : CelP w' g L := fun j u hu =>
  ⟨cell_below (h j u hu).1 hb, (hb.frozen (p := ⟨g, j, none⟩) (block_lt (h j u hu).1)).trans (h j u hu).2⟩
theorem CelP.drew {w : World} {g : Nat} {L : List Value} (h : CelP w g L) : CelP w.drew g L := h
theorem CelP.set {w : World} {g : Nat} {L : List Value} (h : CelP w g L) {j : Nat} {v : Value} (hj : j < L.length) : CelP (w.setCell ⟨g, j, none⟩ v) g (L.set j v) := by
  intro i u hu
  rw [List.getElem?_set] at hu
  have hc := (h j L[j] (List.getElem?_eq_getElem hj)).1
  by_cases e : j = i
  · subst e
    simp [hj] at hu
    subst hu
    have hf := (h j L[j] (List.getElem?_eq_getElem hj)).2
    exact ⟨by simp [go_sem, hc], by simp [go_sem, hf]⟩
  · rw [if_neg e] at hu
    obtain ⟨h1, h2⟩ := h i u hu
    refine ⟨?_, ?_⟩
    · rw [World.cell?_setCell_other _ _ _ _ (by intro q; apply e; simpa using congrArg Addr.off q)]; exact h1
    · simpa [go_sem] using h2
theorem clP_c : ∀ (s : List PE) (i : Nat), i < s.length → ∀ c, c < 12 → (clP s)[i * 12 + c]? = (encP s[i]!)[c]?
  | [], i, hi, c, hc => by simp at hi
  | p :: s, 0, hi, c, hc => by
    unfold clP
    rw [List.flatMap_cons, List.getElem?_append_left (by rw [encP_len]; omega), Nat.zero_mul, Nat.zero_add]; rfl
  | p :: s, i + 1, hi, c, hc => by
    have ih := clP_c s i (by simpa using hi) c hc
    unfold clP at *
    rw [List.flatMap_cons, List.getElem?_append_right (by rw [encP_len]; omega), encP_len, show (i + 1) * 12 + c - 12 = i * 12 + c by omega, ih]; rfl
theorem clP_setb : ∀ (s : List PE) (i : Nat) (b : Bool), i < s.length → (clP s).set (i * 12 + 11) (.bool b) = clP (s.set i ({ s[i]!.1 with b := b }, s[i]!.2))
  | [], i, b, hi => by simp at hi
  | p :: s, 0, b, hi => by simp [clP, encP]
  | p :: s, i + 1, b, hi => by
    have ih := clP_setb s i b (by simpa using hi)
    unfold clP at *
    rw [List.flatMap_cons, List.set_append_right _ _ (by rw [encP_len]; omega), encP_len, show (i + 1) * 12 + 11 - 12 = i * 12 + 11 by omega, ih]
    rfl
theorem clP_setu : ∀ (s : List PE) (i : Nat) (u : Int), i < s.length → (clP s).set (i * 12 + 10) (.int .i64 u) = clP (s.set i ({ s[i]!.1 with u := u }, s[i]!.2))
  | [], i, u, hi => by simp at hi
  | p :: s, 0, u, hi => by simp [clP, encP]
  | p :: s, i + 1, u, hi => by
    have ih := clP_setu s i u (by simpa using hi)
    unfold clP at *
    rw [List.flatMap_cons, List.set_append_right _ _ (by rw [encP_len]; omega), encP_len, show (i + 1) * 12 + 10 - 12 = i * 12 + 10 by omega, ih]
    rfl
theorem celP_holds {w : World} {g : Nat} {d : Array PE} (h : Sort.HoldsK encP 12 w g 0 d) : CelP w g (clP d.toList) := by
  intro j u hu
  have hj : j < d.size * 12 := by
    have := (List.getElem?_eq_some_iff.1 hu).1
    rw [clP_len] at this
    simpa using this
  have h9 := h j (by rw [Sort.size_flatK]; exact hj)
  rw [Sort.get_flatK _ _ _ _ hj, Nat.zero_add] at h9
  rw [clP_get d.toList j (by simpa using hj)] at hu
  have e : d[j / 12]! = d.toList[j / 12]! := by
    have hd : j / 12 < d.size := by omega
    rw [getElem!_pos _ (j / 12) hd, getElem!_pos _ (j / 12) (by simpa using hd)]; simp
  rw [← e] at hu
  simp only [Option.some.injEq] at hu
  rw [← hu]
  exact h9
/-- Is y a plate of the start x? -/
def cndP (x y : Pst) : Bool := (topK x.s.k != 0) && ((y.s.k == 7) && (y.d == x.d))
/-- What t steps of the second loop leave of the row: a step looks at neighbours j, j + 1. -/
def finP (s : List PE) : Nat → List PE
  | 0 => s
  | t + 1 => if cndP (finP s t)[t]!.1 (finP s t)[t + 1]!.1 = true then
      ((finP s t).set (t + 1) ({ (finP s t)[t + 1]!.1 with b := true }, (finP s t)[t + 1]!.2)).set t ({ (finP s t)[t]!.1 with u := min (finP s t)[t]!.1.u ((finP s t)[t]!.1.d + (finP s t)[t + 1]!.1.s.v) }, (finP s t)[t]!.2)
    else finP s t
theorem finP_len (s : List PE) : ∀ t, (finP s t).length = s.length
  | 0 => rfl
  | t + 1 => by rw [finP]; split <;> simp [finP_len s t]
/-- slices.SortFunc's answer at a row that a call owns. -/
def SrtE (base : Nat) (av : Option Addr) (R : List PE) (w : World) (e : Ending) (w' : World) : Prop :=
  e = .returned (.tuple #[]) ∧ ∃ l1 : List PE, l1.Perm R ∧ (∀ i j, i < j → j < l1.length → ¬ ahdP l1[j]!.1 l1[i]!.1) ∧ (∀ g, av = some ⟨g, 0, none⟩ → base ≤ g ∧ CelP w' g (clP l1)) ∧ Below base w w'
theorem sortRow_r (base B Fb cv : Nat) (av : Option Addr) (R : List PE) (w : World) (h : w.ownsRow base 82 12 (.slice av R.length cv) R.length (clP R)) (hn : R.length ≤ 100000000) (cB : w.cell? ⟨B, 0, none⟩ = some (.slice (some ⟨Fb, 0, none⟩) 3 3))
    (f0 : w.cell? ⟨Fb, 0, none⟩ = some (.func (.func 84) #[] #[])) (f1 : w.cell? ⟨Fb, 1, none⟩ = some (.func (.func 85) #[] #[])) (f2 : w.cell? ⟨Fb, 2, none⟩ = some (.func (.func 86) #[] #[])) (hB : ∀ g, av = some ⟨g, 0, none⟩ → B ≠ g ∧ Fb ≠ g) :
    Calls Tryz.prog 82 #[.slice av R.length cv, .func (.func 120) #[] #[.pointer (some ⟨B, 0, none⟩)]] w (SrtE base av R w) := by
  rcases h.2 with ⟨h1, h2⟩ | ⟨g, cap, cur, h1, hg, _⟩
  · have ha : av = none := by simpa using (Value.slice.inj h1).1
    have hR : R = [] := List.eq_nil_of_length_eq_zero h2
    subst ha; subst hR
    exact (sortPNil_r cv _ w).mono fun e w' ⟨he, hw⟩ => ⟨he, [], List.Perm.refl _, (fun i j _ hj => absurd hj (Nat.not_lt_zero _)), (fun g hg => by cases hg), (by rw [hw]; exact Below.refl _ _)⟩
  · obtain ⟨rfl, rfl⟩ : av = some ⟨g, 0, none⟩ ∧ cv = cap := by simpa using h1
    obtain ⟨b1, b2⟩ := hB g rfl
    refine (sortP_r base g cv B Fb R w h hn cB f0 f1 f2 b1 b2).mono ?_
    rintro e w' ⟨he, d, hp, hs, hso, hh, hb⟩
    refine ⟨he, d.toList, hp, fun i j hij hj => ?_, fun g' hg' => ?_, hb⟩
    · have hj2 : j < d.size := by simpa using hj
      have := hso i j hij hj2
      rw [getElem!_pos _ j hj2, getElem!_pos _ i (by omega)] at this
      rw [getElem!_pos _ j hj, getElem!_pos _ i (by omega)]
      simpa using this
    · cases hg'
      exact ⟨hg, celP_holds hh⟩
/-- by: a closure over the list of functions. -/
theorem by0_r (Fb : Nat) (w : World) : Calls Tryz.prog 83 #[.slice (some ⟨Fb, 0, none⟩) 3 3] w fun e w' => ∃ B, e = .returned (.func (.func 120) #[] #[.pointer (some ⟨B, 0, none⟩)]) ∧ w.heap.size ≤ B ∧ w'.cell? ⟨B, 0, none⟩ = some (.slice (some ⟨Fb, 0, none⟩) 3 3) ∧ Below w.heap.size w w' := by
  go_enter Tryz.func83, Tryz.ntmps83
  go_wp2_with fail
  go_ret
  exact ⟨w.heap.size, rfl, Nat.le_refl _, by simp [go_sem], (Below.refl _ _).alloc (Nat.le_refl _) _⟩
/-- What a walk wants of one element. -/
theorem celP_fields {w : World} {g : Nat} {s : List PE} (h : CelP w g (clP s)) {j : Nat} (hj : j < s.length) :
    w.cell? ⟨g, j * 12 + 1, none⟩ = some (.int .i64 s[j]!.1.s.k) ∧ w.cell? ⟨g, j * 12 + 2, none⟩ = some (.int .i64 s[j]!.1.s.v) ∧ w.cell? ⟨g, j * 12 + 9, none⟩ = some (.int .i64 s[j]!.1.d) ∧ w.cell? ⟨g, j * 12 + 10, none⟩ = some (.int .i64 s[j]!.1.u) ∧ w.cell? ⟨g, j * 12 + 11, none⟩ = some (.bool s[j]!.1.b) ∧
      w.frozen? ⟨g, j * 12 + 10, none⟩ = false ∧ w.frozen? ⟨g, j * 12 + 11, none⟩ = false := by
  have hc := clP_c s j hj
  exact ⟨(h _ _ (hc 1 (by omega))).1, (h _ _ (hc 2 (by omega))).1, (h _ _ (hc 9 (by omega))).1, (h _ _ (hc 10 (by omega))).1, (h _ _ (hc 11 (by omega))).1, (h _ _ (hc 10 (by omega))).2, (h _ _ (hc 11 (by omega))).2⟩
theorem set_same {α : Type} [Inhabited α] (s : List α) {i : Nat} (x : α) (hi : i < s.length) : (s.set i x)[i]! = x := by
  rw [getElem!_pos _ i (by simpa using hi)]; simp
theorem set_other {α : Type} [Inhabited α] (s : List α) {i j : Nat} (x : α) (h : i ≠ j) : (s.set i x)[j]! = s[j]! := by
  by_cases hj : j < s.length
  · rw [getElem!_pos _ j (by simpa using hj), getElem!_pos _ j hj]; simp [h]
  · rw [getElem!_neg _ j (by simpa using hj), getElem!_neg _ j hj]
/-- The second loop leaves the signs, their distances and the lists of covers. -/
theorem finP_keeps (s : List PE) : ∀ (t i : Nat), t < s.length → (finP s t)[i]!.1.s = s[i]!.1.s ∧ (finP s t)[i]!.1.d = s[i]!.1.d ∧ (finP s t)[i]!.2 = s[i]!.2
  | 0, i, _ => ⟨rfl, rfl, rfl⟩
  | t + 1, i, ht => by
    have ih := finP_keeps s t
    have hl := finP_len s t
    rw [finP]
    split
    · by_cases e : t = i
      · subst e
        rw [set_same _ _ (by simp; omega)]
        exact ih t (by omega)
      · rw [set_other _ _ e]
        by_cases e2 : t + 1 = i
        · subst e2
          rw [set_same _ _ (by omega)]
          exact ih (t + 1) (by omega)
        · rw [set_other _ _ e2]; exact ih i (by omega)
    · exact ih i (by omega)
theorem pst_of {w : World} {g : Nat} {s : List PE} (h : CelP w g (clP s)) (hn : s.length ≤ 100000000) (hp : ∀ i, i < s.length → PairsS w s[i]!.2.1 s[i]!.1.s.cv) : PstS w (some ⟨g, 0, none⟩) (s.map (·.1)) := by
  refine ⟨by simpa using hn, g, 0, fun i => s[i]!.2.1, fun i => s[i]!.2.2, fun _ => rfl, fun i hi => ?_⟩
  have hi2 : i < s.length := by simpa using hi
  have e : gq (s.map (·.1)) i = s[i]!.1 := by
    unfold gq
    rw [List.getD_eq_getElem?_getD, List.getElem?_map, List.getElem?_eq_getElem hi2, getElem!_pos _ i hi2]; rfl
  rw [e, Nat.zero_add]
  have hc := clP_c s i hi2
  refine ⟨⟨⟨?_, (h _ _ (hc 1 (by omega))).1, (h _ _ (hc 2 (by omega))).1, (h _ _ (hc 3 (by omega))).1, (h _ _ (hc 4 (by omega))).1, (h _ _ (hc 5 (by omega))).1, (h _ _ (hc 6 (by omega))).1, (h _ _ (hc 7 (by omega))).1⟩, (h _ _ (hc 8 (by omega))).1, (h _ _ (hc 9 (by omega))).1, (h _ _ (hc 10 (by omega))).1, (h _ _ (hc 11 (by omega))).1⟩, hp i hi2⟩
  exact (h _ _ (hc 0 (by omega))).1
end Go.Proofs.YtiagflackfkmnaaGreat
