/-
  Plain mathematics of lists of stretches: the metres of a list, canonical lists, joining, leaving out. By an AI agent.
-/
import Derived.Test.YthiaefhejdfobaaGreatLightM
import Derived.Test.YthiaefhejdfobaaGreatLightN
import Derived.Test.YthiaefhejdfobaaGreatRoadM
namespace Go.Proofs.YthiaefhejdfobaaGreat
set_option linter.unusedVariables false
set_option linter.unusedSimpArgs false

abbrev Spn := Int × Int
/-- A metre is in one of the stretches. -/
def InL (l : List Spn) (m : Int) : Prop := ∃ p ∈ l, p.1 ≤ m ∧ m < p.2
/-- Every stretch has a metre. -/
def AllV (l : List Spn) : Prop := ∀ p ∈ l, p.1 < p.2
/-- Ascending stretches that do not touch. -/
def Canon (c : List Spn) : Prop := c.Pairwise (fun p q => p.2 < q.1) ∧ AllV c
theorem inL_nil (m : Int) : ¬ InL [] m := fun ⟨p, hp, _⟩ => by cases hp
theorem inL_cons {p : Spn} {l : List Spn} {m : Int} : InL (p :: l) m ↔ (p.1 ≤ m ∧ m < p.2) ∨ InL l m := by
  unfold InL; simp
theorem inL_app {a b : List Spn} {m : Int} : InL (a ++ b) m ↔ InL a m ∨ InL b m := by
  unfold InL
  constructor
  · rintro ⟨p, hp, h⟩
    rcases List.mem_append.1 hp with hp | hp
    · exact .inl ⟨p, hp, h⟩
    · exact .inr ⟨p, hp, h⟩
  · rintro (⟨p, hp, h⟩ | ⟨p, hp, h⟩)
    · exact ⟨p, List.mem_append_left _ hp, h⟩
    · exact ⟨p, List.mem_append_right _ hp, h⟩
theorem inL_one {p : Spn} {m : Int} : InL [p] m ↔ p.1 ≤ m ∧ m < p.2 := by unfold InL; simp
theorem canon_nil : Canon [] := ⟨List.Pairwise.nil, fun p hp => by cases hp⟩
theorem canon_cons {p : Spn} {c : List Spn} (h : Canon (p :: c)) : p.1 < p.2 ∧ (∀ q ∈ c, p.2 < q.1) ∧ Canon c := by
  obtain ⟨h1, h2⟩ := h
  rw [List.pairwise_cons] at h1
  exact ⟨h2 p (by simp), h1.1, h1.2, fun q hq => h2 q (List.mem_cons_of_mem _ hq)⟩
theorem inL_after {p : Spn} {c : List Spn} (h : Canon (p :: c)) {m : Int} (hm : InL c m) : p.2 < m := by
  obtain ⟨q, hq, a, b⟩ := hm
  have := (canon_cons h).2.1 q hq
  omega
theorem canon_from {p : Spn} {c : List Spn} (h : Canon (p :: c)) {m : Int} (hm : InL (p :: c) m) : p.1 ≤ m := by
  rcases inL_cons.1 hm with h1 | h1
  · exact h1.1
  · have := inL_after h h1
    have := (canon_cons h).1
    omega
theorem canon_unique : ∀ {a b : List Spn}, Canon a → Canon b → (∀ m, InL a m ↔ InL b m) → a = b
  | [], [], _, _, _ => rfl
  | [], q :: b, _, hb, h => absurd ((h q.1).2 (inL_cons.2 (.inl ⟨Int.le_refl _, (canon_cons hb).1⟩))) (inL_nil _)
  | p :: a, [], ha, _, h => absurd ((h p.1).1 (inL_cons.2 (.inl ⟨Int.le_refl _, (canon_cons ha).1⟩))) (inL_nil _)
  | p :: a, q :: b, ha, hb, h => by
    obtain ⟨a1, a2, a3⟩ := canon_cons ha
    obtain ⟨b1, b2, b3⟩ := canon_cons hb
    have e1 : p.1 = q.1 := by
      have h1 := canon_from hb ((h p.1).1 (inL_cons.2 (.inl ⟨Int.le_refl _, a1⟩)))
      have h2 := canon_from ha ((h q.1).2 (inL_cons.2 (.inl ⟨Int.le_refl _, b1⟩)))
      omega
    have e2 : p.2 = q.2 := by
      rcases Int.lt_trichotomy p.2 q.2 with g | g | g
      · have := (h p.2).2 (inL_cons.2 (.inl ⟨by omega, g⟩))
        rcases inL_cons.1 this with k | k
        · omega
        · have := inL_after ha k; omega
      · exact g
      · have := (h q.2).1 (inL_cons.2 (.inl ⟨by omega, g⟩))
        rcases inL_cons.1 this with k | k
        · omega
        · have := inL_after hb k; omega
    have e : p = q := Prod.ext e1 e2
    subst e
    have := canon_unique a3 b3 fun m => by
      have hm := h m
      rw [inL_cons, inL_cons] at hm
      constructor
      · intro k
        rcases hm.1 (.inr k) with g | g
        · have := inL_after ha k; omega
        · exact g
      · intro k
        rcases hm.2 (.inr k) with g | g
        · have := inL_after hb k; omega
        · exact g
    rw [this]

/-- The sum of the lengths. -/
def sumL : List Spn → Int
  | [] => 0
  | p :: l => (p.2 - p.1) + sumL l
theorem sumL_app : ∀ a b : List Spn, sumL (a ++ b) = sumL a + sumL b
  | [], b => by simp [sumL]
  | p :: a, b => by rw [List.cons_append, sumL, sumL, sumL_app a b]; omega
theorem sumL_perm {a b : List Spn} (h : a.Perm b) : sumL a = sumL b := by
  induction h with
  | nil => rfl
  | cons x _ ih => rw [sumL, sumL, ih]
  | swap x y l => rw [sumL, sumL, sumL, sumL]; omega
  | trans _ _ h1 h2 => rw [h1, h2]
theorem sumL_len : ∀ {l : List Spn}, AllV l → (l.length : Int) ≤ sumL l
  | [], _ => by simp [sumL]
  | p :: l, h => by
    have h1 := h p (by simp)
    have ih := sumL_len (l := l) fun q hq => h q (List.mem_cons_of_mem _ hq)
    rw [sumL, List.length_cons]
    omega
theorem allV_app {a b : List Spn} : AllV (a ++ b) ↔ AllV a ∧ AllV b := by
  constructor
  · exact fun h => ⟨fun p hp => h p (List.mem_append_left _ hp), fun p hp => h p (List.mem_append_right _ hp)⟩
  · rintro ⟨h1, h2⟩ p hp
    rcases List.mem_append.1 hp with hp | hp
    · exact h1 p hp
    · exact h2 p hp
theorem take_gp {l : List Spn} {k : Nat} (h : k < l.length) : l.take (k + 1) = l.take k ++ [gp l k] := by
  rw [List.take_succ_eq_append_getElem h]
  unfold gp
  rw [List.getD_eq_getElem?_getD, List.getElem?_eq_getElem h]; rfl
theorem gp_mem {l : List Spn} {k : Nat} (h : k < l.length) : gp l k ∈ l := by
  unfold gp
  rw [List.getD_eq_getElem?_getD, List.getElem?_eq_getElem h]
  exact List.getElem_mem h
theorem mem_gp {l : List Spn} {p : Spn} (h : p ∈ l) : ∃ k, k < l.length ∧ gp l k = p := by
  obtain ⟨k, hk, e⟩ := List.getElem_of_mem h
  exact ⟨k, hk, by unfold gp; rw [List.getD_eq_getElem?_getD, List.getElem?_eq_getElem hk]; exact e⟩
theorem sum_take {l : List Spn} {k : Nat} (h : k < l.length) : sumL (l.take (k + 1)) = sumL (l.take k) + ((gp l k).2 - (gp l k).1) := by
  rw [take_gp h, sumL_app]; simp [sumL]

/-- One more stretch of an ascending list. -/
def jn1 (acc : List Spn) (s : Spn) : List Spn := if 0 < acc.length ∧ s.1 ≤ (gp acc (acc.length - 1)).2 then acc.set (acc.length - 1) ((gp acc (acc.length - 1)).1, max (gp acc (acc.length - 1)).2 s.2) else acc ++ [s]
def joinK (d : List Spn) : Nat → List Spn
  | 0 => []
  | k + 1 => jn1 (joinK d k) (gp d k)
theorem gp_last (a : List Spn) (q : Spn) : gp (a ++ [q]) a.length = q := by
  unfold gp; simp
theorem set_last (a : List Spn) (q x : Spn) : (a ++ [q]).set a.length x = a ++ [x] := by
  rw [List.set_append_right _ _ (Nat.le_refl _)]; simp
theorem jn1_nil (s : Spn) : jn1 [] s = [s] := by unfold jn1; simp
theorem jn1_snoc (a : List Spn) (q s : Spn) : jn1 (a ++ [q]) s = if s.1 ≤ q.2 then a ++ [(q.1, max q.2 s.2)] else a ++ [q] ++ [s] := by
  have e : (a ++ [q]).length - 1 = a.length := by simp
  unfold jn1
  rw [e, gp_last, set_last]
  by_cases h : s.1 ≤ q.2
  · rw [if_pos ⟨by simp, h⟩, if_pos h]
  · rw [if_neg (fun g => h g.2), if_neg h]
theorem snoc_cases (l : List Spn) : l = [] ∨ ∃ a q, l = a ++ [q] := by
  rcases List.eq_nil_or_concat l with h | ⟨a, q, h⟩
  · exact .inl h
  · exact .inr ⟨a, q, by simpa using h⟩
theorem jn1_len (acc : List Spn) (s : Spn) : (jn1 acc s).length ≤ acc.length + 1 := by
  unfold jn1; split
  · simp
  · simp
theorem joinK_len (d : List Spn) : ∀ k, (joinK d k).length ≤ k
  | 0 => Nat.le_refl _
  | k + 1 => by have := joinK_len d k; have := jn1_len (joinK d k) (gp d k); rw [joinK]; omega
/-- Ascending by where they begin. -/
def AscF (d : List Spn) : Prop := ∀ i j, i < j → j < d.length → (gp d i).1 ≤ (gp d j).1
theorem canon_snoc {a : List Spn} {q : Spn} : Canon (a ++ [q]) ↔ Canon a ∧ (∀ p ∈ a, p.2 < q.1) ∧ q.1 < q.2 := by
  unfold Canon
  rw [List.pairwise_append, allV_app]
  constructor
  · rintro ⟨⟨h1, h2, h3⟩, h4, h5⟩
    exact ⟨⟨h1, h4⟩, fun p hp => h3 p hp q (by simp), h5 q (by simp)⟩
  · rintro ⟨⟨h1, h4⟩, h3, h5⟩
    exact ⟨⟨h1, List.pairwise_singleton _ _, fun p hp r hr => by simp at hr; subst hr; exact h3 p hp⟩, h4, fun p hp => by simp at hp; subst hp; exact h5⟩
/-- What joining gives. -/
theorem join_canon {d : List Spn} (hV : AllV d) (hA : AscF d) : ∀ k, k ≤ d.length → Canon (joinK d k) ∧ (∀ m, InL (joinK d k) m ↔ InL (d.take k) m) ∧ (∀ p ∈ joinK d k, ∀ j, k ≤ j → j < d.length → p.1 ≤ (gp d j).1) ∧ sumL (joinK d k) ≤ sumL (d.take k)
  | 0, _ => ⟨canon_nil, (fun m => by rw [List.take_zero]; exact Iff.rfl), (fun p hp => by cases hp), Int.le_refl _⟩
  | k + 1, hk => by
    obtain ⟨h1, h2, h3, h4⟩ := join_canon hV hA k (by omega)
    have hs := hV _ (gp_mem (show k < d.length by omega))
    have ht := sum_take (show k < d.length by omega)
    have e := take_gp (show k < d.length by omega)
    have ha : ∀ j, k + 1 ≤ j → j < d.length → (gp d k).1 ≤ (gp d j).1 := fun j hj hl => hA k j (by omega) hl
    have hb : ∀ p ∈ joinK d k, p.1 ≤ (gp d k).1 := fun p hp => h3 p hp k (Nat.le_refl _) (by omega)
    rw [ht, e, joinK]
    generalize gp d k = s at *
    generalize joinK d k = acc at *
    rcases snoc_cases acc with rfl | ⟨a, q, rfl⟩
    · rw [jn1_nil]
      refine ⟨(canon_snoc (a := [])).2 ⟨canon_nil, (fun p hp => by cases hp), hs⟩, fun m => ?_, fun p hp j hj hl => ?_, ?_⟩
      · rw [inL_app, ← h2 m]; simp [inL_nil]
      · simp at hp; subst hp; exact ha j hj hl
      · simp [sumL] at h4 ⊢; omega
    · rw [jn1_snoc]
      obtain ⟨c1, c2, c3⟩ := canon_snoc.1 h1
      have hqs := hb q (by simp)
      by_cases g : s.1 ≤ q.2
      · rw [if_pos g]
        refine ⟨canon_snoc.2 ⟨c1, c2, by simp only []; omega⟩, fun m => ?_, fun p hp j hj hl => ?_, ?_⟩
        · rw [inL_app, inL_one, inL_app, ← h2 m, inL_app, inL_one, inL_one]
          constructor
          · rintro (k | ⟨k1, k2⟩)
            · exact .inl (.inl k)
            · simp only [] at k1 k2
              by_cases g2 : m < q.2
              · exact .inl (.inr ⟨k1, g2⟩)
              · exact .inr ⟨by omega, by omega⟩
          · rintro ((k | ⟨k1, k2⟩) | ⟨k1, k2⟩)
            · exact .inl k
            · exact .inr ⟨k1, by simp only []; omega⟩
            · exact .inr ⟨by simp only []; omega, by simp only []; omega⟩
        · rcases List.mem_append.1 hp with hp | hp
          · exact h3 p (List.mem_append_left _ hp) j (by omega) hl
          · simp at hp; subst hp; exact h3 q (by simp) j (by omega) hl
        · rw [sumL_app] at h4 ⊢
          simp only [sumL] at h4 ⊢
          omega
      · rw [if_neg g]
        refine ⟨canon_snoc.2 ⟨h1, fun p hp => ?_, hs⟩, fun m => ?_, fun p hp j hj hl => ?_, ?_⟩
        · rcases List.mem_append.1 hp with hp | hp
          · have := c2 p hp; omega
          · simp at hp; subst hp; omega
        · rw [inL_app (a := a ++ [q]), inL_app (a := List.take k d), h2 m]
        · rcases List.mem_append.1 hp with hp | hp
          · exact h3 p hp j (by omega) hl
          · simp at hp; subst hp; exact ha j hj hl
        · rw [sumL_app]
          simp only [sumL] at h4 ⊢
          omega

/-- The canonical list of the metres of a list: what the reference's Joined gives, stretch by stretch. -/
def hull (x y : Spn) : Spn := (min x.1 y.1, max x.2 y.2)
/-- The state behind k stretches of out: the list, x as it is then, and whether it stands in the list. -/
def insK (x : Spn) (out : List Spn) : Nat → List Spn × Spn × Bool
  | 0 => ([], x, false)
  | k + 1 =>
    if (gp out k).2 < (insK x out k).2.1.1 then ((insK x out k).1 ++ [gp out k], (insK x out k).2)
    else if (insK x out k).2.1.2 < (gp out k).1 then
      ((if (insK x out k).2.2 then (insK x out k).1 else (insK x out k).1 ++ [(insK x out k).2.1]) ++ [gp out k], (insK x out k).2.1, true)
    else ((insK x out k).1, hull (insK x out k).2.1 (gp out k), (insK x out k).2.2)
def insL (x : Spn) (out : List Spn) : List Spn := if (insK x out out.length).2.2 then (insK x out out.length).1 else (insK x out out.length).1 ++ [(insK x out out.length).2.1]
def jndK (l : List Spn) : Nat → List Spn
  | 0 => []
  | k + 1 => insL (gp l k) (jndK l k)
theorem canon_gp {c : List Spn} (h : Canon c) {i j : Nat} (hij : i < j) (hj : j < c.length) : (gp c i).2 < (gp c j).1 := by
  have := List.pairwise_iff_getElem.1 h.1 i j (by omega) hj hij
  unfold gp
  rw [List.getD_eq_getElem?_getD, List.getD_eq_getElem?_getD, List.getElem?_eq_getElem (by omega), List.getElem?_eq_getElem hj]
  exact this
def InsInv (x : Spn) (out : List Spn) (k : Nat) (st : List Spn × Spn × Bool) : Prop :=
  Canon st.1 ∧ st.2.1.1 < st.2.1.2 ∧ (∀ p ∈ st.1, ∀ j, k ≤ j → j < out.length → p.2 < (gp out j).1) ∧
  (st.2.2 = false → (∀ p ∈ st.1, p.2 < st.2.1.1) ∧ ∀ m, (InL st.1 m ∨ (st.2.1.1 ≤ m ∧ m < st.2.1.2)) ↔ (InL (out.take k) m ∨ (x.1 ≤ m ∧ m < x.2))) ∧
  (st.2.2 = true → (∀ j, k ≤ j → j < out.length → st.2.1.2 < (gp out j).1) ∧ ∀ m, InL st.1 m ↔ (InL (out.take k) m ∨ (x.1 ≤ m ∧ m < x.2))) ∧ st.1.length ≤ k + 1 ∧ (st.2.2 = false → st.1.length ≤ k)
theorem ins_inv {x : Spn} {out : List Spn} (hx : x.1 < x.2) (hC : Canon out) : ∀ k, k ≤ out.length → InsInv x out k (insK x out k)
  | 0, _ => ⟨canon_nil, hx, (fun p hp => by cases hp), (fun _ => ⟨(fun p hp => by cases hp), fun m => by simp [insK, inL_nil]⟩), (fun h => by cases h), by simp [insK], by simp [insK]⟩
  | k + 1, hk => by
    obtain ⟨i1, i2, i3, i4, i5, i6, i7⟩ := ins_inv hx hC k (by omega)
    have e := take_gp (show k < out.length by omega)
    have hy := hC.2 _ (gp_mem (show k < out.length by omega))
    have hn : ∀ j, k + 1 ≤ j → j < out.length → (gp out k).2 < (gp out j).1 := fun j hj hl => canon_gp hC (by omega) hl
    have hp3 : ∀ p ∈ (insK x out k).1, p.2 < (gp out k).1 := fun p hp => i3 p hp k (Nat.le_refl _) (by omega)
    have h5 : (insK x out k).2.2 = true → (insK x out k).2.1.2 < (gp out k).1 := fun h => (i5 h).1 k (Nat.le_refl _) (by omega)
    unfold InsInv
    rw [e]
    rw [insK]
    generalize insK x out k = st at *
    generalize gp out k = y at *
    obtain ⟨nx, z, pl⟩ := st
    simp only [] at *
    by_cases c1 : y.2 < z.1
    · rw [if_pos c1]
      have hpl : pl = false := by
        cases pl with
        | false => rfl
        | true => have := h5 rfl; omega
      subst hpl
      refine ⟨canon_snoc.2 ⟨i1, hp3, hy⟩, i2, fun p hp j hj hl => ?_, fun _ => ⟨fun p hp => ?_, fun m => ?_⟩, (fun h => by cases h), by have := i7 rfl; simp; omega, fun _ => by simp; exact i7 rfl⟩
      · rcases List.mem_append.1 hp with hp | hp
        · exact i3 p hp j (by omega) hl
        · simp at hp; subst hp; exact hn j hj hl
      · rcases List.mem_append.1 hp with hp | hp
        · exact (i4 rfl).1 p hp
        · simp at hp; subst hp; exact c1
      · have := (i4 rfl).2 m
        rw [inL_app, inL_app, inL_one]
        constructor
        · rintro ((h | h) | h)
          · rcases this.1 (.inl h) with g | g
            · exact .inl (.inl g)
            · exact .inr g
          · exact .inl (.inr h)
          · rcases this.1 (.inr h) with g | g
            · exact .inl (.inl g)
            · exact .inr g
        · rintro ((h | h) | h)
          · rcases this.2 (.inl h) with g | g
            · exact .inl (.inl g)
            · exact .inr g
          · exact .inl (.inr h)
          · rcases this.2 (.inr h) with g | g
            · exact .inl (.inl g)
            · exact .inr g
    · rw [if_neg c1]
      by_cases c2 : z.2 < y.1
      · rw [if_pos c2]
        cases pl with
        | true =>
          refine ⟨canon_snoc.2 ⟨i1, hp3, hy⟩, i2, fun p hp j hj hl => ?_, (fun h => by cases h), fun _ => ⟨fun j hj hl => by have := hn j hj hl; simp only []; omega, fun m => ?_⟩, by simp; omega, (fun h => by cases h)⟩
          · rcases List.mem_append.1 hp with hp | hp
            · exact i3 p hp j (by omega) hl
            · simp at hp; subst hp; exact hn j hj hl
          · have := (i5 rfl).2 m
            rw [inL_app, inL_app, if_pos rfl, this]
            constructor
            · rintro ((h | h) | h)
              · exact .inl (.inl h)
              · exact .inr h
              · exact .inl (.inr h)
            · rintro ((h | h) | h)
              · exact .inl (.inl h)
              · exact .inr h
              · exact .inl (.inr h)
        | false =>
          refine ⟨canon_snoc.2 ⟨canon_snoc.2 ⟨i1, (i4 rfl).1, i2⟩, fun p hp => ?_, hy⟩, i2, fun p hp j hj hl => ?_, (fun h => by cases h), fun _ => ⟨fun j hj hl => by have := hn j hj hl; simp only []; omega, fun m => ?_⟩, by have := i7 rfl; simp; omega, (fun h => by cases h)⟩
          · simp only [Bool.false_eq_true, if_false] at hp
            rcases List.mem_append.1 hp with hp | hp
            · exact hp3 p hp
            · simp at hp; subst hp; exact c2
          · simp only [Bool.false_eq_true, if_false] at hp
            rcases List.mem_append.1 hp with hp | hp
            · rcases List.mem_append.1 hp with hp | hp
              · exact i3 p hp j (by omega) hl
              · simp at hp; subst hp; have := hn j hj hl; omega
            · simp at hp; subst hp; exact hn j hj hl
          · have := (i4 rfl).2 m
            simp only [Bool.false_eq_true, if_false]
            rw [inL_app, inL_app, inL_app, inL_one, inL_one, this]
            constructor
            · rintro ((h | h) | h)
              · exact .inl (.inl h)
              · exact .inr h
              · exact .inl (.inr h)
            · rintro ((h | h) | h)
              · exact .inl (.inl h)
              · exact .inr h
              · exact .inl (.inr h)
      · rw [if_neg c2]
        have hpl : pl = false := by
          cases pl with
          | false => rfl
          | true => exact absurd (h5 rfl) c2
        subst hpl
        refine ⟨i1, ?_, fun p hp j hj hl => i3 p hp j (by omega) hl, fun _ => ⟨fun p hp => ?_, fun m => ?_⟩, (fun h => by cases h), by simp only []; omega, fun _ => by have := i7 rfl; omega⟩
        · simp only [hull]; omega
        · have := (i4 rfl).1 p hp
          have := hp3 p hp
          simp only [hull]; omega
        · have := (i4 rfl).2 m
          rw [inL_app, inL_one]
          simp only [hull]
          constructor
          · rintro (h | ⟨h1, h2⟩)
            · rcases this.1 (.inl h) with g | g
              · exact .inl (.inl g)
              · exact .inr g
            · by_cases g2 : z.1 ≤ m ∧ m < z.2
              · rcases this.1 (.inr g2) with g | g
                · exact .inl (.inl g)
                · exact .inr g
              · exact .inl (.inr ⟨by omega, by omega⟩)
          · rintro ((h | h) | h)
            · rcases this.2 (.inl h) with g | g
              · exact .inl g
              · exact .inr ⟨by omega, by omega⟩
            · exact .inr ⟨by omega, by omega⟩
            · rcases this.2 (.inr h) with g | g
              · exact .inl g
              · exact .inr ⟨by omega, by omega⟩
theorem ins_canon {x : Spn} {out : List Spn} (hx : x.1 < x.2) (hC : Canon out) : Canon (insL x out) ∧ (∀ m, InL (insL x out) m ↔ InL out m ∨ (x.1 ≤ m ∧ m < x.2)) ∧ (insL x out).length ≤ out.length + 1 := by
  obtain ⟨i1, i2, i3, i4, i5, i6, i7⟩ := ins_inv hx hC out.length (Nat.le_refl _)
  unfold insL
  rw [List.take_length] at i4 i5
  cases h : (insK x out out.length).2.2 with
  | true =>
    rw [if_pos rfl]
    exact ⟨i1, (i5 h).2, i6⟩
  | false =>
    rw [if_neg (by simp)]
    refine ⟨canon_snoc.2 ⟨i1, (i4 h).1, i2⟩, fun m => ?_, by simp; exact i7 h⟩
    rw [inL_app, inL_one]
    exact (i4 h).2 m
theorem jnd_canon {l : List Spn} (hV : AllV l) : ∀ k, k ≤ l.length → Canon (jndK l k) ∧ (∀ m, InL (jndK l k) m ↔ InL (l.take k) m) ∧ (jndK l k).length ≤ k
  | 0, _ => ⟨canon_nil, fun m => by simp [jndK], Nat.le_refl _⟩
  | k + 1, hk => by
    obtain ⟨h1, h2, h3⟩ := jnd_canon hV k (by omega)
    obtain ⟨g1, g2, g3⟩ := ins_canon (hV _ (gp_mem (show k < l.length by omega))) h1
    rw [jndK, take_gp (show k < l.length by omega)]
    exact ⟨g1, fun m => by rw [g2, inL_app, inL_one, h2], by omega⟩
/-- The canonical list of a list. -/
def canL (l : List Spn) : List Spn := jndK l l.length
theorem canL_ok {l : List Spn} (hV : AllV l) : Canon (canL l) ∧ (∀ m, InL (canL l) m ↔ InL l m) ∧ (canL l).length ≤ l.length := by
  have := jnd_canon hV l.length (Nat.le_refl _)
  rw [List.take_length] at this
  exact this
theorem canL_eq {l c : List Spn} (hV : AllV l) (hc : Canon c) (h : ∀ m, InL c m ↔ InL l m) : c = canL l :=
  canon_unique hc (canL_ok hV).1 fun m => by rw [h, (canL_ok hV).2.1]
theorem inL_perm {a b : List Spn} (h : a.Perm b) (m : Int) : InL a m ↔ InL b m := by
  unfold InL
  exact ⟨fun ⟨p, hp, g⟩ => ⟨p, h.mem_iff.1 hp, g⟩, fun ⟨p, hp, g⟩ => ⟨p, h.mem_iff.2 hp, g⟩⟩
theorem allV_perm {a b : List Spn} (h : a.Perm b) (hV : AllV a) : AllV b := fun p hp => hV p (h.mem_iff.2 hp)
/-- Joining a sorted permutation gives the canonical list. -/
theorem join_eq {l d : List Spn} (hV : AllV l) (hp : d.Perm l) (hA : AscF d) : joinK d d.length = canL l ∧ sumL (canL l) ≤ sumL l := by
  obtain ⟨h1, h2, h3, h4⟩ := join_canon (allV_perm hp.symm hV) hA d.length (Nat.le_refl _)
  rw [List.take_length] at h2 h4
  have e := canL_eq hV h1 fun m => by rw [h2, inL_perm hp]
  exact ⟨e, by rw [← e, ← sumL_perm hp]; exact h4⟩
theorem canL_self {c : List Spn} (h : Canon c) : canL c = c := (canL_eq h.2 h fun _ => Iff.rfl).symm
end Go.Proofs.YthiaefhejdfobaaGreat
