/-
  A longer roll, a lesser kerf and fewer pieces never need more rolls: plain mathematics of Least. By an AI agent.
-/
import Derived.Test.YtmeoekcajmgiaaaCutV
namespace Go.Proofs.Ytmeoekcajmgiaaa
set_option linter.unusedVariables false
set_option linter.unusedSimpArgs false
/-- The table's last state. -/
def topS (q : List Int) (m : Int) : Int × Int := tabS q m (2 ^ q.length - 1) (2 ^ q.length - 1)
theorem full_lt (n : Nat) : 2 ^ n - 1 < 2 ^ n := by have := Nat.two_pow_pos n; omega
theorem gi_all {q : List Int} {p : Int → Prop} (h0 : p 0) (h : ∀ x, x ∈ q → p x) (j : Nat) : p (gi q j) := by
  unfold gi
  rw [List.getD_eq_getElem?_getD]
  rcases Nat.lt_or_ge j q.length with g | g
  · rw [List.getElem?_eq_getElem g]; exact h _ (List.getElem_mem g)
  · rw [List.getElem?_eq_none g]; exact h0
theorem map_gi (q : List Int) : (List.range q.length).map (gi q) = q := by
  apply List.ext_getElem
  · simp
  · intro i h1 h2
    rw [List.getElem_map, List.getElem_range]
    unfold gi
    rw [List.getD_eq_getElem?_getD, List.getElem?_eq_getElem h2]
    rfl
theorem perm_map_inv {α β : Type} {f : α → β} {a b : List β} (h : a.Perm b) : ∀ r : List α, b = r.map f → ∃ l : List α, l.Perm r ∧ l.map f = a := by
  induction h with
  | nil => intro r hr; exact ⟨r, .refl _, hr.symm⟩
  | cons x _ ih =>
    intro r hr
    cases r with
    | nil => cases hr
    | cons y r =>
      rw [List.map_cons] at hr
      injection hr with h1 h2
      obtain ⟨l, g1, g2⟩ := ih r h2
      exact ⟨y :: l, g1.cons _, by rw [List.map_cons, g2, h1]⟩
  | swap x y l =>
    intro r hr
    cases r with
    | nil => cases hr
    | cons u r =>
      cases r with
      | nil => simp at hr
      | cons v r =>
        simp only [List.map_cons, List.cons.injEq] at hr
        obtain ⟨h1, h2, h3⟩ := hr
        exact ⟨v :: u :: r, .swap _ _ _, by simp only [List.map_cons]; rw [h1, h2, h3]⟩
  | trans _ _ ih1 ih2 =>
    intro r hr
    obtain ⟨l2, g1, g2⟩ := ih2 r hr
    obtain ⟨l1, g3, g4⟩ := ih1 l2 g2.symm
    exact ⟨l1, g3.trans g1, g4⟩
/-- Other measures: each piece no longer, with no less room behind it. -/
theorem top_other {q q' : List Int} {m m' : Int} (h10 : q.length ≤ 10) (hl : q'.length = q.length) (hm' : 0 ≤ m')
    (hq : ∀ j, j < q.length → 0 < gi q' j ∧ gi q' j ≤ gi q j ∧ m - gi q j ≤ m' - gi q' j) : (topS q' m').1 ≤ (topS q m).1 := by
  unfold topS
  rw [hl]
  obtain ⟨l, h1, h2⟩ := tab_order (q := q) (m := m) h10 _ (full_lt _)
  rw [h2]
  have hq0 : ∀ j, 0 ≤ gi q' j := fun j => by
    rcases Nat.lt_or_ge j q'.length with g | g
    · have := (hq j (by omega)).1; omega
    · unfold gi; rw [List.getD_eq_getElem?_getD, List.getElem?_eq_none g]; exact Int.le_refl 0
  have h3 := leS_rolls (tab_least (q := q') (m := m') (by omega) hm' hq0 l.length l rfl (2 ^ q.length - 1) (by rw [hl]; exact full_lt _) h1)
  refine Int.le_trans h3 ?_
  have hmem : ∀ j, j ∈ l → j < q.length := fun j hj => bit_lt (full_lt _) ((h1.2 j).1 hj)
  cases l with
  | nil => exact Int.le_refl 0
  | cons j l =>
    obtain ⟨p1, p2, p3⟩ := hq j (hmem j List.mem_cons_self)
    rw [List.map_cons, List.map_cons, runS, runS]
    have e1 : withS (0, m') (gi q' j) m' = (1, gi q' j) := by
      unfold withS; rw [if_neg (by show ¬ m' + gi q' j ≤ m'; omega)]; rfl
    have e2 : withS (0, m) (gi q j) m = (1, gi q j) := by
      unfold withS; rw [if_neg (by show ¬ m + gi q j ≤ m; omega)]; rfl
    rw [e1, e2]
    refine leS_rolls (runS_other l (fun x hx => ?_) (by show 0 ≤ gi q j; omega) (.inr ⟨rfl, p2⟩))
    have := hq x (hmem x (List.mem_cons_of_mem _ hx))
    omega
/-- Fewer pieces. -/
theorem top_sub {q q' : List Int} {m : Int} (h10 : q.length ≤ 10) (hs : q'.Sublist q) (hm : 0 ≤ m) (hq : ∀ x, x ∈ q → 0 ≤ x) : (topS q' m).1 ≤ (topS q m).1 := by
  unfold topS
  obtain ⟨l, h1, h2⟩ := tab_order (q := q) (m := m) h10 _ (full_lt _)
  rw [h2]
  have hp : q.Perm (l.map (gi q)) := by
    have := ((ordS_full.1 h1).map (gi q)).symm
    rwa [map_gi] at this
  obtain ⟨k2, g1, g2⟩ := sub_perm hp hs
  obtain ⟨l', g3, g4⟩ := perm_map_inv g1 (List.range q'.length) (map_gi q').symm
  have hq' : ∀ x, x ∈ q' → 0 ≤ x := fun x hx => hq x (hs.subset hx)
  have hlen := hs.length_le
  have h3 := leS_rolls (tab_least (q := q') (m := m) (by omega) hm (gi_all (p := fun x => 0 ≤ x) (Int.le_refl 0) hq') l'.length l' rfl _ (full_lt _) (ordS_full.2 g3))
  rw [g4] at h3
  refine Int.le_trans h3 (leS_rolls (runS_sub g2 (fun s hs => ?_) hm (leS_refl _)))
  exact hq s (hp.mem_iff.2 hs)
theorem szL_kerf (K : Int) (l : List (Int × Int)) : ∀ k, szL K l k = (szL 0 l k).map (· + K)
  | 0 => rfl
  | k + 1 => by
    rw [szL, szL, List.map_append, szL_kerf K l k, List.map_replicate, Int.add_zero]
theorem szL_gi (K : Int) (l : List (Int × Int)) (k : Nat) {j : Nat} (h : j < (szL 0 l k).length) : gi (szL K l k) j = gi (szL 0 l k) j + K := by
  rw [szL_kerf K]
  unfold gi
  rw [List.getD_eq_getElem?_getD, List.getD_eq_getElem?_getD, List.getElem?_map, List.getElem?_eq_getElem h]
  rfl
theorem szL_lenK (K : Int) (l : List (Int × Int)) (k : Nat) : (szL K l k).length = (szL 0 l k).length := by rw [szL_kerf K, List.length_map]
theorem szL_pos {L K : Int} {l : List (Int × Int)} (h : CutOk L K l) : ∀ k, k ≤ l.length → ∀ x, x ∈ szL 0 l k → 1 ≤ x
  | 0, _ => by simp [szL]
  | k + 1, hk => by
    intro x hx
    rw [szL, List.mem_append, List.mem_replicate] at hx
    rcases hx with hx | ⟨_, rfl⟩
    · exact szL_pos h k (by omega) x hx
    · have := (h.2.2.2 k (by omega)).1
      omega
theorem szL_sub (K : Int) {l l' : List (Int × Int)} : ∀ k, (∀ j, j < k → (gp l' j).1 = (gp l j).1 ∧ (gp l' j).2 ≤ (gp l j).2) → (szL K l' k).Sublist (szL K l k)
  | 0, _ => by rw [szL, szL]; exact List.Sublist.refl _
  | k + 1, h => by
    rw [szL, szL, (h k (by omega)).1]
    exact (szL_sub K k fun j hj => h j (by omega)).append ((List.replicate_sublist_replicate _).2 (by have := (h k (by omega)).2; omega))
/-- What Least answers for a cutting of few pieces. -/
theorem least_few {L K : Int} {l : List (Int × Int)} (h : CutOk L K l) (h10 : (szL 0 l l.length).length ≤ 10) : leastV L K l = (topS (szL K l l.length) (L + K)).1 ∧ leastE L K l = 0 ∧ 0 ≤ leastV L K l := by
  have hv := cutB_t h
  have h10' : (szL K l l.length).length ≤ 10 := by rw [szL_lenK]; exact h10
  have e : leastV L K l = (topS (szL K l l.length) (L + K)).1 := by unfold leastV topS; rw [if_pos hv, if_pos h10']
  refine ⟨e, by unfold leastE; rw [if_pos hv, if_pos h10'], ?_⟩
  rw [e]
  have h1 := h.1
  have h2 := h.2.1
  exact (tabS_bd (q := szL K l l.length) (m := L + K) ⟨by omega, by omega⟩ (fun j hj => szL_bd h l.length (Nat.le_refl _) _ (gi_mem hj)) _ _).1.1
theorem least_long {L L' K : Int} {l : List (Int × Int)} (h : CutOk L K l) (h' : CutOk L' K l) (h10 : (szL 0 l l.length).length ≤ 10) (hL : L ≤ L') : leastV L' K l ≤ leastV L K l := by
  rw [(least_few h h10).1, (least_few h' h10).1]
  have h1 := h'.1
  have h2 := h.2.1
  refine top_other (by rw [szL_lenK]; exact h10) rfl (by omega) fun j hj => ?_
  have hj0 : j < (szL 0 l l.length).length := by rw [szL_lenK] at hj; exact hj
  have := szL_pos h l.length (Nat.le_refl _) _ (gi_mem hj0)
  rw [szL_gi K l _ hj0]
  omega
theorem least_thin {L K K' : Int} {l : List (Int × Int)} (h : CutOk L K l) (h' : CutOk L K' l) (h10 : (szL 0 l l.length).length ≤ 10) (hK : K' ≤ K) : leastV L K' l ≤ leastV L K l := by
  rw [(least_few h h10).1, (least_few h' h10).1]
  have h1 := h'.1
  have h2 := h'.2.1
  refine top_other (by rw [szL_lenK]; exact h10) (by rw [szL_lenK, szL_lenK K]) (by omega) fun j hj => ?_
  have hj0 : j < (szL 0 l l.length).length := by rw [szL_lenK] at hj; exact hj
  have := szL_pos h l.length (Nat.le_refl _) _ (gi_mem hj0)
  rw [szL_gi K l _ hj0, szL_gi K' l _ hj0]
  omega
theorem least_less {L K : Int} {l l' : List (Int × Int)} (h : CutOk L K l) (h' : CutOk L K l') (h10 : (szL 0 l l.length).length ≤ 10) (hl : l'.length = l.length) (hs : ∀ j, j < l.length → (gp l' j).1 = (gp l j).1 ∧ (gp l' j).2 ≤ (gp l j).2) : leastV L K l' ≤ leastV L K l ∧ (szL 0 l' l'.length).length ≤ 10 := by
  have s0 := szL_sub 0 l.length hs
  have h10' : (szL 0 l' l'.length).length ≤ 10 := by rw [hl]; exact Nat.le_trans s0.length_le h10
  refine ⟨?_, h10'⟩
  rw [(least_few h h10).1, (least_few h' h10').1, hl]
  have h1 := h.1
  have h2 := h.2.1
  exact top_sub (by rw [szL_lenK]; exact h10) (szL_sub K l.length hs) (by omega) fun x hx => (szL_bd h l.length (Nat.le_refl _) x hx).1
end Go.Proofs.Ytmeoekcajmgiaaa
