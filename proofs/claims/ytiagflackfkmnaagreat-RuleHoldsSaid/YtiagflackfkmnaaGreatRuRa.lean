/-
  The row of a direction: the program's order and that of insertion are one. By an AI agent.
-/
import Derived.Test.YtiagflackfkmnaaGreatRuU
import Derived.Test.YtiagflackfkmnaaGreatRuY
namespace Go.Proofs.YtiagflackfkmnaaGreat
set_option linter.unusedVariables false
set_option linter.unusedSimpArgs false
open Go.RowKit

/-- Does one sign stand before another one? -/
def ahS (L dir : Int) (x y : Sgn) : Prop := dstK L dir x.c < dstK L dir y.c ∨ (dstK L dir x.c = dstK L dir y.c ∧ (x.rk < y.rk ∨ (x.rk = y.rk ∧ x.n < y.n)))
instance (L dir : Int) (x y : Sgn) : Decidable (ahS L dir x y) := by unfold ahS; infer_instance
theorem ahS_trans {L dir : Int} {x y z : Sgn} (h1 : ahS L dir x y) (h2 : ahS L dir y z) : ahS L dir x z := by unfold ahS at *; omega
theorem ahS_irr {L dir : Int} {x : Sgn} (h : ahS L dir x x) : False := by unfold ahS at h; omega
theorem ahS_tot {L dir : Int} {x y : Sgn} (h : x.n ≠ y.n) : ahS L dir x y ∨ ahS L dir y x := by unfold ahS; omega
/-- Where a sign goes in a row, from place k down. -/
def plcS (L dir : Int) (x : Sgn) (out : List Sgn) : Nat → Nat
  | 0 => 0
  | k + 1 => if ahS L dir x (gs out k) then plcS L dir x out k else k + 1
theorem plcS_le (L dir : Int) (x : Sgn) (out : List Sgn) : ∀ k, plcS L dir x out k ≤ k
  | 0 => Nat.le_refl _
  | k + 1 => by
    rw [plcS]; split
    · exact Nat.le_succ_of_le (plcS_le L dir x out k)
    · exact Nat.le_refl _
/-- The row of the first k signs as insertion makes it. -/
def insR (L dir h : Int) (l : List Sgn) : Nat → List Sgn
  | 0 => []
  | k + 1 => if selB dir h (gs l k) = true then
      (insR L dir h l k).take (plcS L dir (gs l k) (insR L dir h l k) (insR L dir h l k).length) ++ gs l k :: (insR L dir h l k).drop (plcS L dir (gs l k) (insR L dir h l k) (insR L dir h l k).length)
    else insR L dir h l k
theorem insR_len (L dir h : Int) (l : List Sgn) : ∀ k, (insR L dir h l k).length ≤ k
  | 0 => Nat.le_refl _
  | k + 1 => by
    have := insR_len L dir h l k
    have hp := plcS_le L dir (gs l k) (insR L dir h l k) (insR L dir h l k).length
    rw [insR]; split
    · simp; omega
    · omega
/-- The signs of the row, as they lie in the list. -/
def selR (dir h : Int) (l : List Sgn) : Nat → List Sgn
  | 0 => []
  | k + 1 => if selB dir h (gs l k) = true then selR dir h l k ++ [gs l k] else selR dir h l k
theorem insR_perm (L dir h : Int) (l : List Sgn) : ∀ k, (insR L dir h l k).Perm (selR dir h l k)
  | 0 => List.Perm.refl _
  | k + 1 => by
    have ih := insR_perm L dir h l k
    rw [insR, selR]; split
    · refine List.perm_middle.trans ?_
      rw [List.take_append_drop]
      exact (List.Perm.cons _ ih).trans (List.perm_append_singleton _ _).symm
    · exact ih
theorem rowK_sel (L : Int) (js : List Int) (dir h : Int) (l : List Sgn) (ad : Nat → Option Addr) (cp : Nat → Nat) : ∀ k, (rowK L js dir h l ad cp k).map (fun x => x.1.s) = selR dir h l k
  | 0 => rfl
  | k + 1 => by
    have ih := rowK_sel L js dir h l ad cp k
    rw [rowK, selR]; split
    · rw [List.map_append, ih]; rfl
    · exact ih
theorem selR_mem {dir h : Int} {l : List Sgn} {x : Sgn} : ∀ {k}, x ∈ selR dir h l k → ∃ j, j < k ∧ gs l j = x
  | 0, hx => by simp [selR] at hx
  | k + 1, hx => by
    rw [selR] at hx
    split at hx
    · rw [List.mem_append] at hx
      rcases hx with hx | hx
      · obtain ⟨j, hj, e⟩ := selR_mem hx; exact ⟨j, by omega, e⟩
      · exact ⟨k, by omega, (List.mem_singleton.1 hx).symm⟩
    · obtain ⟨j, hj, e⟩ := selR_mem hx; exact ⟨j, by omega, e⟩
theorem gs_at (l : List Sgn) {i : Nat} (h : i < l.length) : gs l i = l[i] := by unfold gs; simp [h]
/-- Where a sign goes: all before it are ahead of it, it is ahead of all behind. -/
theorem plcS_spec {L dir : Int} {x : Sgn} {out : List Sgn} (hs : out.Pairwise (ahS L dir)) (hx : ∀ y, y ∈ out → y.n ≠ x.n) : ∀ k, k ≤ out.length → (∀ i, i < plcS L dir x out k → ahS L dir (gs out i) x) ∧ (∀ i, plcS L dir x out k ≤ i → i < k → ahS L dir x (gs out i))
  | 0, _ => ⟨fun i hi => absurd hi (Nat.not_lt_zero _), fun i _ hi => absurd hi (Nat.not_lt_zero _)⟩
  | k + 1, hk => by
    rw [plcS]; split
    next h =>
      have ih := plcS_spec hs hx k (by omega)
      refine ⟨ih.1, fun i h1 h2 => ?_⟩
      by_cases e : i = k
      · rw [e]; exact h
      · exact ih.2 i h1 (by omega)
    next h =>
      refine ⟨fun i hi => ?_, fun i h1 h2 => by omega⟩
      have hkx : ahS L dir (gs out k) x := by
        rcases ahS_tot (L := L) (dir := dir) (x := x) (y := gs out k) (fun e => hx _ (by rw [gs_at out (by omega)]; exact List.getElem_mem _) e.symm) with h1 | h1
        · exact absurd h1 h
        · exact h1
      by_cases e : i = k
      · rw [e]; exact hkx
      · have := List.pairwise_iff_getElem.1 hs i k (by omega) (by omega) (by omega)
        rw [← gs_at out (by omega), ← gs_at out (by omega)] at this
        exact ahS_trans this hkx
theorem insR_sorted {L dir h : Int} {l : List Sgn} (hn : ∀ i j, i < j → j < l.length → (gs l i).n ≠ (gs l j).n) : ∀ k, k ≤ l.length → (insR L dir h l k).Pairwise (ahS L dir)
  | 0, _ => List.Pairwise.nil
  | k + 1, hk => by
    have ih := insR_sorted (L := L) (dir := dir) (h := h) hn k (by omega)
    rw [insR]; split
    · have hx : ∀ y, y ∈ insR L dir h l k → y.n ≠ (gs l k).n := fun y hy => by
        obtain ⟨j, hj, e⟩ := selR_mem ((insR_perm L dir h l k).mem_iff.1 hy)
        rw [← e]
        exact hn j k hj (by omega)
      have hp := plcS_spec ih hx (insR L dir h l k).length (Nat.le_refl _)
      have hle := plcS_le L dir (gs l k) (insR L dir h l k) (insR L dir h l k).length
      generalize plcS L dir (gs l k) (insR L dir h l k) (insR L dir h l k).length = p at *
      generalize insR L dir h l k = out at *
      generalize gs l k = x at *
      have ha : ∀ y, y ∈ out.take p → ahS L dir y x := fun y hy => by
        obtain ⟨i, hi, e⟩ := List.getElem_of_mem hy
        simp at hi
        have := hp.1 i (by omega)
        rw [gs_at out (by omega)] at this
        rw [← e, List.getElem_take]; exact this
      have hb : ∀ y, y ∈ out.drop p → ahS L dir x y := fun y hy => by
        obtain ⟨i, hi, e⟩ := List.getElem_of_mem hy
        simp at hi
        have := hp.2 (p + i) (by omega) (by omega)
        rw [gs_at out (by omega)] at this
        rw [← e, List.getElem_drop]; exact this
      refine List.pairwise_append.2 ⟨List.Pairwise.sublist (List.take_sublist _ _) ih, List.pairwise_cons.2 ⟨hb, List.Pairwise.sublist (List.drop_sublist _ _) ih⟩, fun y hy z hz => ?_⟩
      rcases List.mem_cons.1 hz with rfl | hz
      · exact ha y hy
      · exact ahS_trans (ha y hy) (hb z hz)
    · exact ih
/-- Two lists of the same signs, both in order, are one. -/
theorem ord_unique {L dir : Int} : ∀ {s t : List Sgn}, s.Pairwise (ahS L dir) → t.Pairwise (ahS L dir) → s.Perm t → s = t
  | [], t, _, _, hp => (List.Perm.nil_eq hp)
  | x :: s, [], _, _, hp => by have := hp.length_eq; simp at this
  | x :: s, y :: t, hs, ht, hp => by
    have hxy : x = y := by
      have h1 := hp.mem_iff.1 (List.mem_cons_self (a := x) (l := s))
      have h2 := hp.mem_iff.2 (List.mem_cons_self (a := y) (l := t))
      rcases List.mem_cons.1 h1 with e | h1
      · exact e
      · rcases List.mem_cons.1 h2 with e | h2
        · exact e.symm
        · exact (ahS_irr (ahS_trans ((List.pairwise_cons.1 ht).1 x h1) ((List.pairwise_cons.1 hs).1 y h2))).elim
    subst hxy
    rw [ord_unique (List.pairwise_cons.1 hs).2 (List.pairwise_cons.1 ht).2 ((List.perm_cons x).1 hp)]
/-- The signs of the program's row are those of insertion, in that order. -/
theorem row_ins {L : Int} {js : List Int} {dir h : Int} {l : List Sgn} {row : List Pst} (hn : ∀ i j, i < j → j < l.length → (gs l i).n ≠ (gs l j).n) (H : RowL L js dir h l row) : row.map (·.s) = insR L dir h l l.length := by
  obtain ⟨ad, cp, l1, hp, ho, rfl⟩ := H
  have e1 : ((finP l1 (l1.length - 1)).map (·.1)).map (·.s) = l1.map (fun x => x.1.s) := by
    refine List.ext_getElem (by simp [finP_len]) fun i h1 h2 => ?_
    simp [finP_len] at h1 h2
    have hk := finP_keeps l1 (l1.length - 1) i (by omega)
    rw [getElem!_pos _ i (by rw [finP_len]; exact h1), getElem!_pos _ i h1] at hk
    simpa using hk.1
  rw [e1]
  have hps : (l1.map (fun x => x.1.s)).Perm (selR dir h l l.length) := by rw [← rowK_sel L js dir h l ad cp]; exact hp.map _
  have hne : ∀ i j, (hij : i < j) → (hj : j < l1.length) → (l1[i]'(Nat.lt_trans hij hj)).1.s.n ≠ l1[j].1.s.n := by
    have hsel : (selR dir h l l.length).Pairwise (fun x y => x.n ≠ y.n) := by
      have : ∀ k, k ≤ l.length → (selR dir h l k).Pairwise (fun x y => x.n ≠ y.n) := by
        intro k
        induction k with
        | zero => intro _; exact List.Pairwise.nil
        | succ k ih =>
          intro hk
          rw [selR]; split
          · refine List.pairwise_append.2 ⟨ih (by omega), List.pairwise_singleton _ _, fun x hx y hy => ?_⟩
            obtain ⟨j, hj, e⟩ := selR_mem hx
            rw [← e, List.mem_singleton.1 hy]
            exact hn j k hj (by omega)
          · exact ih (by omega)
      exact this _ (Nat.le_refl _)
    have := (hps.pairwise_iff (R := fun x y : Sgn => x.n ≠ y.n) (fun h => h.symm)).2 hsel
    intro i j hij hj
    have := List.pairwise_iff_getElem.1 this i j (by simp; omega) (by simpa using hj) hij
    simpa using this
  refine ord_unique (L := L) (dir := dir) (List.pairwise_iff_getElem.2 fun i j hi hj hij => ?_) (insR_sorted hn _ (Nat.le_refl _)) (hps.trans (insR_perm L dir h l l.length).symm)
  simp at hi hj
  have h1 := ho i j hij hj
  have h2 := hne i j hij hj
  rw [getElem!_pos _ j hj, getElem!_pos _ i hi] at h1
  have hd : ∀ k, (hk : k < l1.length) → l1[k].1.d = dstK L dir l1[k].1.s.c := fun k hk => by
    obtain ⟨m, hm, e⟩ := rowK_mem L js dir h l ad cp l1[k] l.length (hp.mem_iff.1 (List.getElem_mem hk))
    rw [e]; rfl
  simp only [List.getElem_map]
  unfold ahdP at h1
  rw [hd i hi, hd j hj] at h1
  unfold ahS
  omega
end Go.Proofs.YtiagflackfkmnaaGreat
