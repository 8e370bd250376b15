/-
  The faults of a row by its signs alone; two lists of faults in order are one. By an AI agent.; The signs of a proposal are valid, make hold what must hold, and have no faults: plain mathematics (for RuleProposed). By an AI agent.
-/
import Derived.Test.YtneafbhiencjlaaGreatDoorMgRuleProposed5
import Derived.Test.YtneafbhiencjlaaGreatDoorMgRuleProposed8
import Derived.Test.YtneafbhiencjlaaGreatDoorMgRuleProposed12
import Derived.Test.YtneafbhiencjlaaGreatDoorMgRuleProposed15


namespace Go.Proofs.YtneafbhiencjlaaGreatDoor
set_option linter.unusedVariables false
set_option linter.unusedSimpArgs false
open Go.RowKit

/-- Does an end end nothing? -/
def idlS (L : Int) (js : List Int) (dir : Int) (R : List Sgn) (s : Sgn) : Bool :=
  (dstK L dir s.c == 0) || !((endB s.k 1 && (hS L js dir 1 (dstK L dir s.c - 1) R 0 != 0)) || (endB s.k 2 && (hS L js dir 2 (dstK L dir s.c - 1) R 0 != 0)))
/-- Is a plate that of the start ahead of it? -/
def minS (R : List Sgn) (i : Nat) : Bool := decide (0 < i) && (((gs R (i - 1)).k == 1 || (gs R (i - 1)).k == 3) && plB R (i - 1))
/-- The fault of sign i of a row, or 0. -/
def codS (L : Int) (js : List Int) (dir : Int) (R : List Sgn) (i : Nat) : Int :=
  if (gs R i).k = 7 then (if minS R i = false ∨ L - dstK L dir (gs R i).c < (gs R i).v then 1 else 0)
  else if (gs R i).k = 6 then (if dstK L dir (gs R i).c = L ∨ hS L js dir 1 (dstK L dir (gs R i).c) R 0 ≠ (gs R i).v then 2 else 0)
  else if (gs R i).k = 2 ∨ (gs R i).k = 4 ∨ (gs R i).k = 5 then (if idlS L js dir R (gs R i) = true then 3 else 0)
  else if (gs R i).k = 1 ∨ (gs R i).k = 3 then (if dstK L dir (gs R i).c = L then 4 else 0) else 0
def fltS (L : Int) (js : List Int) (dir : Int) (R : List Sgn) : Nat → List Flt
  | 0 => []
  | k + 1 => if codS L js dir R k = 0 then fltS L js dir R k else fltS L js dir R k ++ [((gs R k).n, codS L js dir R k)]
theorem topK_ne (k : Int) : (topK k != 0) = (k == 1 || k == 3) := by
  unfold topK
  by_cases h1 : k = 1
  · subst h1; rfl
  · by_cases h3 : k = 3
    · subst h3; rfl
    · simp [h1, h3]
theorem hld_low {t k : Int} : ∀ (row : List Pst) (v : Int), (∀ p, p ∈ row → k < p.d) → hldL t k row v = v
  | [], v, _ => rfl
  | p :: r, v, h => by rw [hldL, if_pos (h p (by simp))]
theorem gs_row (row : List Pst) {i : Nat} (h : i < row.length) : gs (row.map (·.s)) i = (gq row i).s := by
  unfold gs gq; simp [h]
theorem cod_eq {L : Int} {js : List Int} {dir h : Int} {l : List Sgn} {q : List Edc} {row : List Pst} (hV : lstE L js l q = 0) (hd : dirB dir = true) (H : RowL L js dir h l row) (i : Nat) (hi : i < row.length) : codP L row (gq row i) = codS L js dir (insR L dir h l l.length) i := by
  obtain ⟨hn1, hn2⟩ := sgn_nums (lst_sgns hV)
  have hri := row_ins hn2 H
  have hlen : (insR L dir h l l.length).length = row.length := by rw [← hri, List.length_map]
  have hg : ∀ j, j < row.length → gs (insR L dir h l l.length) j = (gq row j).s := fun j hj => by rw [← hri]; exact gs_row row hj
  obtain ⟨e1, ⟨j, hj, e2, -⟩, -, e4⟩ := row_elem H i hi
  have hin := row_in hV hd H i hi
  have hh : ∀ t k : Int, t ≠ 0 → k < L → hldL t k row 0 = hS L js dir t k (insR L dir h l l.length) 0 := fun t k ht hk => hld_ins hn2 ht hk H
  have hlow : ∀ t : Int, hldL t (-1) row 0 = 0 := fun t => hld_low row 0 fun p hp => by
    obtain ⟨m, hm, e⟩ := List.getElem_of_mem hp
    have := (row_in hV hd H m hm).1.1
    have eg : gq row m = p := by unfold gq; simp [hm, e]
    rw [eg] at this
    omega
  unfold codP codS
  rw [hg i hi, ← e1]
  by_cases h7 : (gq row i).s.k = 7
  · rw [if_pos h7, if_pos h7]
    have : (gq row i).b = minS (insR L dir h l l.length) i := by
      rw [e4]
      unfold minS
      by_cases h0 : 0 < i
      · rw [decide_eq_true h0, Bool.true_and, Bool.true_and, hg (i - 1) (by omega), topK_ne]
        unfold plB
        rw [show i - 1 + 1 = i by omega, hlen, hg i hi, hg (i - 1) (by omega), decide_eq_true hi, Bool.true_and, dst_eq]
      · rw [decide_eq_false h0]; rfl
    rw [this]
  · rw [if_neg h7, if_neg h7]
    by_cases h6 : (gq row i).s.k = 6
    · rw [if_pos h6, if_pos h6]
      by_cases hdl : (gq row i).d = L
      · rw [if_pos (.inl hdl), if_pos (.inl hdl)]
      · rw [hh 1 _ (by omega) (by omega)]
    · rw [if_neg h6, if_neg h6]
      by_cases hc : (gq row i).s.k = 2 ∨ (gq row i).s.k = 4 ∨ (gq row i).s.k = 5
      · rw [if_pos hc, if_pos hc]
        have : idlS L js dir (insR L dir h l l.length) (gq row i).s = !(endP row (gq row i) 1 || endP row (gq row i) 2) := by
          unfold idlS endP
          rw [← e1]
          by_cases hd0 : (gq row i).d = 0
          · rw [hd0, show (0 : Int) - 1 = -1 by omega, hlow 1, hlow 2]
            simp
          · have : ((gq row i).d == 0) = false := beq_false_of_ne hd0
            rw [this, Bool.false_or, hh 1 _ (by omega) (by omega), hh 2 _ (by omega) (by omega)]
        rw [this]
        cases (endP row (gq row i) 1 || endP row (gq row i) 2) <;> rfl
      · rw [if_neg hc, if_neg hc]
theorem flt_eq {L : Int} {js : List Int} {dir h : Int} {l : List Sgn} {q : List Edc} {row : List Pst} (hV : lstE L js l q = 0) (hd : dirB dir = true) (H : RowL L js dir h l row) : ∀ k, k ≤ row.length → fltK L row k = fltS L js dir (insR L dir h l l.length) k
  | 0, _ => rfl
  | k + 1, hk => by
    have hri := row_ins (sgn_nums (lst_sgns hV)).2 H
    rw [fltK, fltS, flt_eq hV hd H k (by omega), cod_eq hV hd H k (by omega)]
    have : gs (insR L dir h l l.length) k = (gq row k).s := by rw [← hri]; exact gs_row row (by omega)
    rw [this]
/-- All faults of a line, row by row. -/
def allF (L : Int) (js : List Int) (h : Int) (l : List Sgn) : List Flt :=
  fltS L js 1 (insR L 1 h l l.length) (insR L 1 h l l.length).length ++ fltS L js (-1) (insR L (-1) h l l.length) (insR L (-1) h l l.length).length
theorem fltM_eq {L : Int} {js : List Int} {h : Int} {l : List Sgn} {q : List Edc} {M : List Flt} (hV : lstE L js l q = 0) (H : FltM L js h l 2 M) : M = allF L js h l := by
  obtain ⟨r1, r2, h1, h2, rfl⟩ := H
  have e1 := row_ins (sgn_nums (lst_sgns hV)).2 h1
  have e2 := row_ins (sgn_nums (lst_sgns hV)).2 h2
  unfold allF
  rw [flt_eq hV (by decide) h1 _ (Nat.le_refl _), flt_eq hV (by decide) h2 _ (Nat.le_refl _), ← e1, ← e2, List.length_map, List.length_map]
theorem fltS_sub (L : Int) (js : List Int) (dir : Int) (R : List Sgn) : ∀ k, k ≤ R.length → ((fltS L js dir R k).map (·.1)).Sublist ((R.take k).map (·.n))
  | 0, _ => by simp [fltS]
  | k + 1, hk => by
    have ih := fltS_sub L js dir R k (by omega)
    rw [fltS, List.take_add_one, List.getElem?_eq_getElem (by omega), Option.toList_some, List.map_append]
    split
    · exact ih.trans (List.sublist_append_left _ _)
    · rw [List.map_append]
      refine ih.append ?_
      rw [gs_at R (by omega)]
      exact List.Sublist.refl _
theorem selR_sub (dir h : Int) (l : List Sgn) : ∀ k, k ≤ l.length → (selR dir h l k).Sublist (l.take k)
  | 0, _ => by simp [selR]
  | k + 1, hk => by
    have ih := selR_sub dir h l k (by omega)
    rw [selR, List.take_add_one, List.getElem?_eq_getElem (by omega), Option.toList_some]
    split
    · refine ih.append ?_
      rw [gs_at l (by omega)]
      exact List.Sublist.refl _
    · exact ih.trans (List.sublist_append_left _ _)
theorem nums_nodup {l : List Sgn} (hn : ∀ i j, i < j → j < l.length → (gs l i).n ≠ (gs l j).n) : (l.map (·.n)).Nodup := by
  rw [List.Nodup, List.pairwise_iff_getElem]
  intro i j hi hj hij e
  simp only [List.length_map] at hi hj
  rw [List.getElem_map, List.getElem_map, ← gs_at l hi, ← gs_at l hj] at e
  exact hn i j hij hj e
theorem insR_nodup {L dir h : Int} {l : List Sgn} (hn : ∀ i j, i < j → j < l.length → (gs l i).n ≠ (gs l j).n) : ((insR L dir h l l.length).map (·.n)).Nodup := by
  have h1 := ((insR_perm L dir h l l.length).map (·.n)).nodup_iff.2
  refine h1 ?_
  have h2 := (selR_sub dir h l l.length (Nat.le_refl _)).map (·.n)
  rw [List.take_of_length_le (Nat.le_refl _)] at h2
  exact h2.nodup (nums_nodup hn)
theorem allF_nodup {L : Int} {js : List Int} {h : Int} {l : List Sgn} (hn : ∀ i j, i < j → j < l.length → (gs l i).n ≠ (gs l j).n) : ((allF L js h l).map (·.1)).Nodup := by
  unfold allF
  rw [List.map_append]
  have one : ∀ dir, ((fltS L js dir (insR L dir h l l.length) (insR L dir h l l.length).length).map (·.1)).Sublist ((insR L dir h l l.length).map (·.n)) := fun dir => by
    have := fltS_sub L js dir (insR L dir h l l.length) _ (Nat.le_refl _)
    rwa [List.take_of_length_le (Nat.le_refl _)] at this
  rw [List.nodup_append]
  refine ⟨(one 1).nodup (insR_nodup hn), (one (-1)).nodup (insR_nodup hn), fun x hx y hy e => ?_⟩
  obtain ⟨s1, hs1, e1⟩ := List.mem_map.1 ((one 1).subset hx)
  obtain ⟨s2, hs2, e2⟩ := List.mem_map.1 ((one (-1)).subset hy)
  have m1 := (insR_perm L 1 h l l.length).mem_iff.1 hs1
  have m2 := (insR_perm L (-1) h l l.length).mem_iff.1 hs2
  have d1 := selR_sel m1
  have d2 := selR_sel m2
  obtain ⟨i, hi, ei⟩ := selR_mem m1
  obtain ⟨j, hj, ej⟩ := selR_mem m2
  have hij : i = j := by
    rcases Nat.lt_trichotomy i j with hlt | heq | hlt
    · exact absurd (by rw [ei, ej, e1, e2, e]) (hn i j hlt hj)
    · exact heq
    · exact absurd (by rw [ei, ej, e1, e2, e]) (hn j i hlt hi)
  subst hij
  rw [← ei] at d1
  rw [← ej] at d2
  unfold selB at d1 d2
  simp only [Bool.and_eq_true, beq_iff_eq] at d1 d2
  omega
/-- Two lists of the same faults in the order of their numbers are one. -/
theorem flt_unique : ∀ {s t : List Flt}, s.Pairwise (fun x y => x.1 ≤ y.1) → t.Pairwise (fun x y => x.1 ≤ y.1) → (s.map (·.1)).Nodup → s.Perm t → s = t
  | [], t, _, _, _, hp => hp.nil_eq
  | x :: s, [], _, _, _, hp => by simpa using hp.length_eq
  | x :: s, y :: t, h1, h2, hn, hp => by
    have hxy : x = y := by
      have hx : x ∈ y :: t := hp.mem_iff.1 (by simp)
      have hy : y ∈ x :: s := hp.mem_iff.2 (by simp)
      rcases List.mem_cons.1 hx with e | hx
      · exact e
      · rcases List.mem_cons.1 hy with e | hy
        · exact e.symm
        · have a1 := (List.pairwise_cons.1 h1).1 y hy
          have a2 := (List.pairwise_cons.1 h2).1 x hx
          rw [List.map_cons, List.nodup_cons] at hn
          exact absurd (List.mem_map.2 ⟨y, hy, by omega⟩) hn.1
    subst hxy
    rw [List.map_cons, List.nodup_cons] at hn
    rw [flt_unique (List.pairwise_cons.1 h1).2 (List.pairwise_cons.1 h2).2 hn.2 hp.cons_inv]
/-- Where a fault goes in a list, from place k down. -/
def plcF (n : Int) (out : List Flt) : Nat → Nat
  | 0 => 0
  | k + 1 => if n < (gp out k).1 then plcF n out k else k + 1
theorem plcF_le (n : Int) (out : List Flt) : ∀ k, plcF n out k ≤ k
  | 0 => Nat.le_refl _
  | k + 1 => by
    rw [plcF]; split
    · exact Nat.le_succ_of_le (plcF_le n out k)
    · exact Nat.le_refl _
def insF (x : Flt) (out : List Flt) : List Flt := out.take (plcF x.1 out out.length) ++ x :: out.drop (plcF x.1 out out.length)
theorem insF_perm (x : Flt) (out : List Flt) : (insF x out).Perm (x :: out) := by
  unfold insF
  have h := List.perm_middle (a := x) (l₁ := out.take (plcF x.1 out out.length)) (l₂ := out.drop (plcF x.1 out out.length))
  rw [List.take_append_drop] at h
  exact h
theorem gp_at (l : List Flt) {i : Nat} (h : i < l.length) : gp l i = l[i] := by unfold gp; simp [h]
theorem plcF_spec {n : Int} {out : List Flt} (hs : out.Pairwise (fun x y => x.1 ≤ y.1)) : ∀ k, k ≤ out.length → (∀ i, i < plcF n out k → (gp out i).1 ≤ n) ∧ (∀ i, plcF n out k ≤ i → i < k → n < (gp out i).1)
  | 0, _ => ⟨fun i hi => absurd hi (Nat.not_lt_zero _), fun i _ hi => absurd hi (Nat.not_lt_zero _)⟩
  | k + 1, hk => by
    rw [plcF]; split
    next h =>
      have ih := plcF_spec (n := n) hs k (by omega)
      refine ⟨ih.1, fun i h1 h2 => ?_⟩
      by_cases e : i = k
      · rw [e]; exact h
      · exact ih.2 i h1 (by omega)
    next h =>
      refine ⟨fun i hi => ?_, fun i h1 h2 => by omega⟩
      by_cases e : i = k
      · rw [e]; omega
      · have := (List.pairwise_iff_getElem.1 hs) i k (by omega) (by omega) (by omega)
        rw [← gp_at out (by omega), ← gp_at out (by omega)] at this
        omega
theorem insF_sorted {x : Flt} {out : List Flt} (hs : out.Pairwise (fun x y => x.1 ≤ y.1)) : (insF x out).Pairwise (fun x y => x.1 ≤ y.1) := by
  obtain ⟨h1, h2⟩ := plcF_spec (n := x.1) hs out.length (Nat.le_refl _)
  have hle := plcF_le x.1 out out.length
  unfold insF
  generalize plcF x.1 out out.length = p at *
  have ht : ∀ y, y ∈ out.take p → y.1 ≤ x.1 := fun y hy => by
    obtain ⟨i, hi, e⟩ := List.getElem_of_mem hy
    rw [List.length_take] at hi
    rw [List.getElem_take] at e
    have := h1 i (by omega)
    rw [gp_at out (by omega), e] at this
    exact this
  have hd : ∀ y, y ∈ out.drop p → x.1 ≤ y.1 := fun y hy => by
    obtain ⟨i, hi, e⟩ := List.getElem_of_mem hy
    rw [List.length_drop] at hi
    rw [List.getElem_drop] at e
    have := h2 (p + i) (by omega) (by omega)
    rw [gp_at out (by omega), e] at this
    omega
  refine List.pairwise_append.2 ⟨hs.sublist (List.take_sublist _ _), List.pairwise_cons.2 ⟨hd, hs.sublist (List.drop_sublist _ _)⟩, fun y hy z hz => ?_⟩
  rcases List.mem_cons.1 hz with rfl | hz
  · exact ht y hy
  · have := ht y hy
    have := hd z hz
    omega
/-- The faults of the first k signs, put into a list one after the other. -/
def putF (L : Int) (js : List Int) (dir : Int) (R : List Sgn) (out : List Flt) : Nat → List Flt
  | 0 => out
  | k + 1 => if codS L js dir R k = 0 then putF L js dir R out k else insF ((gs R k).n, codS L js dir R k) (putF L js dir R out k)
theorem putF_perm (L : Int) (js : List Int) (dir : Int) (R : List Sgn) (out : List Flt) : ∀ k, (putF L js dir R out k).Perm (out ++ fltS L js dir R k)
  | 0 => by simp [putF, fltS]
  | k + 1 => by
    have ih := putF_perm L js dir R out k
    rw [putF, fltS]
    split
    · exact ih
    · refine (insF_perm _ _).trans ((ih.cons _).trans ?_)
      rw [← List.append_assoc]
      exact (List.perm_append_singleton _ _).symm
theorem putF_sorted {L : Int} {js : List Int} {dir : Int} {R : List Sgn} {out : List Flt} (h : out.Pairwise (fun x y => x.1 ≤ y.1)) : ∀ k, (putF L js dir R out k).Pairwise (fun x y => x.1 ≤ y.1)
  | 0 => h
  | k + 1 => by
    rw [putF]; split
    · exact putF_sorted h k
    · exact insF_sorted (putF_sorted h k)
/-- What the reference returns. -/
def refF (L : Int) (js : List Int) (h : Int) (l : List Sgn) : List Flt :=
  putF L js (-1) (insR L (-1) h l l.length) (putF L js 1 (insR L 1 h l l.length) [] (insR L 1 h l l.length).length) (insR L (-1) h l l.length).length
theorem refF_perm (L : Int) (js : List Int) (h : Int) (l : List Sgn) : (refF L js h l).Perm (allF L js h l) := by
  unfold refF allF
  refine (putF_perm _ _ _ _ _ _).trans (List.Perm.append_right _ ?_)
  have := putF_perm L js 1 (insR L 1 h l l.length) [] (insR L 1 h l l.length).length
  rwa [List.nil_append] at this
theorem refF_sorted (L : Int) (js : List Int) (h : Int) (l : List Sgn) : (refF L js h l).Pairwise (fun x y => x.1 ≤ y.1) := putF_sorted (putF_sorted List.Pairwise.nil _) _
/-- What Faults returns is that. -/
theorem fault_eq {L : Int} {js : List Int} {h : Int} {l : List Sgn} {q : List Edc} {M S : List Flt} (hV : lstE L js l q = 0) (H : FltM L js h l 2 M) (hp : S.Perm M) (hs : ∀ i j, i < j → j < S.length → (gp S i).1 ≤ (gp S j).1) : S = refF L js h l := by
  obtain ⟨hn1, hn2⟩ := sgn_nums (lst_sgns hV)
  rw [fltM_eq hV H] at hp
  have hpw : S.Pairwise (fun x y => x.1 ≤ y.1) := by
    rw [List.pairwise_iff_getElem]
    intro i j hi hj hij
    rw [← gp_at S hi, ← gp_at S hj]
    exact hs i j hij hj
  refine flt_unique hpw (refF_sorted L js h l) ((hp.map (·.1)).nodup_iff.2 (allF_nodup hn2)) (hp.trans (refF_perm L js h l).symm)
end Go.Proofs.YtneafbhiencjlaaGreatDoor

namespace Go.Proofs.YtneafbhiencjlaaGreatDoor
set_option linter.unusedVariables false
set_option linter.unusedSimpArgs false
open Go.RowKit

/-- What one change makes hold. -/
def fV (L : Int) (js : List Int) (D k : Int) (p : Int × Int) : Int := if p.2 = 0 then 0 else if jctB L js D (dstK L D p.1) k = true then 0 else p.2
def valL (L : Int) (js : List Int) (D k : Int) (l : List (Int × Int)) : Int := (l.filter fun p => decide (dstK L D p.1 ≤ k)).foldl (fun _ p => fV L js D k p) 0
theorem valL_snoc (L : Int) (js : List Int) (D k : Int) (l : List (Int × Int)) (p : Int × Int) : valL L js D k (l ++ [p]) = if dstK L D p.1 ≤ k then fV L js D k p else valL L js D k l := by
  unfold valL
  rw [List.filter_append]
  by_cases h : dstK L D p.1 ≤ k
  · rw [if_pos h, List.filter_cons, if_pos (by simpa using h), List.filter_nil, List.foldl_append]; rfl
  · rw [if_neg h, List.filter_cons, if_neg (by simpa using h), List.filter_nil, List.append_nil]
theorem jct_iff {L : Int} {js : List Int} {D d k : Int} : jctB L js D d k = true ↔ ∃ j, j ∈ js ∧ d < dstK L D j ∧ dstK L D j ≤ k := by
  unfold jctB
  constructor
  · intro h
    rcases Classical.em (∃ j, j ∈ js ∧ d < dstK L D j ∧ dstK L D j ≤ k) with h1 | h1
    · exact h1
    · rw [(anyK_iff _).2 (fun i hi => ?_)] at h
      · cases h
      · by_cases h2 : d < dstK L D (gi js i)
        · by_cases h3 : dstK L D (gi js i) ≤ k
          · exact absurd ⟨gi js i, by rw [gi_at js hi]; exact List.getElem_mem hi, h2, h3⟩ h1
          · simp [h3]
        · simp [h2]
  · rintro ⟨j, hj, h1, h2⟩
    obtain ⟨i, hi, e⟩ := List.getElem_of_mem hj
    refine anyK_true (j := i) ?_ _ hi
    rw [gi_at js hi, e]
    simp [h1, h2]
theorem jn_any {L D : Int} {js : List Int} {k : Int} : jnB L D js k = true ↔ ∃ j, j ∈ js ∧ dstK L D j = k := by
  unfold jnB
  rw [List.any_eq_true]
  simp only [beq_iff_eq]
theorem refN_fst (L : Int) (js : List Int) (q : List Edc) (h T D : Int) (n : Nat) : (refN L js q h T D (n + 1)).1 = vK L q h T D n := by rw [refN, stpN_fst]
theorem refN_snd (L : Int) (js : List Int) (q : List Edc) (h T D : Int) (n : Nat) : (refN L js q h T D (n + 1)).2 = if vK L q h T D n = nowJ L D js n (refN L js q h T D n).1 then (refN L js q h T D n).2 else (refN L js q h T D n).2 ++ [(dstK L D n, vK L q h T D n)] := by
  rw [refN]
  unfold stpN
  split <;> rfl
theorem refN_pos {L : Int} {js : List Int} {q : List Edc} {h T D : Int} : ∀ n, ∀ p, p ∈ (refN L js q h T D n).2 → ∃ j : Nat, j < n ∧ p.1 = dstK L D j ∧ p.2 = vK L q h T D j ∧ (p.2 = 0 → 0 < j ∧ vK L q h T D ((j - 1 : Nat) : Int) ≠ 0)
  | 0, p, hp => by cases hp
  | n + 1, p, hp => by
    rw [refN_snd] at hp
    split at hp
    · obtain ⟨j, h1, h2⟩ := refN_pos n p hp
      exact ⟨j, by omega, h2⟩
    next hne =>
      rw [List.mem_append] at hp
      rcases hp with hp | hp
      · obtain ⟨j, h1, h2⟩ := refN_pos n p hp
        exact ⟨j, by omega, h2⟩
      · rw [List.mem_singleton] at hp
        subst hp
        refine ⟨n, by omega, rfl, rfl, fun h0 => ?_⟩
        have h0 : vK L q h T D n = 0 := h0
        rw [h0] at hne
        have hn : (refN L js q h T D n).1 ≠ 0 := fun e => hne (by unfold nowJ; rw [e]; split <;> rfl)
        rcases n with _ | m
        · exact absurd rfl hn
        · rw [refN_fst] at hn
          exact ⟨by omega, by rw [Nat.add_sub_cancel]; exact hn⟩
theorem refN_dst {L : Int} {js : List Int} {q : List Edc} {h T D : Int} {n : Nat} {p : Int × Int} (hp : p ∈ (refN L js q h T D n).2) : 0 ≤ dstK L D p.1 ∧ dstK L D p.1 < n := by
  obtain ⟨j, h1, h2, -⟩ := refN_pos n p hp
  rw [h2, dst_dst]
  omega
theorem refN_pw (L : Int) (js : List Int) (q : List Edc) (h T D : Int) : ∀ n, (refN L js q h T D n).2.Pairwise fun x y => dstK L D x.1 < dstK L D y.1
  | 0 => List.Pairwise.nil
  | n + 1 => by
    have ih := refN_pw L js q h T D n
    rw [refN_snd]
    split
    · exact ih
    · refine List.pairwise_append.2 ⟨ih, List.pairwise_cons.2 ⟨(fun _ h => by cases h), List.Pairwise.nil⟩, fun x hx y hy => ?_⟩
      rw [List.mem_singleton] at hy
      subst hy
      show dstK L D x.1 < dstK L D (dstK L D n)
      rw [dst_dst]
      exact (refN_dst hx).2
theorem fold_zero {A : Type} {f : A → Int} : ∀ (l : List A), (∀ p, p ∈ l → f p = 0) → l.foldl (fun _ p => f p) (0 : Int) = 0
  | [], _ => rfl
  | x :: r, h => by
    rw [List.foldl_cons, h x (by simp)]
    exact fold_zero r fun p hp => h p (by simp [hp])
theorem fold_same {A : Type} {f g : A → Int} : ∀ (l : List A) (v : Int), (∀ p, p ∈ l → f p = g p) → l.foldl (fun _ p => f p) v = l.foldl (fun _ p => g p) v
  | [], v, _ => rfl
  | x :: r, v, h => by
    rw [List.foldl_cons, List.foldl_cons, h x (by simp)]
    exact fold_same r _ fun p hp => h p (by simp [hp])
/-- The changes say what must hold. -/
theorem valL_ref {L : Int} {js : List Int} {q : List Edc} {h T D : Int} : ∀ n : Nat, ∀ k : Int, 0 ≤ k → k < n → valL L js D k (refN L js q h T D n).2 = vK L q h T D k
  | 0, k, h0, h1 => by omega
  | n + 1, k, h0, h1 => by
    have ih := valL_ref (L := L) (js := js) (q := q) (h := h) (T := T) (D := D) n
    rw [refN_snd]
    by_cases hk : k < n
    · split
      · exact ih k h0 hk
      · rw [valL_snoc, if_neg (by show ¬ dstK L D (dstK L D n) ≤ k; rw [dst_dst]; omega)]
        exact ih k h0 hk
    · obtain rfl : k = n := by omega
      split
      next he =>
        rw [he]
        unfold valL
        rw [List.filter_eq_self.2 (fun p hp => by have := (refN_dst hp).2; simp; omega)]
        by_cases hj : jnB L D js n = true
        · unfold nowJ
          rw [if_pos hj]
          refine fold_zero _ fun p hp => ?_
          unfold fV
          obtain ⟨j, hj1, hj2⟩ := jn_any.1 hj
          rw [if_pos (jct_iff.2 ⟨j, hj1, by have := (refN_dst hp).2; omega, by omega⟩)]
          split <;> rfl
        · unfold nowJ
          rw [if_neg hj]
          rcases n with _ | m
          · rfl
          · rw [refN_fst]
            have i2 := ih m (by omega) (by omega)
            rw [← i2]
            unfold valL
            rw [List.filter_eq_self.2 (fun p hp => by have := (refN_dst hp).2; simp; omega)]
            refine fold_same _ _ fun p hp => ?_
            unfold fV
            have : jctB L js D (dstK L D p.1) ((m + 1 : Nat) : Int) = jctB L js D (dstK L D p.1) m := by
              rw [Bool.eq_iff_iff, jct_iff, jct_iff]
              constructor
              · rintro ⟨j, a1, a2, a3⟩
                refine ⟨j, a1, a2, ?_⟩
                rcases Int.lt_or_le m (dstK L D j) with hlt | hle
                · exact absurd (jn_any.2 ⟨j, a1, by omega⟩) hj
                · exact hle
              · rintro ⟨j, a1, a2, a3⟩
                exact ⟨j, a1, a2, by omega⟩
            rw [this]
      · rw [valL_snoc, if_pos (by show dstK L D (dstK L D n) ≤ n; rw [dst_dst]; omega)]
        unfold fV
        show (if vK L q h T D n = 0 then (0 : Int) else if jctB L js D (dstK L D (dstK L D n)) n = true then 0 else vK L q h T D n) = _
        rw [dst_dst]
        split
        next e => exact e.symm
        · rw [if_neg (fun hh => by obtain ⟨j, a1, a2, a3⟩ := jct_iff.1 hh; omega)]

/-- Is a sign of account for a topic? -/
def accB (t : Int) (s : Sgn) : Bool := endB s.k t || (topK s.k == t)
/-- What a sign without a plate makes hold. -/
def gV (L : Int) (js : List Int) (D t k : Int) (s : Sgn) : Int := if endB s.k t = true then 0 else if jctB L js D (dstK L D s.c) k = true then 0 else strK s.k s.v
theorem hS_fold {L : Int} {js : List Int} {D t k : Int} : ∀ (R : List Sgn) (v : Int), R.Pairwise (fun x y => dstK L D x.c ≤ dstK L D y.c) → (∀ s, s ∈ R → s.k ≠ 7) →
    hS L js D t k R v = (R.filter fun s => decide (dstK L D s.c ≤ k) && accB t s).foldl (fun _ s => gV L js D t k s) v
  | [], v, _, _ => rfl
  | s :: r, v, hp, h7 => by
    obtain ⟨p1, p2⟩ := List.pairwise_cons.1 hp
    rw [hS]
    split
    next hlt =>
      rw [List.filter_eq_nil_iff.2 (fun x hx => ?_)]
      · rfl
      · have hle : dstK L D s.c ≤ dstK L D x.c := by
          rcases List.mem_cons.1 hx with rfl | hx
          · exact Int.le_refl _
          · exact p1 x hx
        simp
        omega
    next hlt =>
      rw [hS_fold r _ p2 (fun x hx => h7 x (by simp [hx])), List.filter_cons, decide_eq_true (show dstK L D s.c ≤ k by omega), Bool.true_and]
      have hst : stpS L js D t k s r.head? v = if accB t s = true then gV L js D t k s else v := by
        have hpl : pltB L D k s r.head? = false := by
          cases hr : r.head? with
          | none => rfl
          | some p =>
            have : p.k ≠ 7 := h7 p (by simp [List.mem_of_mem_head? (by rw [hr]; rfl : p ∈ r.head?)])
            show (p.k == 7 && _) = false
            rw [show (p.k == 7) = false from beq_false_of_ne this]
            rfl
        unfold stpS gV accB shutB
        rw [hpl, Bool.or_false]
        by_cases he : endB s.k t = true
        · have ha : (endB s.k t || (topK s.k == t)) = true := by rw [he]; rfl
          rw [if_pos he, if_pos ha, if_pos he]
        · have e1 : endB s.k t = false := by
            cases hb : endB s.k t with
            | true => exact absurd hb he
            | false => rfl
          rw [if_neg he, if_neg he]
          by_cases ht : topK s.k = t
          · have ha : (endB s.k t || (topK s.k == t)) = true := by rw [e1, ht]; simp
            rw [if_pos ht, if_pos ha]
          · have ha : ¬ (endB s.k t || (topK s.k == t)) = true := by rw [e1, beq_false_of_ne ht]; simp
            rw [if_neg ht, if_neg ha]
      rw [hst]
      split
      · rw [List.foldl_cons]
      · rfl
/-- A sign without its number. -/
def strip (s : Sgn) : Sgn := { s with n := 0 }
theorem numS_strip : ∀ (l : List Sgn) (i : Nat), (numS i l).map strip = l.map strip
  | [], i => rfl
  | x :: r, i => by rw [numS, List.map_cons, List.map_cons, numS_strip r]; rfl
theorem numS_n : ∀ (l : List Sgn) (i j : Nat), j < l.length → (gs (numS i l) j).n = ((i + j : Nat) : Int) + 1
  | [], i, j, hj => by simp at hj
  | x :: r, i, 0, hj => by rw [numS]; rfl
  | x :: r, i, j + 1, hj => by
    have := numS_n r (i + 1) j (by simpa using hj)
    rw [numS]
    show (gs (numS (i + 1) r) j).n = _
    rw [this]
    omega
theorem prp_strip {L : Int} {js : List Int} {q : List Edc} {h : Int} : ∀ k, (prpK L js q h k).map strip = prpK L js q h k
  | 0 => rfl
  | k + 1 => by
    rw [prpK, List.map_append, prp_strip k]
    congr 1
    unfold wayN
    rw [List.map_map]
    rfl
theorem num_filter {P : Sgn → Bool} (hP : ∀ s, P (strip s) = P s) {L : Int} {js : List Int} {q : List Edc} {h : Int} : ((numS 0 (prpK L js q h 4)).filter P).map strip = (prpK L js q h 4).filter P := by
  have e : P ∘ strip = P := funext hP
  have := List.filter_map (f := strip) (p := P) (l := numS 0 (prpK L js q h 4))
  rw [numS_strip, prp_strip, e] at this
  exact this.symm
theorem way_filter (L : Int) (js : List Int) (q : List Edc) (h T D t d : Int) (hT : T = 1 ∨ T = 2) (ht : t = 1 ∨ t = 2) : (wayN L js q h T D).filter (fun s => selB d h s && accB t s) = if T = t ∧ D = d then wayN L js q h T D else [] := by
  have key : ∀ s, s ∈ wayN L js q h T D → (selB d h s && accB t s) = decide (T = t ∧ D = d) := fun s hs => by
    unfold wayN at hs
    obtain ⟨p, -, rfl⟩ := List.mem_map.1 hs
    have h1 : selB d h (sgC T D h 0 p) = (D == d) := by
      unfold selB spkB sgC
      simp [anyK]
      omega
    have h2 : accB t (sgC T D h 0 p) = decide (T = t) := by
      unfold accB sgC kndK endB topK
      rcases hT with rfl | rfl <;> rcases ht with rfl | rfl <;> by_cases hv : p.2 = 0 <;> simp [hv]
    rw [h1, h2]
    by_cases e1 : D = d <;> by_cases e2 : T = t <;> simp [e1, e2]
  split
  next hh => rw [List.filter_eq_self.2 (fun s hs => by rw [key s hs]; simpa using hh)]
  next hh => rw [List.filter_eq_nil_iff.2 (fun s hs => by rw [key s hs]; simpa using hh)]
theorem prp_filter (L : Int) (js : List Int) (q : List Edc) (h t d : Int) (ht : t = 1 ∨ t = 2) (hd : d = 1 ∨ d = -1) : (prpK L js q h 4).filter (fun s => selB d h s && accB t s) = wayN L js q h t d := by
  simp only [prpK, List.filter_append, List.nil_append, List.filter_nil]
  rw [way_filter L js q h (tpK 0) (drK 0) t d (.inl rfl) ht, way_filter L js q h (tpK 1) (drK 1) t d (.inl rfl) ht, way_filter L js q h (tpK 2) (drK 2) t d (.inr rfl) ht, way_filter L js q h (tpK 3) (drK 3) t d (.inr rfl) ht]
  rcases ht with rfl | rfl <;> rcases hd with rfl | rfl <;> simp [tpK, drK]
theorem must_val {L : Int} {js : List Int} {q : List Edc} (hq : edcsB L js q = true) (h t d m : Int) : mustV q h t d m = 0 ∨ edV t (mustV q h t d m) = true := by
  have key : ∀ n, n ≤ q.length → (mustK q h t d m n).2 = 0 ∨ edV t (mustK q h t d m n).2 = true := fun n => by
    induction n with
    | zero => exact fun _ => .inl rfl
    | succ n ih =>
      intro hn
      rw [mustK]
      split
      next hc =>
        right
        have hv := edc_in hq n (by omega)
        unfold edcB at hv
        simp only [Bool.and_eq_true] at hv hc
        have h1 : edB (ge q n) h t d m = true := hc.1
        unfold edB at h1
        simp only [Bool.and_eq_true, beq_iff_eq] at h1
        rw [← h1.1]
        exact hv.1.1.1.1.1
      · exact ih (by omega)
  exact key q.length (Nat.le_refl _)
theorem edV_two {v : Int} (h : edV 2 v = true) : v = 1 := by
  unfold edV at h
  simpa using h
theorem edV_one {v : Int} (h : edV 1 v = true) : 10 ≤ v ∧ v ≤ 200 := by
  unfold edV btw at h
  simpa using h
section
variable {L : Int} {js : List Int} {q : List Edc} {h : Int}
/-- A sign of the proposal. -/
theorem prp_mem : ∀ k, k ≤ 4 → ∀ s, s ∈ prpK L js q h k → ∃ T D p, (T = 1 ∨ T = 2) ∧ (D = 1 ∨ D = -1) ∧ p ∈ (refN L js q h T D L.toNat).2 ∧ s = sgC T D h 0 p
  | 0, _, s, hs => by cases hs
  | k + 1, hk, s, hs => by
    rw [prpK, List.mem_append] at hs
    rcases hs with hs | hs
    · exact prp_mem k (by omega) s hs
    · unfold wayN at hs
      obtain ⟨p, hp, rfl⟩ := List.mem_map.1 hs
      exact ⟨_, _, p, by unfold tpK; split <;> simp, by unfold drK; split <;> simp, hp, rfl⟩
theorem ps_mem {s : Sgn} (hs : s ∈ numS 0 (prpK L js q h 4)) : ∃ T D p, (T = 1 ∨ T = 2) ∧ (D = 1 ∨ D = -1) ∧ p ∈ (refN L js q h T D L.toNat).2 ∧ strip s = sgC T D h 0 p := by
  have : strip s ∈ (numS 0 (prpK L js q h 4)).map strip := List.mem_map_of_mem hs
  rw [numS_strip, prp_strip] at this
  exact prp_mem 4 (Nat.le_refl _) _ this
theorem ps_nums (i j : Nat) (hij : i < j) (hj : j < (numS 0 (prpK L js q h 4)).length) : (gs (numS 0 (prpK L js q h 4)) i).n ≠ (gs (numS 0 (prpK L js q h 4)) j).n := by
  rw [numS_len] at hj
  rw [numS_n _ _ _ (by omega), numS_n _ _ _ hj]
  omega
/-- The row of a direction. -/
theorem row_mem {D : Int} {s : Sgn} (hs : s ∈ insR L D h (numS 0 (prpK L js q h 4)) (numS 0 (prpK L js q h 4)).length) : ∃ T p, (T = 1 ∨ T = 2) ∧ p ∈ (refN L js q h T D L.toNat).2 ∧ strip s = sgC T D h 0 p := by
  have h1 := (insR_perm L D h _ _).mem_iff.1 hs
  rw [selR_filter, List.mem_filter] at h1
  obtain ⟨T, D', p, hT, hD', hp, e⟩ := ps_mem h1.1
  have h2 := h1.2
  unfold selB at h2
  simp only [Bool.and_eq_true, beq_iff_eq] at h2
  have h3 : s.d = D' := congrArg (·.d) e
  have : D' = D := by rw [← h3]; exact h2.1
  subst this
  exact ⟨T, p, hT, hp, e⟩
theorem row_k7 {D : Int} {s : Sgn} (hs : s ∈ insR L D h (numS 0 (prpK L js q h 4)) (numS 0 (prpK L js q h 4)).length) : s.k ≠ 7 := by
  obtain ⟨T, p, hT, hp, e⟩ := row_mem hs
  have h3 : s.k = kndK T p.2 := congrArg (·.k) e
  rw [h3]
  unfold kndK
  rcases hT with rfl | rfl <;> by_cases hv : p.2 = 0 <;> simp [hv]
theorem row_pw (D : Int) : (insR L D h (numS 0 (prpK L js q h 4)) (numS 0 (prpK L js q h 4)).length).Pairwise (fun x y => dstK L D x.c ≤ dstK L D y.c) :=
  (insR_sorted ps_nums _ (Nat.le_refl _)).imp fun hh => by unfold ahS at hh; omega
theorem row_acc (t D : Int) (ht : t = 1 ∨ t = 2) (hD : D = 1 ∨ D = -1) : ((insR L D h (numS 0 (prpK L js q h 4)) (numS 0 (prpK L js q h 4)).length).filter (accB t)).map strip = wayN L js q h t D := by
  have hC : ((numS 0 (prpK L js q h 4)).filter (fun s => selB D h s && accB t s)).map strip = wayN L js q h t D := by
    rw [num_filter (fun s => rfl), prp_filter _ _ _ _ _ _ ht hD]
  have hpw : ((numS 0 (prpK L js q h 4)).filter (fun s => selB D h s && accB t s)).Pairwise (ahS L D) := by
    have : (((numS 0 (prpK L js q h 4)).filter (fun s => selB D h s && accB t s)).map strip).Pairwise (fun x y => dstK L D x.c < dstK L D y.c) := by
      rw [hC]
      unfold wayN
      rw [List.pairwise_map]
      exact refN_pw L js q h t D _
    rw [List.pairwise_map] at this
    exact this.imp fun hh => .inl hh
  have hperm : ((insR L D h (numS 0 (prpK L js q h 4)) (numS 0 (prpK L js q h 4)).length).filter (accB t)).Perm ((numS 0 (prpK L js q h 4)).filter (fun s => selB D h s && accB t s)) := by
    have h1 := (insR_perm L D h (numS 0 (prpK L js q h 4)) (numS 0 (prpK L js q h 4)).length).filter (accB t)
    rw [selR_filter, List.filter_filter] at h1
    have e : (fun s => accB t s && selB D h s) = fun s => selB D h s && accB t s := funext fun s => Bool.and_comm _ _
    rw [e] at h1
    exact h1
  rw [ord_unique ((insR_sorted ps_nums _ (Nat.le_refl _)).filter _) hpw hperm, hC]
/-- The signs of the proposal make hold what must hold. -/
theorem prp_hS (hq : edcsB L js q = true) (t D k : Int) (ht : t = 1 ∨ t = 2) (hD : D = 1 ∨ D = -1) (h0 : 0 ≤ k) (hk : k < L) :
    hS L js D t k (insR L D h (numS 0 (prpK L js q h 4)) (numS 0 (prpK L js q h 4)).length) 0 = vK L q h t D k := by
  rw [hS_fold _ _ (row_pw D) (fun s hs => row_k7 hs)]
  have e1 := List.filter_filter (p := fun s => decide (dstK L D s.c ≤ k)) (q := accB t) (l := insR L D h (numS 0 (prpK L js q h 4)) (numS 0 (prpK L js q h 4)).length)
  rw [← e1]
  generalize hA : (insR L D h (numS 0 (prpK L js q h 4)) (numS 0 (prpK L js q h 4)).length).filter (accB t) = A
  have hw := row_acc (L := L) (js := js) (q := q) (h := h) t D ht hD
  rw [hA] at hw
  have e2 : (A.filter fun s => decide (dstK L D s.c ≤ k)).foldl (fun _ s => gV L js D t k s) 0 = ((wayN L js q h t D).filter fun s => decide (dstK L D s.c ≤ k)).foldl (fun _ s => gV L js D t k s) 0 := by
    rw [← hw, List.filter_map, List.foldl_map]
    rfl
  rw [e2]
  unfold wayN
  rw [List.filter_map, List.foldl_map]
  rw [← valL_ref (L := L) (js := js) (q := q) (h := h) (T := t) (D := D) L.toNat k h0 (by omega)]
  unfold valL
  refine fold_same _ _ fun p hp => ?_
  obtain ⟨j, -, hp1, hp2, -⟩ := refN_pos _ p (List.mem_filter.1 hp).1
  unfold gV fV
  show (if endB (kndK t p.2) t = true then 0 else if jctB L js D (dstK L D p.1) k = true then 0 else strK (kndK t p.2) (if t = 1 then p.2 else 0)) = _
  have hv := must_val hq h t D (begK L D j)
  rcases ht with rfl | rfl
  · by_cases hz : p.2 = 0
    · rw [if_pos hz, if_pos (by rw [hz]; rfl)]
    · rw [if_neg hz, if_neg (by unfold kndK; simp [hz, endB])]
      unfold kndK strK
      simp [hz]
  · by_cases hz : p.2 = 0
    · rw [if_pos hz, if_pos (by rw [hz]; rfl)]
    · rw [if_neg hz, if_neg (by unfold kndK; simp [hz, endB])]
      have : p.2 = 1 := by
        rw [hp2]
        unfold vK
        rcases hv with hv | hv
        · exact absurd (by rw [hp2]; exact hv) hz
        · exact edV_two hv
      rw [this]
      rfl
theorem beg_beg {D m : Int} : begK L D (begK L D m) = m := by unfold begK; split <;> omega
theorem prp_holds (hq : edcsB L js q = true) (t D m : Int) (ht : t = 1 ∨ t = 2) (hD : D = 1 ∨ D = -1) (h0 : 0 ≤ m) (hm : m < L) : hldV L js (numS 0 (prpK L js q h 4)) h D t m = mustV q h t D m := by
  unfold hldV
  have hb : 0 ≤ begK L D m ∧ begK L D m < L := by unfold begK; split <;> omega
  rw [prp_hS hq t D _ ht hD hb.1 hb.2]
  unfold vK
  rw [beg_beg]
theorem strV_all {V : Type} [DecidableEq V] [Inhabited V] {sk : V → Bool} {f : Int → V} : ∀ n : Nat, (∀ i : Nat, i < n → sk (f i) = true) → strV sk f n = []
  | 0, _ => rfl
  | n + 1, hh => by
    rw [strV, strV_all n (fun i hi => hh i (by omega))]
    unfold st1V
    rw [if_pos (hh n (by omega))]
/-- A proposal leaves no gaps. -/
theorem prp_gaps (hq : edcsB L js q = true) : gapK L js (numS 0 (prpK L js q h 4)) q h 4 = [] := by
  have hw : ∀ t D, (t = 1 ∨ t = 2) → (D = 1 ∨ D = -1) → gapW L js (numS 0 (prpK L js q h 4)) q h t D = [] := fun t D ht hD => by
    unfold gapW
    rw [strV_all _ (fun i hi => ?_)]
    · rfl
    · unfold bothF skG
      show (_ == _) = true
      rw [beq_iff_eq]
      exact prp_holds hq t D i ht hD (by omega) (by omega)
  simp only [gapK]
  rw [hw (tpK 0) (drK 0) (.inl rfl) (.inl rfl), hw (tpK 1) (drK 1) (.inl rfl) (.inr rfl), hw (tpK 2) (drK 2) (.inr rfl) (.inl rfl), hw (tpK 3) (drK 3) (.inr rfl) (.inr rfl)]
  rfl
/-- A proposal has no faults. -/
theorem prp_cod (hq : edcsB L js q = true) (D : Int) (hD : D = 1 ∨ D = -1) (i : Nat) (hi : i < (insR L D h (numS 0 (prpK L js q h 4)) (numS 0 (prpK L js q h 4)).length).length) :
    codS L js D (insR L D h (numS 0 (prpK L js q h 4)) (numS 0 (prpK L js q h 4)).length) i = 0 := by
  have hs : gs (insR L D h (numS 0 (prpK L js q h 4)) (numS 0 (prpK L js q h 4)).length) i ∈ insR L D h (numS 0 (prpK L js q h 4)) (numS 0 (prpK L js q h 4)).length := by rw [gs_at _ hi]; exact List.getElem_mem hi
  obtain ⟨T, p, hT, hp, e⟩ := row_mem hs
  have hh := fun t k ht h0 hk => prp_hS (h := h) hq t D k ht hD h0 hk
  generalize insR L D h (numS 0 (prpK L js q h 4)) (numS 0 (prpK L js q h 4)).length = R at *
  unfold codS
  generalize gs R i = s at *
  have ek : s.k = kndK T p.2 := congrArg (·.k) e
  have ec : s.c = p.1 := congrArg (·.c) e
  obtain ⟨j, hj, hp1, hp2, hp3⟩ := refN_pos _ p hp
  have ed : dstK L D s.c = j := by rw [ec, hp1, dst_dst]
  rw [ek, ed]
  by_cases hz : p.2 = 0
  · obtain ⟨h1, h2⟩ := hp3 hz
    have hidl : idlS L js D R s = false := by
      unfold idlS
      rw [ek, ed, hz]
      have h0 : ((j : Int) == 0) = false := beq_false_of_ne (by omega)
      rw [h0]
      have hj1 : (j : Int) - 1 = ((j - 1 : Nat) : Int) := by omega
      rcases hT with rfl | rfl
      · have hk := hh 1 ((j : Int) - 1) (.inl rfl) (by omega) (by omega)
        rw [hk, hj1]
        simp [kndK, endB, h2]
      · have hk := hh 2 ((j : Int) - 1) (.inr rfl) (by omega) (by omega)
        rw [hk, hj1]
        simp [kndK, endB, h2]
    rw [hz]
    rcases hT with rfl | rfl <;> simp [kndK, hidl]
  · rcases hT with rfl | rfl <;> simp [kndK, hz] <;> omega
theorem flt_none (hq : edcsB L js q = true) (D : Int) (hD : D = 1 ∨ D = -1) : ∀ k, k ≤ (insR L D h (numS 0 (prpK L js q h 4)) (numS 0 (prpK L js q h 4)).length).length → fltS L js D (insR L D h (numS 0 (prpK L js q h 4)) (numS 0 (prpK L js q h 4)).length) k = []
  | 0, _ => rfl
  | k + 1, hk => by rw [fltS, if_pos (prp_cod hq D hD k (by omega)), flt_none hq D hD k (by omega)]
theorem prp_faults (hq : edcsB L js q = true) : refF L js h (numS 0 (prpK L js q h 4)) = [] := by
  have h1 := refF_perm L js h (numS 0 (prpK L js q h 4))
  unfold allF at h1
  rw [flt_none hq 1 (.inl rfl) _ (Nat.le_refl _), flt_none hq (-1) (.inr rfl) _ (Nat.le_refl _)] at h1
  exact h1.eq_nil
/-- The signs of a proposal are valid. -/
theorem prp_valid (hl : lineB L js = true) (hq : edcsB L js q = true) (hh : btw h 0 10000000 = true) (hn : (prpK L js q h 4).length ≤ 100) : sgnsB L js (numS 0 (prpK L js q h 4)) = true := by
  have hb : 0 ≤ h ∧ h ≤ 10000000 := by simpa [btw] using hh
  refine s_end hl (by rw [numS_len]; exact hn) fun k hk => ⟨?_, ?_, fun j hj e => ps_nums j k hj hk e⟩
  · rw [numS_len] at hk
    rw [numS_n _ _ _ hk]
    unfold btw
    rw [decide_eq_true (by omega), decide_eq_true (by omega)]
    rfl
  · have hm : gs (numS 0 (prpK L js q h 4)) k ∈ numS 0 (prpK L js q h 4) := by rw [gs_at _ hk]; exact List.getElem_mem hk
    obtain ⟨T, D, p, hT, hD, hp, e⟩ := ps_mem hm
    generalize gs (numS 0 (prpK L js q h 4)) k = s at *
    have : sgnB L s = sgnB L (strip s) := rfl
    rw [this, e]
    obtain ⟨j, hj, hp1, hp2, -⟩ := refN_pos _ p hp
    have hc : 0 ≤ p.1 ∧ p.1 ≤ L := by
      rw [hp1]
      exact dst_in (by rcases hD with rfl | rfl <;> rfl) (by omega) (by omega)
    have hv : valB (kndK T p.2) (if T = 1 then p.2 else 0) = true := by
      have hv := must_val hq h T D (begK L D j)
      rcases hT with rfl | rfl
      · by_cases hz : p.2 = 0
        · rw [hz]; rfl
        · have : 10 ≤ p.2 ∧ p.2 ≤ 200 := by
            rw [hp2]
            rcases hv with hv | hv
            · exact absurd (by rw [hp2]; exact hv) hz
            · exact edV_one hv
          unfold valB kndK btw
          simp [hz, this.1, this.2]
      · by_cases hz : p.2 = 0
        · rw [hz]; rfl
        · unfold valB kndK
          simp [hz]
    unfold sgnB sgC timeB covB
    show (valB (kndK T p.2) (if T = 1 then p.2 else 0) && btw p.1 0 L && dirB D && btw T 1 9 && (decide (0 ≤ h) && decide (h < h + 1) && decide (h + 1 ≤ 10000001)) && decide (([] : List Spn).length ≤ 10) && !(anyK _ ([] : List Spn).length)) = true
    rw [hv]
    have d1 : btw p.1 0 L = true := by unfold btw; rw [decide_eq_true hc.1, decide_eq_true hc.2]; rfl
    have d2 : dirB D = true := by rcases hD with rfl | rfl <;> rfl
    have d3 : btw T 1 9 = true := by rcases hT with rfl | rfl <;> rfl
    rw [d1, d2, d3, decide_eq_true hb.1, decide_eq_true (show h < h + 1 by omega), decide_eq_true (show h + 1 ≤ 10000001 by omega)]
    rfl
/-- Without edicts no signs are needed. -/
theorem prp_none (L : Int) (js : List Int) (h : Int) : prpK L js [] h 4 = [] := by
  have hv : ∀ T D k, vK L [] h T D k = 0 := fun T D k => rfl
  have hr : ∀ T D n, refN L js [] h T D n = (0, []) := fun T D n => by
    induction n with
    | zero => rfl
    | succ n ih =>
      rw [refN, ih]
      unfold stpN
      rw [hv, if_pos (by unfold nowJ; split <;> rfl)]
      unfold nowJ
      simp
  have hw : ∀ T D, wayN L js [] h T D = [] := fun T D => by unfold wayN; rw [hr]; rfl
  simp only [prpK, hw, List.append_nil]
end
end Go.Proofs.YtneafbhiencjlaaGreatDoor
