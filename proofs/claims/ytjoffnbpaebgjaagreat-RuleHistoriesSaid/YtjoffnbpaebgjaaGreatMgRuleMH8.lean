/-
  The row of a direction: the program's order and that of insertion are one. By an AI agent.; What a row of signs makes hold, as a function of the signs alone. By an AI agent.; The program's Row. By an AI agent.; The reference's Speaks, Distance, ahead. By an AI agent.
-/
import Derived.Test.YtjoffnbpaebgjaaGreatMgRuleMH3
import Derived.Test.YtjoffnbpaebgjaaGreatMgRuleMH4
import Derived.Test.YtjoffnbpaebgjaaGreatMgRuleMH6
import Derived.Test.YtjoffnbpaebgjaaGreatMgRuleMH7
import Derived.Deep.AppendLies
import Derived.BigQuiet
import Derived.BigRegion
import Derived.Deep.RegionHeld3

namespace Go.Proofs.YtjoffnbpaebgjaaGreat
set_option linter.unusedVariables false
set_option linter.unusedSimpArgs false
open Go.RowKit

/-- Does one sign stand before another one? -/
def ahS (L dir : Int) (x y : Sgn) : Prop := dstK L dir x.c < dstK L dir y.c ∨ (dstK L dir x.c = dstK L dir y.c ∧ (x.rk < y.rk ∨ (x.rk = y.rk ∧ x.n < y.n)))
instance (L dir : Int) (x y : Sgn) : Decidable (ahS L dir x y) := by unfold ahS; infer_instance
theorem ahS_trans {L dir : Int} {x y z : Sgn} (h1 : ahS L dir x y) (h2 : ahS L dir y z) : ahS L dir x z := by unfold ahS at *; omega
theorem ahS_irr {L dir : Int} {x : Sgn} (h : ahS L dir x x) : False := by unfold ahS at h; omega
theorem ahS_tot {L dir : Int} {x y : Sgn} (h : x.n ≠ y.n) : ahS L dir x y ∨ ahS L dir y x := by unfold ahS; omega
/-- Where a sign goes in a row, from place k down. -/
def plcS (L dir : Int) (x : Sgn) (out : List Sgn) : Nat → Nat
  | 0 => 0
  | k + 1 => if ahS L dir x (gs out k) then plcS L dir x out k else k + 1
theorem plcS_le (L dir : Int) (x : Sgn) (out : List Sgn) : ∀ k, plcS L dir x out k ≤ k
  | 0 => Nat.le_refl _
  | k + 1 => by
    rw [plcS]; split
    · exact Nat.le_succ_of_le (plcS_le L dir x out k)
    · exact Nat.le_refl _
/-- The row of the first k signs as insertion makes it. -/
def insR (L dir h : Int) (l : List Sgn) : Nat → List Sgn
  | 0 => []
  | k + 1 => if selB dir h (gs l k) = true then
      (insR L dir h l k).take (plcS L dir (gs l k) (insR L dir h l k) (insR L dir h l k).length) ++ gs l k :: (insR L dir h l k).drop (plcS L dir (gs l k) (insR L dir h l k) (insR L dir h l k).length)
    else insR L dir h l k
theorem insR_len (L dir h : Int) (l : List Sgn) : ∀ k, (insR L dir h l k).length ≤ k
  | 0 => Nat.le_refl _
  | k + 1 => by
    have := insR_len L dir h l k
    have hp := plcS_le L dir (gs l k) (insR L dir h l k) (insR L dir h l k).length
    rw [insR]; split
    · simp; omega
    · omega
/-- The signs of the row, as they lie in the list. -/
def selR (dir h : Int) (l : List Sgn) : Nat → List Sgn
  | 0 => []
  | k + 1 => if selB dir h (gs l k) = true then selR dir h l k ++ [gs l k] else selR dir h l k
theorem insR_perm (L dir h : Int) (l : List Sgn) : ∀ k, (insR L dir h l k).Perm (selR dir h l k)
  | 0 => List.Perm.refl _
  | k + 1 => by
    have ih := insR_perm L dir h l k
    rw [insR, selR]; split
    · refine List.perm_middle.trans ?_
      rw [List.take_append_drop]
      exact (List.Perm.cons _ ih).trans (List.perm_append_singleton _ _).symm
    · exact ih
theorem rowK_sel (L : Int) (js : List Int) (dir h : Int) (l : List Sgn) (ad : Nat → Option Addr) (cp : Nat → Nat) : ∀ k, (rowK L js dir h l ad cp k).map (fun x => x.1.s) = selR dir h l k
  | 0 => rfl
  | k + 1 => by
    have ih := rowK_sel L js dir h l ad cp k
    rw [rowK, selR]; split
    · rw [List.map_append, ih]; rfl
    · exact ih
theorem selR_mem {dir h : Int} {l : List Sgn} {x : Sgn} : ∀ {k}, x ∈ selR dir h l k → ∃ j, j < k ∧ gs l j = x
  | 0, hx => by simp [selR] at hx
  | k + 1, hx => by
    rw [selR] at hx
    split at hx
    · rw [List.mem_append] at hx
      rcases hx with hx | hx
      · obtain ⟨j, hj, e⟩ := selR_mem hx; exact ⟨j, by omega, e⟩
      · exact ⟨k, by omega, (List.mem_singleton.1 hx).symm⟩
    · obtain ⟨j, hj, e⟩ := selR_mem hx; exact ⟨j, by omega, e⟩
theorem gs_at (l : List Sgn) {i : Nat} (h : i < l.length) : gs l i = l[i] := by unfold gs; simp [h]
/-- Where a sign goes: all before it are ahead of it, it is ahead of all behind. -/
theorem plcS_spec {L dir : Int} {x : Sgn} {out : List Sgn} (hs : out.Pairwise (ahS L dir)) (hx : ∀ y, y ∈ out → y.n ≠ x.n) : ∀ k, k ≤ out.length → (∀ i, i < plcS L dir x out k → ahS L dir (gs out i) x) ∧ (∀ i, plcS L dir x out k ≤ i → i < k → ahS L dir x (gs out i))
  | 0, _ => ⟨fun i hi => absurd hi (Nat.not_lt_zero _), fun i _ hi => absurd hi (Nat.not_lt_zero _)⟩
  | k + 1, hk => by
    rw [plcS]; split
    next h =>
      have ih := plcS_spec hs hx k (by omega)
      refine ⟨ih.1, fun i h1 h2 => ?_⟩
      by_cases e : i = k
      · rw [e]; exact h
      · exact ih.2 i h1 (by omega)
    next h =>
      refine ⟨fun i hi => ?_, fun i h1 h2 => by omega⟩
      have hkx : ahS L dir (gs out k) x := by
        rcases ahS_tot (L := L) (dir := dir) (x := x) (y := gs out k) (fun e => hx _ (by rw [gs_at out (by omega)]; exact List.getElem_mem _) e.symm) with h1 | h1
        · exact absurd h1 h
        · exact h1
      by_cases e : i = k
      · rw [e]; exact hkx
      · have := List.pairwise_iff_getElem.1 hs i k (by omega) (by omega) (by omega)
        rw [← gs_at out (by omega), ← gs_at out (by omega)] at this
        exact ahS_trans this hkx
theorem insR_sorted {L dir h : Int} {l : List Sgn} (hn : ∀ i j, i < j → j < l.length → (gs l i).n ≠ (gs l j).n) : ∀ k, k ≤ l.length → (insR L dir h l k).Pairwise (ahS L dir)
  | 0, _ => List.Pairwise.nil
  | k + 1, hk => by
    have ih := insR_sorted (L := L) (dir := dir) (h := h) hn k (by omega)
    rw [insR]; split
    · have hx : ∀ y, y ∈ insR L dir h l k → y.n ≠ (gs l k).n := fun y hy => by
        obtain ⟨j, hj, e⟩ := selR_mem ((insR_perm L dir h l k).mem_iff.1 hy)
        rw [← e]
        exact hn j k hj (by omega)
      have hp := plcS_spec ih hx (insR L dir h l k).length (Nat.le_refl _)
      have hle := plcS_le L dir (gs l k) (insR L dir h l k) (insR L dir h l k).length
      generalize plcS L dir (gs l k) (insR L dir h l k) (insR L dir h l k).length = p at *
      generalize insR L dir h l k = out at *
      generalize gs l k = x at *
      have ha : ∀ y, y ∈ out.take p → ahS L dir y x := fun y hy => by
        obtain ⟨i, hi, e⟩ := List.getElem_of_mem hy
        simp at hi
        have := hp.1 i (by omega)
        rw [gs_at out (by omega)] at this
        rw [← e, List.getElem_take]; exact this
      have hb : ∀ y, y ∈ out.drop p → ahS L dir x y := fun y hy => by
        obtain ⟨i, hi, e⟩ := List.getElem_of_mem hy
        simp at hi
        have := hp.2 (p + i) (by omega) (by omega)
        rw [gs_at out (by omega)] at this
        rw [← e, List.getElem_drop]; exact this
      refine List.pairwise_append.2 ⟨List.Pairwise.sublist (List.take_sublist _ _) ih, List.pairwise_cons.2 ⟨hb, List.Pairwise.sublist (List.drop_sublist _ _) ih⟩, fun y hy z hz => ?_⟩
      rcases List.mem_cons.1 hz with rfl | hz
      · exact ha y hy
      · exact ahS_trans (ha y hy) (hb z hz)
    · exact ih
/-- Two lists of the same signs, both in order, are one. -/
theorem ord_unique {L dir : Int} : ∀ {s t : List Sgn}, s.Pairwise (ahS L dir) → t.Pairwise (ahS L dir) → s.Perm t → s = t
  | [], t, _, _, hp => (List.Perm.nil_eq hp)
  | x :: s, [], _, _, hp => by have := hp.length_eq; simp at this
  | x :: s, y :: t, hs, ht, hp => by
    have hxy : x = y := by
      have h1 := hp.mem_iff.1 (List.mem_cons_self (a := x) (l := s))
      have h2 := hp.mem_iff.2 (List.mem_cons_self (a := y) (l := t))
      rcases List.mem_cons.1 h1 with e | h1
      · exact e
      · rcases List.mem_cons.1 h2 with e | h2
        · exact e.symm
        · exact (ahS_irr (ahS_trans ((List.pairwise_cons.1 ht).1 x h1) ((List.pairwise_cons.1 hs).1 y h2))).elim
    subst hxy
    rw [ord_unique (List.pairwise_cons.1 hs).2 (List.pairwise_cons.1 ht).2 ((List.perm_cons x).1 hp)]
/-- The signs of the program's row are those of insertion, in that order. -/
theorem row_ins {L : Int} {js : List Int} {dir h : Int} {l : List Sgn} {row : List Pst} (hn : ∀ i j, i < j → j < l.length → (gs l i).n ≠ (gs l j).n) (H : RowL L js dir h l row) : row.map (·.s) = insR L dir h l l.length := by
  obtain ⟨ad, cp, l1, hp, ho, rfl⟩ := H
  have e1 : ((finP l1 (l1.length - 1)).map (·.1)).map (·.s) = l1.map (fun x => x.1.s) := by
    refine List.ext_getElem (by simp [finP_len]) fun i h1 h2 => ?_
    simp [finP_len] at h1 h2
    have hk := finP_keeps l1 (l1.length - 1) i (by omega)
    rw [getElem!_pos _ i (by rw [finP_len]; exact h1), getElem!_pos _ i h1] at hk
    simpa using hk.1
  rw [e1]
  have hps : (l1.map (fun x => x.1.s)).Perm (selR dir h l l.length) := by rw [← rowK_sel L js dir h l ad cp]; exact hp.map _
  have hne : ∀ i j, (hij : i < j) → (hj : j < l1.length) → (l1[i]'(Nat.lt_trans hij hj)).1.s.n ≠ l1[j].1.s.n := by
    have hsel : (selR dir h l l.length).Pairwise (fun x y => x.n ≠ y.n) := by
      have : ∀ k, k ≤ l.length → (selR dir h l k).Pairwise (fun x y => x.n ≠ y.n) := by
        intro k
        induction k with
        | zero => intro _; exact List.Pairwise.nil
        | succ k ih =>
          intro hk
          rw [selR]; split
          · refine List.pairwise_append.2 ⟨ih (by omega), List.pairwise_singleton _ _, fun x hx y hy => ?_⟩
            obtain ⟨j, hj, e⟩ := selR_mem hx
            rw [← e, List.mem_singleton.1 hy]
            exact hn j k hj (by omega)
          · exact ih (by omega)
      exact this _ (Nat.le_refl _)
    have := (hps.pairwise_iff (R := fun x y : Sgn => x.n ≠ y.n) (fun h => h.symm)).2 hsel
    intro i j hij hj
    have := List.pairwise_iff_getElem.1 this i j (by simp; omega) (by simpa using hj) hij
    simpa using this
  refine ord_unique (L := L) (dir := dir) (List.pairwise_iff_getElem.2 fun i j hi hj hij => ?_) (insR_sorted hn _ (Nat.le_refl _)) (hps.trans (insR_perm L dir h l l.length).symm)
  simp at hi hj
  have h1 := ho i j hij hj
  have h2 := hne i j hij hj
  rw [getElem!_pos _ j hj, getElem!_pos _ i hi] at h1
  have hd : ∀ k, (hk : k < l1.length) → l1[k].1.d = dstK L dir l1[k].1.s.c := fun k hk => by
    obtain ⟨m, hm, e⟩ := rowK_mem L js dir h l ad cp l1[k] l.length (hp.mem_iff.1 (List.getElem_mem hk))
    rw [e]; rfl
  simp only [List.getElem_map]
  unfold ahdP at h1
  rw [hd i hi, hd j hj] at h1
  unfold ahS
  omega
end Go.Proofs.YtjoffnbpaebgjaaGreat

namespace Go.Proofs.YtjoffnbpaebgjaaGreat
set_option linter.unusedVariables false
set_option linter.unusedSimpArgs false
open Go.RowKit

theorem ifc {α : Type} {p q : Prop} [Decidable p] [Decidable q] (h : p ↔ q) {a b : α} : (if p then a else b) = if q then a else b := by
  by_cases hp : p
  · rw [if_pos hp, if_pos (h.1 hp)]
  · rw [if_neg hp, if_neg (fun hq => hp (h.2 hq))]
/-- Is there a junction behind d, up to k? -/
def jctB (L : Int) (js : List Int) (dir d k : Int) : Bool := anyK (fun j => decide (d < dstK L dir (gi js j)) && decide (dstK L dir (gi js j) ≤ k)) js.length
/-- Is the next sign the plate of one at the same place, and does it end by k? -/
def pltB (L dir k : Int) (s : Sgn) : Option Sgn → Bool
  | none => false
  | some p => (p.k == 7) && ((dstK L dir p.c == dstK L dir s.c) && decide (dstK L dir s.c + p.v ≤ k))
def shutB (L : Int) (js : List Int) (dir k : Int) (s : Sgn) (nx : Option Sgn) : Bool := jctB L js dir (dstK L dir s.c) k || pltB L dir k s nx
/-- What holds behind a sign. -/
def stpS (L : Int) (js : List Int) (dir t k : Int) (s : Sgn) (nx : Option Sgn) (v : Int) : Int :=
  if endB s.k t = true then 0 else if topK s.k = t then (if shutB L js dir k s nx = true then 0 else strK s.k s.v) else v
/-- What signs in order make hold at a distance. -/
def hS (L : Int) (js : List Int) (dir t k : Int) : List Sgn → Int → Int
  | [], v => v
  | s :: r, v => if k < dstK L dir s.c then v else hS L js dir t k r (stpS L js dir t k s r.head? v)
theorem opn_le (L : Int) (js : List Int) (dir d k : Int) : ∀ n, opnK L js dir d n ≤ k ↔ (L ≤ k ∨ anyK (fun j => decide (d < dstK L dir (gi js j)) && decide (dstK L dir (gi js j) ≤ k)) n = true)
  | 0 => by simp [opnK, anyK]
  | n + 1 => by
    have ih := opn_le L js dir d k n
    rw [opnK, anyK, Bool.or_eq_true]
    by_cases h : d < dstK L dir (gi js n)
    · rw [if_pos h, decide_eq_true h, Bool.true_and, decide_eq_true_eq, Int.min_def]
      by_cases h2 : opnK L js dir d n ≤ dstK L dir (gi js n)
      · rw [if_pos h2]
        constructor
        · intro h3
          rcases ih.1 h3 with h4 | h4
          · exact .inl h4
          · exact .inr (.inl h4)
        · rintro (h3 | h3 | h3)
          · exact ih.2 (.inl h3)
          · exact ih.2 (.inr h3)
          · omega
      · rw [if_neg h2]
        constructor
        · intro h3
          exact .inr (.inr h3)
        · rintro (h3 | h3 | h3)
          · have := ih.2 (.inl h3); omega
          · have := ih.2 (.inr h3); omega
          · exact h3
    · rw [if_neg h, decide_eq_false h, Bool.false_and]
      simp only [Bool.false_eq_true, or_false]
      exact ih
/-- A row whose until says the same as its signs. -/
def RowQ (L : Int) (js : List Int) (dir k : Int) : List Pst → Prop
  | [] => True
  | p :: r => p.d = dstK L dir p.s.c ∧ (topK p.s.k ≠ 0 → (p.u ≤ k ↔ shutB L js dir k p.s ((r.map (·.s)).head?) = true)) ∧ RowQ L js dir k r
theorem hld_hS {L : Int} {js : List Int} {dir t k : Int} (ht : t ≠ 0) : ∀ (row : List Pst), RowQ L js dir k row → ∀ v, hldL t k row v = hS L js dir t k (row.map (·.s)) v
  | [], _, v => rfl
  | p :: r, h, v => by
    obtain ⟨h1, h2, h3⟩ := h
    rw [hldL, List.map_cons, hS, h1]
    split
    · rfl
    · rw [hld_hS ht r h3]
      congr 1
      unfold stpK stpS
      split
      · rfl
      · split
        next hk =>
          have := h2 (by omega)
          by_cases hs : shutB L js dir k p.s ((r.map (·.s)).head?) = true
          · rw [if_pos (this.2 hs), if_pos hs]
          · rw [if_neg (fun h => hs (this.1 h)), if_neg hs]
        · rfl
theorem rowOk_of {L : Int} {js : List Int} {dir k : Int} : ∀ (row : List Pst), (∀ i : Nat, i < row.length → (gq row i).d = dstK L dir (gq row i).s.c ∧ (topK (gq row i).s.k ≠ 0 → ((gq row i).u ≤ k ↔ shutB L js dir k (gq row i).s ((row.map (·.s))[i + 1]?) = true))) → RowQ L js dir k row
  | [], _ => trivial
  | p :: r, h => by
    refine ⟨(h 0 (by simp)).1, ?_, rowOk_of r fun i hi => ?_⟩
    · have := (h 0 (by simp)).2
      intro hk
      have h2 := this hk
      simp only [gq, List.getD_cons_zero, List.map_cons, List.getElem?_cons_succ] at h2
      rw [List.head?_eq_getElem?]
      exact h2
    · have := h (i + 1) (by simp; omega)
      simpa [gq, List.getD_cons_succ] using this
theorem selR_sel {dir h : Int} {l : List Sgn} {x : Sgn} : ∀ {k}, x ∈ selR dir h l k → selB dir h x = true
  | 0, hx => by simp [selR] at hx
  | k + 1, hx => by
    rw [selR] at hx
    split at hx
    next hs =>
      rw [List.mem_append] at hx
      rcases hx with hx | hx
      · exact selR_sel hx
      · rw [List.mem_singleton.1 hx]; exact hs
    · exact selR_sel hx
theorem cnd_keep (s : List PE) (t i j : Nat) (ht : t < s.length) : cndP (finP s t)[i]!.1 (finP s t)[j]!.1 = cndP s[i]!.1 s[j]!.1 := by
  obtain ⟨a1, a2, -⟩ := finP_keeps s t i ht
  obtain ⟨b1, b2, -⟩ := finP_keeps s t j ht
  unfold cndP
  rw [a1, a2, b1, b2]
theorem finP_u_eq (s : List PE) : ∀ (t i : Nat), t < s.length → i < s.length → (finP s t)[i]!.1.u = if i < t ∧ cndP s[i]!.1 s[i + 1]!.1 = true then min s[i]!.1.u (s[i]!.1.d + s[i + 1]!.1.s.v) else s[i]!.1.u
  | 0, i, _, _ => by simp [finP]
  | t + 1, i, ht, hi => by
    have ih := finP_u_eq s t
    have hl := finP_len s t
    rw [finP, cnd_keep s t t (t + 1) (by omega)]
    by_cases hc : cndP s[t]!.1 s[t + 1]!.1 = true
    · rw [if_pos hc]
      by_cases hit : i = t
      · subst hit
        rw [set_same _ _ (by simp; omega), if_pos ⟨by omega, hc⟩]
        show min _ _ = _
        rw [ih i (by omega) hi, if_neg (fun h => absurd h.1 (by omega)), (finP_keeps s i i (by omega)).2.1, (finP_keeps s i (i + 1) (by omega)).1]
      · rw [set_other _ _ (Ne.symm hit)]
        by_cases hi2 : i = t + 1
        · subst hi2
          rw [set_same _ _ (by omega)]
          show ((finP s t)[t + 1]!.1).u = _
          rw [ih (t + 1) (by omega) hi, if_neg (fun h => absurd h.1 (by omega)), if_neg (fun h => absurd h.1 (by omega))]
        · rw [set_other _ _ (Ne.symm hi2), ih i (by omega) hi]
          have : (i < t ∧ cndP s[i]!.1 s[i + 1]!.1 = true) ↔ (i < t + 1 ∧ cndP s[i]!.1 s[i + 1]!.1 = true) := ⟨fun h => ⟨by omega, h.2⟩, fun h => ⟨by omega, h.2⟩⟩
          rw [ifc this]
    · rw [if_neg hc, ih i (by omega) hi]
      by_cases hit : i = t
      · subst hit
        rw [if_neg (fun h => hc h.2), if_neg (fun h => hc h.2)]
      · have : (i < t ∧ cndP s[i]!.1 s[i + 1]!.1 = true) ↔ (i < t + 1 ∧ cndP s[i]!.1 s[i + 1]!.1 = true) := ⟨fun h => ⟨by omega, h.2⟩, fun h => ⟨by omega, h.2⟩⟩
        rw [ifc this]
theorem finP_b_eq (s : List PE) : ∀ (t i : Nat), t < s.length → i < s.length → (finP s t)[i]!.1.b = if 0 < i ∧ i ≤ t ∧ cndP s[i - 1]!.1 s[i]!.1 = true then true else s[i]!.1.b
  | 0, i, _, _ => by
    rw [if_neg (fun h => absurd h.2.1 (by omega))]; rfl
  | t + 1, i, ht, hi => by
    have ih := finP_b_eq s t
    have hl := finP_len s t
    rw [finP, cnd_keep s t t (t + 1) (by omega)]
    by_cases hc : cndP s[t]!.1 s[t + 1]!.1 = true
    · rw [if_pos hc]
      by_cases hit : i = t
      · subst hit
        rw [set_same _ _ (by simp; omega)]
        show ((finP s i)[i]!.1).b = _
        rw [ih i (by omega) hi]
        have : (0 < i ∧ i ≤ i ∧ cndP s[i - 1]!.1 s[i]!.1 = true) ↔ (0 < i ∧ i ≤ i + 1 ∧ cndP s[i - 1]!.1 s[i]!.1 = true) := ⟨fun h => ⟨h.1, by omega, h.2.2⟩, fun h => ⟨h.1, by omega, h.2.2⟩⟩
        rw [ifc this]
      · rw [set_other _ _ (Ne.symm hit)]
        by_cases hi2 : i = t + 1
        · subst hi2
          rw [set_same _ _ (by omega), if_pos ⟨by omega, by omega, by simpa using hc⟩]
        · rw [set_other _ _ (Ne.symm hi2), ih i (by omega) hi]
          have : (0 < i ∧ i ≤ t ∧ cndP s[i - 1]!.1 s[i]!.1 = true) ↔ (0 < i ∧ i ≤ t + 1 ∧ cndP s[i - 1]!.1 s[i]!.1 = true) := ⟨fun h => ⟨h.1, by omega, h.2.2⟩, fun h => ⟨h.1, by omega, h.2.2⟩⟩
          rw [ifc this]
    · rw [if_neg hc, ih i (by omega) hi]
      by_cases hit : i = t + 1
      · subst hit
        rw [if_neg (fun h => absurd h.2.1 (by omega)), if_neg (fun h => hc (by simpa using h.2.2))]
      · have : (0 < i ∧ i ≤ t ∧ cndP s[i - 1]!.1 s[i]!.1 = true) ↔ (0 < i ∧ i ≤ t + 1 ∧ cndP s[i - 1]!.1 s[i]!.1 = true) := ⟨fun h => ⟨h.1, by omega, h.2.2⟩, fun h => ⟨h.1, by omega, h.2.2⟩⟩
        rw [ifc this]
/-- What the elements of a row are. -/
theorem row_elem {L : Int} {js : List Int} {dir h : Int} {l : List Sgn} {row : List Pst} (H : RowL L js dir h l row) (i : Nat) (hi : i < row.length) :
    (gq row i).d = dstK L dir (gq row i).s.c ∧ (∃ j, j < l.length ∧ (gq row i).s = gs l j ∧ selB dir h (gs l j) = true) ∧
    (gq row i).u = (if i + 1 < row.length ∧ ((topK (gq row i).s.k != 0) && (((gq row (i + 1)).s.k == 7) && (dstK L dir (gq row (i + 1)).s.c == dstK L dir (gq row i).s.c))) = true then min (opnK L js dir (dstK L dir (gq row i).s.c) js.length) (dstK L dir (gq row i).s.c + (gq row (i + 1)).s.v) else opnK L js dir (dstK L dir (gq row i).s.c) js.length) ∧
    (gq row i).b = (decide (0 < i) && ((topK (gq row (i - 1)).s.k != 0) && (((gq row i).s.k == 7) && (dstK L dir (gq row i).s.c == dstK L dir (gq row (i - 1)).s.c)))) := by
  obtain ⟨ad, cp, l1, hp, -, rfl⟩ := H
  have hl : (finP l1 (l1.length - 1)).length = l1.length := finP_len _ _
  have hi1 : i < l1.length := by rw [List.length_map, hl] at hi; exact hi
  have ht : l1.length - 1 < l1.length := by omega
  have eg : ∀ j, j < l1.length → gq ((finP l1 (l1.length - 1)).map (·.1)) j = (finP l1 (l1.length - 1))[j]!.1 := fun j hj => by
    unfold gq; rw [List.getD_eq_getElem?_getD, List.getElem?_map, List.getElem?_eq_getElem (by omega), getElem!_pos (finP l1 (l1.length - 1)) j (by omega)]; rfl
  have em : ∀ j, j < l1.length → ∃ q, q < l.length ∧ l1[j]! = (mkP L js dir (gs l q), ad q, cp q) ∧ selB dir h (gs l q) = true := fun j hj => by
    have hm : l1[j]! ∈ l1 := by rw [getElem!_pos l1 j hj]; exact List.getElem_mem hj
    have hm2 := hp.mem_iff.1 hm
    obtain ⟨q, hq, he⟩ := rowK_mem L js dir h l ad cp _ l.length hm2
    refine ⟨q, hq, he, ?_⟩
    have := rowK_sel L js dir h l ad cp l.length
    have hm3 : (l1[j]!).1.s ∈ selR dir h l l.length := by rw [← this]; exact List.mem_map_of_mem hm2
    rw [he] at hm3
    exact selR_sel hm3
  have es : ∀ j, j < l1.length → (finP l1 (l1.length - 1))[j]!.1.s = l1[j]!.1.s ∧ (finP l1 (l1.length - 1))[j]!.1.d = dstK L dir l1[j]!.1.s.c := fun j hj => by
    obtain ⟨a1, a2, -⟩ := finP_keeps l1 _ j ht
    obtain ⟨q, hq, he, -⟩ := em j hj
    exact ⟨a1, by rw [a2, he]; rfl⟩
  have ed : ∀ j, j < l1.length → l1[j]!.1.d = dstK L dir l1[j]!.1.s.c ∧ l1[j]!.1.u = opnK L js dir (dstK L dir l1[j]!.1.s.c) js.length ∧ l1[j]!.1.b = false := fun j hj => by
    obtain ⟨q, hq, he, -⟩ := em j hj
    rw [he]; exact ⟨rfl, rfl, rfl⟩
  rw [eg i hi1]
  refine ⟨by rw [(es i hi1).2, (es i hi1).1], ?_, ?_, ?_⟩
  · obtain ⟨q, hq, he, hs⟩ := em i hi1
    exact ⟨q, hq, by rw [(es i hi1).1, he]; rfl, hs⟩
  · rw [finP_u_eq l1 _ i ht hi1, List.length_map, hl, (es i hi1).1]
    by_cases hi2 : i + 1 < l1.length
    · rw [eg (i + 1) hi2, (es (i + 1) hi2).1, (ed i hi1).1, (ed i hi1).2.1]
      have : (i < l1.length - 1 ∧ cndP l1[i]!.1 l1[i + 1]!.1 = true) ↔ (i + 1 < l1.length ∧ ((topK l1[i]!.1.s.k != 0) && ((l1[i + 1]!.1.s.k == 7) && (dstK L dir l1[i + 1]!.1.s.c == dstK L dir l1[i]!.1.s.c))) = true) := by
        unfold cndP
        rw [(ed i hi1).1, (ed (i + 1) hi2).1]
        exact ⟨fun h => ⟨by omega, h.2⟩, fun h => ⟨by omega, h.2⟩⟩
      rw [ifc this]
    · rw [if_neg (fun h => absurd h.1 (by omega)), if_neg (fun h => hi2 h.1), (ed i hi1).2.1]
  · rw [finP_b_eq l1 _ i ht hi1, (es i hi1).1]
    by_cases h0 : 0 < i
    · rw [eg (i - 1) (by omega), (es (i - 1) (by omega)).1, (ed i hi1).2.2, decide_eq_true h0, Bool.true_and]
      have : cndP l1[i - 1]!.1 l1[i]!.1 = ((topK l1[i - 1]!.1.s.k != 0) && ((l1[i]!.1.s.k == 7) && (dstK L dir l1[i]!.1.s.c == dstK L dir l1[i - 1]!.1.s.c))) := by
        unfold cndP
        rw [(ed i hi1).1, (ed (i - 1) (by omega)).1]
      rw [← this]
      by_cases hc : cndP l1[i - 1]!.1 l1[i]!.1 = true
      · rw [if_pos ⟨h0, by omega, hc⟩, hc]
      · rw [if_neg (fun h => hc h.2.2)]; simpa using hc
    · rw [if_neg (fun h => h0 h.1), (ed i hi1).2.2, decide_eq_false h0]; rfl
theorem row_ok {L : Int} {js : List Int} {dir h k : Int} {l : List Sgn} {row : List Pst} (hk : k < L) (H : RowL L js dir h l row) : RowQ L js dir k row := by
  refine rowOk_of row fun i hi => ?_
  obtain ⟨h1, -, h3, -⟩ := row_elem H i hi
  refine ⟨h1, fun ht => ?_⟩
  rw [h3]
  have ho := opn_le L js dir (dstK L dir (gq row i).s.c) k js.length
  have hsh : shutB L js dir k (gq row i).s ((row.map (·.s))[i + 1]?) = (jctB L js dir (dstK L dir (gq row i).s.c) k || pltB L dir k (gq row i).s ((row.map (·.s))[i + 1]?)) := rfl
  rw [hsh, Bool.or_eq_true]
  have hj : (L ≤ k ∨ jctB L js dir (dstK L dir (gq row i).s.c) k = true) ↔ jctB L js dir (dstK L dir (gq row i).s.c) k = true := ⟨fun h => h.resolve_left (by omega), .inr⟩
  have ho : opnK L js dir (dstK L dir (gq row i).s.c) js.length ≤ k ↔ jctB L js dir (dstK L dir (gq row i).s.c) k = true := ho.trans hj
  by_cases hi2 : i + 1 < row.length
  · have e1 : (row.map (·.s))[i + 1]? = some (gq row (i + 1)).s := by
      rw [List.getElem?_map, List.getElem?_eq_getElem hi2]; unfold gq; simp [hi2]
    rw [e1]
    by_cases hp : ((gq row (i + 1)).s.k == 7 && (dstK L dir (gq row (i + 1)).s.c == dstK L dir (gq row i).s.c)) = true
    · rw [if_pos ⟨hi2, by rw [hp]; simpa using ht⟩]
      have : pltB L dir k (gq row i).s (some (gq row (i + 1)).s) = true ↔ dstK L dir (gq row i).s.c + (gq row (i + 1)).s.v ≤ k := by
        show ((gq row (i + 1)).s.k == 7 && (dstK L dir (gq row (i + 1)).s.c == dstK L dir (gq row i).s.c && decide (dstK L dir (gq row i).s.c + (gq row (i + 1)).s.v ≤ k))) = _ ↔ _
        rw [← Bool.and_assoc, hp, Bool.true_and, decide_eq_true_eq]
      rw [this, ← ho, Int.min_def]
      split <;> omega
    · rw [if_neg (fun h => hp (by have := h.2; rw [Bool.and_eq_true] at this; exact this.2))]
      have : pltB L dir k (gq row i).s (some (gq row (i + 1)).s) = false := by
        show ((gq row (i + 1)).s.k == 7 && (dstK L dir (gq row (i + 1)).s.c == dstK L dir (gq row i).s.c && decide (dstK L dir (gq row i).s.c + (gq row (i + 1)).s.v ≤ k))) = _
        rw [← Bool.and_assoc]
        simp only [Bool.not_eq_true] at hp
        rw [hp, Bool.false_and]
      rw [this]
      simp only [Bool.false_eq_true, or_false]
      exact ho
  · rw [if_neg (fun h => hi2 h.1)]
    have e1 : (row.map (·.s))[i + 1]? = none := by rw [List.getElem?_eq_none]; simp; omega
    rw [e1]
    simp only [pltB, Bool.false_eq_true, or_false]
    exact ho
/-- What the program's row makes hold is what the signs by insertion make hold. -/
theorem hld_ins {L : Int} {js : List Int} {dir t h k v : Int} {l : List Sgn} {row : List Pst} (hn : ∀ i j, i < j → j < l.length → (gs l i).n ≠ (gs l j).n) (ht : t ≠ 0) (hk : k < L) (H : RowL L js dir h l row) : hldL t k row v = hS L js dir t k (insR L dir h l l.length) v := by
  rw [hld_hS ht row (row_ok hk H), row_ins hn H]
/-- Signs that are of no account, or behind the place. -/
theorem hS_none {L : Int} {js : List Int} {dir t k : Int} : ∀ (r : List Sgn) (v : Int), (∀ s, s ∈ r → dstK L dir s.c ≤ k → endB s.k t = false ∧ topK s.k ≠ t) → hS L js dir t k r v = v
  | [], v, _ => rfl
  | s :: r, v, h => by
    rw [hS]
    split
    · rfl
    · have := h s (by simp) (by omega)
      rw [hS_none r _ (fun x hx => h x (by simp [hx]))]
      unfold stpS
      rw [this.1, if_neg (by simp), if_neg this.2]
/-- The last sign of account rules. -/
theorem hS_last {L : Int} {js : List Int} {dir t k : Int} (s : Sgn) (post : List Sgn) (hs : dstK L dir s.c ≤ k) (ha : endB s.k t = true ∨ topK s.k = t) (hp : ∀ x, x ∈ post → dstK L dir x.c ≤ k → endB x.k t = false ∧ topK x.k ≠ t) : ∀ (pre : List Sgn) (v : Int), (∀ x, x ∈ pre → dstK L dir x.c ≤ k) → hS L js dir t k (pre ++ s :: post) v = stpS L js dir t k s post.head? 0
  | [], v, _ => by
    rw [List.nil_append, hS, if_neg (by omega), hS_none post _ hp]
    unfold stpS
    rcases ha with h | h
    · rw [if_pos h, if_pos h]
    · split
      · rfl
      · first | rw [if_pos h, if_pos h] | rw [if_pos h] | rfl
  | x :: pre, v, h => by
    rw [List.cons_append, hS, if_neg (by have := h x (by simp); omega)]
    exact hS_last s post hs ha hp pre _ (fun y hy => h y (by simp [hy]))
end Go.Proofs.YtjoffnbpaebgjaaGreat

namespace Go.Proofs.YtjoffnbpaebgjaaGreat
set_option linter.unusedVariables false
set_option linter.unusedSimpArgs false
open Go.RowKit

/-- The numbers of a row. -/
def numR (row : List Pst) (k : Nat) : List Int := (row.take k).map (·.s.n)
theorem numR_succ (row : List Pst) {k : Nat} (h : k < row.length) : numR row (k + 1) = numR row k ++ [(gq row k).s.n] := by
  unfold numR gq; rw [List.take_add_one, List.map_append]; simp [h]
theorem numR_len (row : List Pst) {k : Nat} (h : k ≤ row.length) : (numR row k).length = k := by unfold numR; simp; omega
/-- The numbers come back. -/
def RwnE (L : Int) (js : List Int) (dir h : Int) (l : List Sgn) (w : World) (e : Ending) (w' : World) : Prop :=
  ∃ (row : List Pst) (b : Option Addr) (c : Nat), RowL L js dir h l row ∧ row.length ≤ l.length ∧ e = .returned (.tuple #[.slice b row.length c, .int .i64 0]) ∧ w'.ownsRow w.heap.size 3 1 (.slice b row.length c) row.length (clI (numR row row.length)) ∧ Below w.heap.size w w'
theorem ed_nilR (w : World) : EdS w none [] := ⟨by decide, 0, 0, fun h => (h rfl).elim, fun i hi => absurd hi (Nat.not_lt_zero i)⟩
set_option maxRecDepth 100000 in
set_option maxHeartbeats 1000000 in
theorem Row_good (L : Int) (a : Option Addr) (js : List Int) (ca : Nat) (aa : Option Addr) (l : List Sgn) (cl : Nat) (h dir : Int) (hV : lstE L js l [] = 0) (hh : btw h 0 10000000 = true) (hd : dirB dir = true) (hL1 : 0 ≤ L) (hL2 : L ≤ 100000) (hJ : ∀ j, j < js.length → 0 ≤ gi js j ∧ gi js j ≤ 100000) (hC : ∀ j, j < l.length → (0 ≤ (gs l j).c ∧ (gs l j).c ≤ 100000) ∧ 0 ≤ (gs l j).v ∧ (gs l j).v ≤ 100000) (hn : l.length ≤ 1000) (w : World) (hI : IntsS w a js) (hA : SgnS w aa l) :
    Calls Tryz.prog 21 #[.agg #[.int .i64 L, .slice a js.length ca], .slice aa l.length cl, .int .i64 h, .int .i64 dir] w (RwnE L js dir h l w) := by
  have H1 := Lib.hid (fun W (hW : Below w.heap.size w W) => by
    have := listsError_r L a js ca aa l cl none [] 0 W (hI.below hW) (hA.below hW) (ed_nilR W)
    rw [hV] at this
    exact this)
  have H2 := Lib.hid (fun W => hh ▸ isHour_r h W)
  have H3 := Lib.hid (fun W => hd ▸ isDir_r dir W)
  have HR := Lib.hid (fun W (hW : Below w.heap.size w W) => (rowOf_r L a js ca aa l cl h dir hL1 hL2 hJ (fun j hj => by have := hC j hj; omega) hn W (hI.below hW) (hA.below hW)).mono fun e w' H => rowF_of hL1 hL2 hJ hC H)
  obtain ⟨n0, hi, hz0, hz1, hz2⟩ := info_parts infoInt
  clear hI hA hV hh hd hJ hC hL1 hL2
  go_enter Tryz.func21, Tryz.ntmps21
  go_wp2_with fail
  obtain ⟨wB, hwB⟩ : ∃ wB, w.alloc (.cells #[.int .i64 L, .slice a js.length ca] 24) = wB := ⟨_, rfl⟩
  have hb : Below w.heap.size w wB := by rw [← hwB]; exact (Below.refl _ _).alloc (Nat.le_refl _) _
  have l0 : wB.cell? ⟨w.heap.size, 0, none⟩ = some (.int .i64 L) := by rw [← hwB]; simp [go_sem]
  have l1 : wB.cell? ⟨w.heap.size, 1, none⟩ = some (.slice a js.length ca) := by rw [← hwB]; simp [go_sem]
  rw [hwB]
  clear hwB
  go_wp2_with (first | (go_at_call 26; refine (H1.out _ hb).mono ?_; rintro e w1 ⟨rfl, hb1⟩; have hbw := hb.trans (hb1.mono hb.size); replace l0 := cell_below l0 hb1; replace l1 := cell_below l1 hb1) | (go_at_call 41; refine (H2.out _).mono ?_; rintro e w2 ⟨rfl, rfl⟩) | (go_at_call 28; refine (H3.out _).mono ?_; rintro e w2 ⟨rfl, rfl⟩) | (go_at_call 34; refine (HR.out _ hbw).mono ?_; rintro e w2 ⟨row, ar, cr, hRL, hrl, hbd, rfl, hP, hb2⟩))
  have hbz := hbw.trans (hb2.mono hbw.size)
  have HG := Lib.hid (And.intro hRL (And.intro hrl hbz))
  have hrow : row.length ≤ 1000 := by omega
  obtain ⟨-, pb, po, pad, pcp, hpa, hpc⟩ := hP
  have HPC := Lib.hid hpc
  have HPA : Hid (0 < row.length → ar = some ⟨pb, po, none⟩) := Lib.hid fun h => hpa (List.ne_nil_of_length_pos h)
  have hs2 := hbz.size
  clear hpa hpc hbd hRL hrl hb hb1 hb2 hbw hbz H1 H2 H3 HR l0 l1
  go_loopw [11, 34] (fun v i wr => ∃ k : Nat, k ≤ row.length ∧ i = .int .i64 k ∧ (∃ a c, v = .slice a k c) ∧ Hid (wr.ownsRow w2.heap.size 3 1 v k (clI (numR row k))) ∧ Below w2.heap.size w2 wr) (fun _ i _ => row.length - (intOf i).toNat)
  case atStart => exact ⟨0, Nat.zero_le _, rfl, ⟨none, 0, rfl⟩, Lib.hid ⟨rfl, .inl ⟨rfl, rfl⟩⟩, Below.refl _ _⟩
  case round =>
    obtain ⟨k, hk, rfl, ⟨av, cv, rfl⟩, HRow, hbr⟩ := hrel
    by_cases hlt : k < row.length
    · obtain rfl := HPA.out (by omega)
      obtain ⟨⟨⟨c0, c1, c2, c3, c4, c5, c6, c7⟩, c8, c9, c10, c11⟩, -⟩ := HPC.out k hlt
      have c0 := cell_below c0 hbr
      have c1 := cell_below c1 hbr
      have c2 := cell_below c2 hbr
      have c3 := cell_below c3 hbr
      have c4 := cell_below c4 hbr
      have c5 := cell_below c5 hbr
      have c6 := cell_below c6 hbr
      have c7 := cell_below c7 hbr
      have c8 := cell_below c8 hbr
      have c9 := cell_below c9 hbr
      have c10 := cell_below c10 hbr
      have c11 := cell_below c11 hbr
      have HNk : Hid (clI (numR row (k + 1)) = clI (numR row k) ++ [.int .i64 (gq row k).s.n]) := Lib.hid (by rw [numR_succ row hlt, clI_app])
      clear HPC HPA
      generalize pad k = adk at *
      generalize pcp k = cpk at *
      obtain ⟨x, hx⟩ : ∃ x, gq row k = x := ⟨_, rfl⟩
      rw [hx] at HNk c0 c1 c2 c3 c4 c5 c6 c7 c8 c9 c10 c11
      clear hx
      generalize numR row k = X0 at *
      have hsr := hbr.size
      have hown := Lib.hid ((HRow.out.alloc (.cells #[.int .i64 x.s.n, .int .i64 x.s.k, .int .i64 x.s.v, .int .i64 x.s.c, .int .i64 x.s.d, .int .i64 x.s.rk, .int .i64 x.s.up, .int .i64 x.s.dn, .slice adk x.s.cv.length cpk, .int .i64 x.d, .int .i64 x.u, .bool x.b] 88)).alloc (.cells #[.int .i64 x.s.n] 3))
      have hbq : Below w2.heap.size w2 ((wr.alloc (.cells #[.int .i64 x.s.n, .int .i64 x.s.k, .int .i64 x.s.v, .int .i64 x.s.c, .int .i64 x.s.d, .int .i64 x.s.rk, .int .i64 x.s.up, .int .i64 x.s.dn, .slice adk x.s.cv.length cpk, .int .i64 x.d, .int .i64 x.u, .bool x.b] 88)).alloc (.cells #[.int .i64 x.s.n] 3)) := (hbr.alloc hsr _).alloc (by simp; omega) _
      clear HRow
      go_wp2_with (first | (at_builtin; go_loud (refine wpList_append_lies _ rfl _ _ 22 rfl w2.heap.size 3 n0 _ 1 8 Tryz.underlying22 hi hz0 hz1 hz2 rfl (by decide) (.slice av k cv) k _ (by rfl) hown.out ⟨wr.heap.size + 1, 0, none⟩ 1 1 [.int .i64 x.s.n] (by rfl) (by rfl) ?d1 ?d2 (by decide) ?d3 ?d4 ?d5 _ rfl ?_)))
      case d1 =>
        refine World.news_of_block (cs := #[.int .i64 x.s.n]) (t := 3) (fr := (0, 0)) ?_
        have := heap_alloc_new (wr.alloc (.cells #[.int .i64 x.s.n, .int .i64 x.s.k, .int .i64 x.s.v, .int .i64 x.s.c, .int .i64 x.s.d, .int .i64 x.s.rk, .int .i64 x.s.up, .int .i64 x.s.dn, .slice adk x.s.cv.length cpk, .int .i64 x.d, .int .i64 x.u, .bool x.b] 88)) (.cells #[.int .i64 x.s.n] 3)
        simpa using this
      case d2 => simp [Value.oneCell']
      case d3 => unfold maxLen; omega
      case d4 => omega
      case d5 => first | (simp; omega) | simp | omega
      intro g6 c6 w6 hown6 hgrow6 hat6 hlt6
      have hb6 : Below w2.heap.size w2 w6 := hbq.grown hgrow6 (by first | (simp; omega) | simp | omega) (fun z hz => owns_blockI hown.out hz)
      have HRow6 : Hid (w6.ownsRow w2.heap.size 3 1 (.slice (some ⟨g6, 0, none⟩) (k + 1) c6) (k + 1) (clI (numR row (k + 1)))) := Lib.hid (by rw [HNk.out]; exact hown6)
      clear hown6 hown hbq hgrow6 hat6 hlt6 HNk
      go_wp2_with fail
      go_roundw
      case rel => exact ⟨k + 1, by omega, by go_num, ⟨_, c6, rfl⟩, HRow6, hb6⟩
      case measure => simp [intOf]; omega
    · obtain rfl : k = row.length := by omega
      have HEnd : Hid (RwnE L js dir h l w (.returned (.tuple #[.slice av row.length cv, .int .i64 0])) wr) := Lib.hid ⟨row, av, cv, HG.out.1, HG.out.2.1, rfl, owns_baseI HRow.out hs2, HG.out.2.2.trans (hbr.mono hs2)⟩
      clear HRow HPC HPA
      go_wp2_with fail
      go_ret2
      exact HEnd.out
set_option maxRecDepth 100000 in
set_option maxHeartbeats 1000000 in
theorem Row_bad (L : Int) (a : Option Addr) (js : List Int) (ca : Nat) (aa : Option Addr) (l : List Sgn) (cl : Nat) (h dir : Int) (hV : lstE L js l [] ≠ 0) (w : World) (hI : IntsS w a js) (hA : SgnS w aa l) :
    Calls Tryz.prog 21 #[.agg #[.int .i64 L, .slice a js.length ca], .slice aa l.length cl, .int .i64 h, .int .i64 dir] w fun e w' => e = .returned (.tuple #[.slice none 0 0, .int .i64 (lstE L js l [])]) ∧ Below w.heap.size w w' := by
  have H1 := Lib.hid (fun W (hW : Below w.heap.size w W) => listsError_r L a js ca aa l cl none [] 0 W (hI.below hW) (hA.below hW) (ed_nilR W))
  clear hI hA
  generalize lstE L js l [] = E at *
  have d1 : (E != 0) = true := by simp [hV]
  clear hV
  go_enter Tryz.func21, Tryz.ntmps21
  go_wp2_with fail
  obtain ⟨wB, hwB⟩ : ∃ wB, w.alloc (.cells #[.int .i64 L, .slice a js.length ca] 24) = wB := ⟨_, rfl⟩
  have hb : Below w.heap.size w wB := by rw [← hwB]; exact (Below.refl _ _).alloc (Nat.le_refl _) _
  have l0 : wB.cell? ⟨w.heap.size, 0, none⟩ = some (.int .i64 L) := by rw [← hwB]; simp [go_sem]
  have l1 : wB.cell? ⟨w.heap.size, 1, none⟩ = some (.slice a js.length ca) := by rw [← hwB]; simp [go_sem]
  rw [hwB]
  clear hwB
  go_wp2_with (go_at_call 26; refine (H1.out _ hb).mono ?_; rintro e w1 ⟨rfl, hb1⟩)
  go_ret2
  exact ⟨rfl, hb.trans (hb1.mono hb.size)⟩
set_option maxRecDepth 100000 in
set_option maxHeartbeats 1000000 in
theorem Row_arg (L : Int) (a : Option Addr) (js : List Int) (ca : Nat) (aa : Option Addr) (l : List Sgn) (cl : Nat) (h dir : Int) (hV : lstE L js l [] = 0) (hx : (btw h 0 10000000 && dirB dir) = false) (w : World) (hI : IntsS w a js) (hA : SgnS w aa l) :
    Calls Tryz.prog 21 #[.agg #[.int .i64 L, .slice a js.length ca], .slice aa l.length cl, .int .i64 h, .int .i64 dir] w fun e w' => e = .returned (.tuple #[.slice none 0 0, .int .i64 2]) ∧ Below w.heap.size w w' := by
  have H1 := Lib.hid (fun W (hW : Below w.heap.size w W) => by
    have := listsError_r L a js ca aa l cl none [] 0 W (hI.below hW) (hA.below hW) (ed_nilR W)
    rw [hV] at this
    exact this)
  have H2 := Lib.hid (fun W => isHour_r h W)
  have H3 := Lib.hid (fun W => isDir_r dir W)
  clear hI hA hV
  generalize btw h 0 10000000 = b1 at *
  generalize dirB dir = b2 at *
  cases b1 with
  | false =>
    clear hx
    go_enter Tryz.func21, Tryz.ntmps21
    go_wp2_with fail
    obtain ⟨wB, hwB⟩ : ∃ wB, w.alloc (.cells #[.int .i64 L, .slice a js.length ca] 24) = wB := ⟨_, rfl⟩
    have hb : Below w.heap.size w wB := by rw [← hwB]; exact (Below.refl _ _).alloc (Nat.le_refl _) _
    have l0 : wB.cell? ⟨w.heap.size, 0, none⟩ = some (.int .i64 L) := by rw [← hwB]; simp [go_sem]
    have l1 : wB.cell? ⟨w.heap.size, 1, none⟩ = some (.slice a js.length ca) := by rw [← hwB]; simp [go_sem]
    rw [hwB]
    clear hwB
    go_wp2_with (first | (go_at_call 26; refine (H1.out _ hb).mono ?_; rintro e w1 ⟨rfl, hb1⟩) | (go_at_call 41; refine (H2.out _).mono ?_; rintro e w2 ⟨rfl, rfl⟩) | (go_at_call 28; refine (H3.out _).mono ?_; rintro e w2 ⟨rfl, rfl⟩))
    go_ret2
    exact ⟨rfl, hb.trans (hb1.mono hb.size)⟩
  | true =>
    cases b2 with
    | true => cases hx
    | false =>
      clear hx
      go_enter Tryz.func21, Tryz.ntmps21
      go_wp2_with fail
      obtain ⟨wB, hwB⟩ : ∃ wB, w.alloc (.cells #[.int .i64 L, .slice a js.length ca] 24) = wB := ⟨_, rfl⟩
      have hb : Below w.heap.size w wB := by rw [← hwB]; exact (Below.refl _ _).alloc (Nat.le_refl _) _
      have l0 : wB.cell? ⟨w.heap.size, 0, none⟩ = some (.int .i64 L) := by rw [← hwB]; simp [go_sem]
      have l1 : wB.cell? ⟨w.heap.size, 1, none⟩ = some (.slice a js.length ca) := by rw [← hwB]; simp [go_sem]
      rw [hwB]
      clear hwB
      go_wp2_with (first | (go_at_call 26; refine (H1.out _ hb).mono ?_; rintro e w1 ⟨rfl, hb1⟩) | (go_at_call 41; refine (H2.out _).mono ?_; rintro e w2 ⟨rfl, rfl⟩) | (go_at_call 28; refine (H3.out _).mono ?_; rintro e w2 ⟨rfl, rfl⟩))
      go_ret2
      exact ⟨rfl, hb.trans (hb1.mono hb.size)⟩
end Go.Proofs.YtjoffnbpaebgjaaGreat

namespace Go.Proofs.YtjoffnbpaebgjaaGreat
set_option linter.unusedVariables false
set_option linter.unusedSimpArgs false
open Go.RowKit

theorem spk_no1 {s : Sgn} {h : Int} (h1 : h < s.up) : spkB s h = false := by unfold spkB; rw [decide_eq_false (by omega : ¬ s.up ≤ h)]; rfl
theorem spk_no2 {s : Sgn} {h : Int} (h1 : s.dn ≤ h) : spkB s h = false := by unfold spkB; rw [decide_eq_false (by omega : ¬ h < s.dn)]; simp
theorem spk_no3 {s : Sgn} {h : Int} {j : Nat} (hj : j < s.cv.length) (h1 : covH (gp s.cv j) h = true) : spkB s h = false := by unfold spkB; rw [anyK_true (j := j) h1 _ hj]; simp
theorem spk_yes {s : Sgn} {h : Int} (h1 : s.up ≤ h) (h2 : h < s.dn) (h3 : ∀ j, j < s.cv.length → covH (gp s.cv j) h = false) : spkB s h = true := by unfold spkB; rw [decide_eq_true h1, decide_eq_true h2, (anyK_iff _).2 h3]; rfl
set_option maxRecDepth 100000 in
set_option maxHeartbeats 2000000 in
theorem refSpeaks_r (s : Sgn) (ad : Option Addr) (cp : Nat) (h : Int) (w : World) (hP : PairsS w ad s.cv) :
    Calls Tryz.prog 104 #[.agg #[.int .i64 s.n, .int .i64 s.k, .int .i64 s.v, .int .i64 s.c, .int .i64 s.d, .int .i64 s.rk, .int .i64 s.up, .int .i64 s.dn, .slice ad s.cv.length cp], .int .i64 h] w fun e w' => e = .returned (.bool (spkB s h)) ∧ Below w.heap.size w w' := by
  obtain ⟨hlen, -, pb, po, hpa, hpc⟩ := hP
  have HPA : Hid (0 < s.cv.length → ad = some ⟨pb, po, none⟩) := Lib.hid fun h => hpa (List.ne_nil_of_length_pos h)
  have HPC := Lib.hid hpc
  have HN3 := Lib.hid (fun j hj h1 => spk_no3 (s := s) (h := h) (j := j) hj h1)
  clear hpa hpc
  by_cases h1 : h < s.up
  · have hr := Lib.hid (spk_no1 h1)
    clear HN3 HPA HPC
    go_enter Tryz.func104, Tryz.ntmps104
    go_wp2_with fail
    go_ret
    exact ⟨by rw [hr.out] <;> rfl, (Below.refl _ _).alloc (Nat.le_refl _) _⟩
  · by_cases h2 : s.dn ≤ h
    · have hr := Lib.hid (spk_no2 h2)
      clear HN3 HPA HPC
      go_enter Tryz.func104, Tryz.ntmps104
      go_wp2_with fail
      go_ret
      exact ⟨by rw [hr.out] <;> rfl, (Below.refl _ _).alloc (Nat.le_refl _) _⟩
    · have HY := Lib.hid (fun h3 => spk_yes (s := s) (h := h) (by omega) (by omega) h3)
      go_enter Tryz.func104, Tryz.ntmps104
      go_wp2_with fail
      obtain ⟨wB, hwB⟩ : ∃ wB, w.alloc (.cells #[.int .i64 s.n, .int .i64 s.k, .int .i64 s.v, .int .i64 s.c, .int .i64 s.d, .int .i64 s.rk, .int .i64 s.up, .int .i64 s.dn, .slice ad s.cv.length cp] 58) = wB := ⟨_, rfl⟩
      have hb : Below w.heap.size w wB := by rw [← hwB]; exact (Below.refl _ _).alloc (Nat.le_refl _) _
      have x8 : wB.cell? ⟨w.heap.size, 8, none⟩ = some (.slice ad s.cv.length cp) := by rw [← hwB]; simp [go_sem]
      rw [hwB]
      clear hwB
      go_loopw [5] (fun i wr => ∃ j : Nat, j ≤ s.cv.length ∧ i = .int .i64 j ∧ Hid (∀ i, i < j → covH (gp s.cv i) h = false) ∧ Below wB.heap.size wB wr) (fun i _ => s.cv.length - (intOf i).toNat)
      case atStart => exact ⟨0, Nat.zero_le _, rfl, Lib.hid fun j hj => absurd hj (Nat.not_lt_zero _), Below.refl _ _⟩
      case round =>
        obtain ⟨j, hj, rfl, HJ, hbr⟩ := hrel
        have x8 := cell_below x8 hbr
        by_cases hjl : j < s.cv.length
        · obtain rfl := HPA.out (by omega)
          have hbo := hb.trans (hbr.mono hb.size)
          obtain ⟨q0, q1⟩ := HPC.out j hjl
          have q0 := cell_below q0 hbo
          have q1 := cell_below q1 hbo
          have hji : (j : Int) < (s.cv.length : Int) := by omega
          have hmeas : s.cv.length - (j + 1) < s.cv.length - j := by omega
          have HJ2 : Hid (covH (gp s.cv j) h = false → ∀ i, i < j + 1 → covH (gp s.cv i) h = false) := Lib.hid fun h i hi => by
            by_cases e : i = j
            · subst e; exact h
            · exact HJ.out i (by omega)
          have HN := Lib.hid (HN3.out j hjl)
          have HCo : Hid (covH (gp s.cv j) h = (decide ((gp s.cv j).1 ≤ h) && decide (h < (gp s.cv j).2))) := Lib.hid rfl
          clear HJ HPC HPA HN3 HY
          generalize covH (gp s.cv j) h = C at *
          generalize (gp s.cv j).1 = y0 at *
          generalize (gp s.cv j).2 = y1 at *
          by_cases g1 : y0 ≤ h
          · by_cases g2 : h < y1
            · have hr := Lib.hid (HN.out (by rw [HCo.out, decide_eq_true g1, decide_eq_true g2]; rfl))
              clear HJ2 HN HCo
              go_wp2_with fail
              go_ret
              exact ⟨by rw [hr.out] <;> rfl, hbo⟩
            · have HJ3 := Lib.hid (HJ2.out (by rw [HCo.out, decide_eq_false g2, Bool.and_false]))
              clear HJ2 HN HCo
              go_wp2_with fail
              go_roundw
              case rel => exact ⟨j + 1, by omega, by go_num, HJ3, hbr⟩
              case measure => first | (simp [intOf]; exact hmeas) | simpa [intOf] using hmeas
          · have HJ3 := Lib.hid (HJ2.out (by rw [HCo.out, decide_eq_false g1, Bool.false_and]))
            clear HJ2 HN HCo
            go_wp2_with fail
            go_roundw
            case rel => exact ⟨j + 1, by omega, by go_num, HJ3, hbr⟩
            case measure => first | (simp [intOf]; exact hmeas) | simpa [intOf] using hmeas
        · obtain rfl : j = s.cv.length := by omega
          have hr := Lib.hid (HY.out HJ.out)
          clear HY HJ HPA HPC HN3
          go_wp2_with fail
          go_ret
          exact ⟨by rw [hr.out] <;> rfl, hb.trans (hbr.mono hb.size)⟩
set_option maxRecDepth 100000 in
set_option maxHeartbeats 2000000 in
theorem refDistance_r (L : Int) (a : Option Addr) (n ca : Nat) (dir c : Int) (hL1 : 0 ≤ L) (hL2 : L ≤ 100000) (hc1 : -1000000 ≤ c) (hc2 : c ≤ 1000000) (w : World) :
    Calls Tryz.prog 100 #[.agg #[.int .i64 L, .slice a n ca], .int .i64 dir, .int .i64 c] w fun e w' => e = .returned (.int .i64 (dstK L dir c)) ∧ Below w.heap.size w w' := by
  by_cases h : dir = 1
  · subst h
    have hr : Hid (dstK L 1 c = c) := Lib.hid rfl
    go_enter Tryz.func100, Tryz.ntmps100
    go_wp2_with fail
    go_ret
    exact ⟨by rw [hr.out] <;> rfl, (Below.refl _ _).alloc (Nat.le_refl _) _⟩
  · have hr : Hid (dstK L dir c = L - c) := Lib.hid (by unfold dstK; rw [if_neg h])
    have hw : IntKind.i64.wrap (L - c) = L - c := IntWalk.i64_in _ (by omega)
    go_enter Tryz.func100, Tryz.ntmps100
    go_wp2_with fail
    go_ret
    exact ⟨by rw [hr.out] <;> rfl, (Below.refl _ _).alloc (Nat.le_refl _) _⟩
set_option maxRecDepth 100000 in
set_option maxHeartbeats 2000000 in
theorem refAhead_r (L : Int) (a : Option Addr) (n ca : Nat) (dir : Int) (s t : Sgn) (ad bd : Option Addr) (cp bp : Nat) (hL1 : 0 ≤ L) (hL2 : L ≤ 100000) (hs : s.d = dir) (ht : t.d = dir) (hc1 : 0 ≤ s.c ∧ s.c ≤ 100000) (hc2 : 0 ≤ t.c ∧ t.c ≤ 100000) (w : World) :
    Calls Tryz.prog 105 #[.agg #[.int .i64 L, .slice a n ca], .agg #[.int .i64 s.n, .int .i64 s.k, .int .i64 s.v, .int .i64 s.c, .int .i64 s.d, .int .i64 s.rk, .int .i64 s.up, .int .i64 s.dn, .slice ad s.cv.length cp], .agg #[.int .i64 t.n, .int .i64 t.k, .int .i64 t.v, .int .i64 t.c, .int .i64 t.d, .int .i64 t.rk, .int .i64 t.up, .int .i64 t.dn, .slice bd t.cv.length bp]] w fun e w' => e = .returned (.bool (decide (ahS L dir s t))) ∧ Below w.heap.size w w' := by
  have D1 := Lib.hid (fun W => refDistance_r L a n ca s.d s.c hL1 hL2 (by omega) (by omega) W)
  have D2 := Lib.hid (fun W => refDistance_r L a n ca t.d t.c hL1 hL2 (by omega) (by omega) W)
  have HAh : Hid (decide (ahS L dir s t) = decide (dstK L s.d s.c < dstK L t.d t.c ∨ (dstK L s.d s.c = dstK L t.d t.c ∧ (s.rk < t.rk ∨ (s.rk = t.rk ∧ s.n < t.n))))) := Lib.hid (by rw [hs, ht]; rfl)
  clear hs ht hc1 hc2
  obtain ⟨x, hx⟩ : ∃ x, dstK L s.d s.c = x := ⟨_, rfl⟩
  obtain ⟨y, hy⟩ : ∃ y, dstK L t.d t.c = y := ⟨_, rfl⟩
  rw [hx] at D1 HAh
  rw [hy] at D2 HAh
  clear hx hy
  go_enter Tryz.func105, Tryz.ntmps105
  go_wp2_with fail
  obtain ⟨wX, hwX⟩ : ∃ wX, ((w.alloc (.cells #[.int .i64 L, .slice a n ca] 24)).alloc (.cells #[.int .i64 s.n, .int .i64 s.k, .int .i64 s.v, .int .i64 s.c, .int .i64 s.d, .int .i64 s.rk, .int .i64 s.up, .int .i64 s.dn, .slice ad s.cv.length cp] 58)).alloc (.cells #[.int .i64 t.n, .int .i64 t.k, .int .i64 t.v, .int .i64 t.c, .int .i64 t.d, .int .i64 t.rk, .int .i64 t.up, .int .i64 t.dn, .slice bd t.cv.length bp] 58) = wX := ⟨_, rfl⟩
  have hb : Below w.heap.size w wX := by rw [← hwX]; exact (((Below.refl _ _).alloc (Nat.le_refl _) _).alloc (by simp) _).alloc (by simp; omega) _
  have hz2 : w.heap.size + 1 + 1 < wX.heap.size := by rw [← hwX]; simp
  have hz1 : w.heap.size + 1 < wX.heap.size := by omega
  have hz0 : w.heap.size < wX.heap.size := by omega
  have p0 : wX.cell? ⟨w.heap.size, 0, none⟩ = some (.int .i64 L) := by rw [← hwX]; simp [go_sem]
  have Z0 := Lib.hid p0
  have p1 : wX.cell? ⟨w.heap.size, 1, none⟩ = some (.slice a n ca) := by rw [← hwX]; simp [go_sem]
  have Z1 := Lib.hid p1
  have p2 : wX.cell? ⟨w.heap.size + 1, 0, none⟩ = some (.int .i64 s.n) := by rw [← hwX]; simp [go_sem]
  have Z2 := Lib.hid p2
  have p5 : wX.cell? ⟨w.heap.size + 1, 3, none⟩ = some (.int .i64 s.c) := by rw [← hwX]; simp [go_sem]
  have Z5 := Lib.hid p5
  have p6 : wX.cell? ⟨w.heap.size + 1, 4, none⟩ = some (.int .i64 s.d) := by rw [← hwX]; simp [go_sem]
  have Z6 := Lib.hid p6
  have p7 : wX.cell? ⟨w.heap.size + 1, 5, none⟩ = some (.int .i64 s.rk) := by rw [← hwX]; simp [go_sem]
  have Z7 := Lib.hid p7
  have p11 : wX.cell? ⟨w.heap.size + 1 + 1, 0, none⟩ = some (.int .i64 t.n) := by rw [← hwX]; simp [go_sem]
  have Z11 := Lib.hid p11
  have p14 : wX.cell? ⟨w.heap.size + 1 + 1, 3, none⟩ = some (.int .i64 t.c) := by rw [← hwX]; simp [go_sem]
  have Z14 := Lib.hid p14
  have p15 : wX.cell? ⟨w.heap.size + 1 + 1, 4, none⟩ = some (.int .i64 t.d) := by rw [← hwX]; simp [go_sem]
  have Z15 := Lib.hid p15
  have p16 : wX.cell? ⟨w.heap.size + 1 + 1, 5, none⟩ = some (.int .i64 t.rk) := by rw [← hwX]; simp [go_sem]
  have Z16 := Lib.hid p16
  rw [hwX]
  clear hwX
  have hB : Below wX.heap.size wX wX := Below.refl _ _
  have HB0 := Lib.hid hb
  clear hb
  go_region_held3 (fun w' => w'.cell? ⟨w.heap.size, 0, none⟩ = some (.int .i64 L) ∧ w'.cell? ⟨w.heap.size, 1, none⟩ = some (.slice a n ca) ∧ w'.cell? ⟨w.heap.size + 1, 0, none⟩ = some (.int .i64 s.n) ∧ w'.cell? ⟨w.heap.size + 1, 3, none⟩ = some (.int .i64 s.c) ∧ w'.cell? ⟨w.heap.size + 1, 4, none⟩ = some (.int .i64 s.d) ∧ w'.cell? ⟨w.heap.size + 1, 5, none⟩ = some (.int .i64 s.rk) ∧ w'.cell? ⟨w.heap.size + 1 + 1, 0, none⟩ = some (.int .i64 t.n) ∧ w'.cell? ⟨w.heap.size + 1 + 1, 3, none⟩ = some (.int .i64 t.c) ∧ w'.cell? ⟨w.heap.size + 1 + 1, 4, none⟩ = some (.int .i64 t.d) ∧ w'.cell? ⟨w.heap.size + 1 + 1, 5, none⟩ = some (.int .i64 t.rk)) (go_keep)
    (first
      | (go_at_call 100
         with_reducible refine Calls.mono (D1.out _) ?_
         rintro e w9 ⟨rfl, hb9⟩
         replace hB : Below wX.heap.size wX w9 := (show Below wX.heap.size wX _ by first | exact hB.drew | exact hB).trans (hb9.mono hB.size)
         have p0 := (hB.cell (p := ⟨w.heap.size, 0, none⟩) hz0).trans Z0.out
         have p1 := (hB.cell (p := ⟨w.heap.size, 1, none⟩) hz0).trans Z1.out
         have p2 := (hB.cell (p := ⟨w.heap.size + 1, 0, none⟩) hz1).trans Z2.out
         have p5 := (hB.cell (p := ⟨w.heap.size + 1, 3, none⟩) hz1).trans Z5.out
         have p6 := (hB.cell (p := ⟨w.heap.size + 1, 4, none⟩) hz1).trans Z6.out
         have p7 := (hB.cell (p := ⟨w.heap.size + 1, 5, none⟩) hz1).trans Z7.out
         have p11 := (hB.cell (p := ⟨w.heap.size + 1 + 1, 0, none⟩) hz2).trans Z11.out
         have p14 := (hB.cell (p := ⟨w.heap.size + 1 + 1, 3, none⟩) hz2).trans Z14.out
         have p15 := (hB.cell (p := ⟨w.heap.size + 1 + 1, 4, none⟩) hz2).trans Z15.out
         have p16 := (hB.cell (p := ⟨w.heap.size + 1 + 1, 5, none⟩) hz2).trans Z16.out)
      | (go_at_call 100
         with_reducible refine Calls.mono (D2.out _) ?_
         rintro e w9 ⟨rfl, hb9⟩
         replace hB : Below wX.heap.size wX w9 := (show Below wX.heap.size wX _ by first | exact hB.drew | exact hB).trans (hb9.mono hB.size)
         have p0 := (hB.cell (p := ⟨w.heap.size, 0, none⟩) hz0).trans Z0.out
         have p1 := (hB.cell (p := ⟨w.heap.size, 1, none⟩) hz0).trans Z1.out
         have p2 := (hB.cell (p := ⟨w.heap.size + 1, 0, none⟩) hz1).trans Z2.out
         have p5 := (hB.cell (p := ⟨w.heap.size + 1, 3, none⟩) hz1).trans Z5.out
         have p6 := (hB.cell (p := ⟨w.heap.size + 1, 4, none⟩) hz1).trans Z6.out
         have p7 := (hB.cell (p := ⟨w.heap.size + 1, 5, none⟩) hz1).trans Z7.out
         have p11 := (hB.cell (p := ⟨w.heap.size + 1 + 1, 0, none⟩) hz2).trans Z11.out
         have p14 := (hB.cell (p := ⟨w.heap.size + 1 + 1, 3, none⟩) hz2).trans Z14.out
         have p15 := (hB.cell (p := ⟨w.heap.size + 1 + 1, 4, none⟩) hz2).trans Z15.out
         have p16 := (hB.cell (p := ⟨w.heap.size + 1 + 1, 5, none⟩) hz2).trans Z16.out))

  all_goals
    have hbz := HB0.out.trans (hB.mono HB0.out.size)
    clear D1 D2
    by_cases g1 : x = y
    · by_cases g2 : s.rk = t.rk
      · have hr : Hid (decide (x < y ∨ (x = y ∧ (s.rk < t.rk ∨ (s.rk = t.rk ∧ s.n < t.n)))) = decide (s.n < t.n)) := Lib.hid (by
          by_cases h : s.n < t.n
          · rw [decide_eq_true h]; exact decide_eq_true (by omega)
          · rw [decide_eq_false h]; exact decide_eq_false (by omega))
        have d1 : (x != y) = false := by simp [g1]
        have d2 : (s.rk != t.rk) = false := by simp [g2]
        clear g1 g2
        go_wp2_with fail
        go_ret
        exact ⟨by rw [HAh.out, hr.out] <;> rfl, hbz⟩
      · have hr : Hid (decide (x < y ∨ (x = y ∧ (s.rk < t.rk ∨ (s.rk = t.rk ∧ s.n < t.n)))) = decide (s.rk < t.rk)) := Lib.hid (by
          by_cases h : s.rk < t.rk
          · rw [decide_eq_true h]; exact decide_eq_true (by omega)
          · rw [decide_eq_false h]; exact decide_eq_false (by omega))
        have d1 : (x != y) = false := by simp [g1]
        have d2 : (s.rk != t.rk) = true := by simp [g2]
        clear g1 g2
        go_wp2_with fail
        go_ret
        exact ⟨by rw [HAh.out, hr.out] <;> rfl, hbz⟩
    · have hr : Hid (decide (x < y ∨ (x = y ∧ (s.rk < t.rk ∨ (s.rk = t.rk ∧ s.n < t.n)))) = decide (x < y)) := Lib.hid (by
        by_cases h : x < y
        · rw [decide_eq_true h]; exact decide_eq_true (by omega)
        · rw [decide_eq_false h]; exact decide_eq_false (by omega))
      have d1 : (x != y) = true := by simp [g1]
      clear g1
      go_wp2_with fail
      go_ret
      exact ⟨by rw [HAh.out, hr.out] <;> rfl, hbz⟩
end Go.Proofs.YtjoffnbpaebgjaaGreat
