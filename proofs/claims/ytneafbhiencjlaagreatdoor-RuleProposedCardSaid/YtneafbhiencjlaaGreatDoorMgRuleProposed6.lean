/-
  What a row of signs makes hold, as a function of the signs alone. By an AI agent.; The program's Row. By an AI agent.; The reference's Speaks, Distance, ahead. By an AI agent.; Rows of signs as values in memory, and insertion into them. By an AI agent.; append of nothing at a step of a region that draws its order. By an AI agent.
-/
import Derived.Test.YtneafbhiencjlaaGreatDoorMgRuleProposed3
import Derived.Test.YtneafbhiencjlaaGreatDoorMgRuleProposed4
import Derived.Test.YtneafbhiencjlaaGreatDoorMgRuleProposed5
import Derived.Deep.AppendLies
import Derived.BigQuiet
import Derived.BigRegion
import Derived.Deep.RegionHeld3
import Derived.Laws.AppendOwnNone
import Derived.Deep.RegionLawGrows

namespace Go.Proofs.YtneafbhiencjlaaGreatDoor
set_option linter.unusedVariables false
set_option linter.unusedSimpArgs false
open Go.RowKit

theorem ifc {α : Type} {p q : Prop} [Decidable p] [Decidable q] (h : p ↔ q) {a b : α} : (if p then a else b) = if q then a else b := by
  by_cases hp : p
  · rw [if_pos hp, if_pos (h.1 hp)]
  · rw [if_neg hp, if_neg (fun hq => hp (h.2 hq))]
/-- Is there a junction behind d, up to k? -/
def jctB (L : Int) (js : List Int) (dir d k : Int) : Bool := anyK (fun j => decide (d < dstK L dir (gi js j)) && decide (dstK L dir (gi js j) ≤ k)) js.length
/-- Is the next sign the plate of one at the same place, and does it end by k? -/
def pltB (L dir k : Int) (s : Sgn) : Option Sgn → Bool
  | none => false
  | some p => (p.k == 7) && ((dstK L dir p.c == dstK L dir s.c) && decide (dstK L dir s.c + p.v ≤ k))
def shutB (L : Int) (js : List Int) (dir k : Int) (s : Sgn) (nx : Option Sgn) : Bool := jctB L js dir (dstK L dir s.c) k || pltB L dir k s nx
/-- What holds behind a sign. -/
def stpS (L : Int) (js : List Int) (dir t k : Int) (s : Sgn) (nx : Option Sgn) (v : Int) : Int :=
  if endB s.k t = true then 0 else if topK s.k = t then (if shutB L js dir k s nx = true then 0 else strK s.k s.v) else v
/-- What signs in order make hold at a distance. -/
def hS (L : Int) (js : List Int) (dir t k : Int) : List Sgn → Int → Int
  | [], v => v
  | s :: r, v => if k < dstK L dir s.c then v else hS L js dir t k r (stpS L js dir t k s r.head? v)
theorem opn_le (L : Int) (js : List Int) (dir d k : Int) : ∀ n, opnK L js dir d n ≤ k ↔ (L ≤ k ∨ anyK (fun j => decide (d < dstK L dir (gi js j)) && decide (dstK L dir (gi js j) ≤ k)) n = true)
  | 0 => by simp [opnK, anyK]
  | n + 1 => by
    have ih := opn_le L js dir d k n
    rw [opnK, anyK, Bool.or_eq_true]
    by_cases h : d < dstK L dir (gi js n)
    · rw [if_pos h, decide_eq_true h, Bool.true_and, decide_eq_true_eq, Int.min_def]
      by_cases h2 : opnK L js dir d n ≤ dstK L dir (gi js n)
      · rw [if_pos h2]
        constructor
        · intro h3
          rcases ih.1 h3 with h4 | h4
          · exact .inl h4
          · exact .inr (.inl h4)
        · rintro (h3 | h3 | h3)
          · exact ih.2 (.inl h3)
          · exact ih.2 (.inr h3)
          · omega
      · rw [if_neg h2]
        constructor
        · intro h3
          exact .inr (.inr h3)
        · rintro (h3 | h3 | h3)
          · have := ih.2 (.inl h3); omega
          · have := ih.2 (.inr h3); omega
          · exact h3
    · rw [if_neg h, decide_eq_false h, Bool.false_and]
      simp only [Bool.false_eq_true, or_false]
      exact ih
/-- A row whose until says the same as its signs. -/
def RowQ (L : Int) (js : List Int) (dir k : Int) : List Pst → Prop
  | [] => True
  | p :: r => p.d = dstK L dir p.s.c ∧ (topK p.s.k ≠ 0 → (p.u ≤ k ↔ shutB L js dir k p.s ((r.map (·.s)).head?) = true)) ∧ RowQ L js dir k r
theorem hld_hS {L : Int} {js : List Int} {dir t k : Int} (ht : t ≠ 0) : ∀ (row : List Pst), RowQ L js dir k row → ∀ v, hldL t k row v = hS L js dir t k (row.map (·.s)) v
  | [], _, v => rfl
  | p :: r, h, v => by
    obtain ⟨h1, h2, h3⟩ := h
    rw [hldL, List.map_cons, hS, h1]
    split
    · rfl
    · rw [hld_hS ht r h3]
      congr 1
      unfold stpK stpS
      split
      · rfl
      · split
        next hk =>
          have := h2 (by omega)
          by_cases hs : shutB L js dir k p.s ((r.map (·.s)).head?) = true
          · rw [if_pos (this.2 hs), if_pos hs]
          · rw [if_neg (fun h => hs (this.1 h)), if_neg hs]
        · rfl
theorem rowOk_of {L : Int} {js : List Int} {dir k : Int} : ∀ (row : List Pst), (∀ i : Nat, i < row.length → (gq row i).d = dstK L dir (gq row i).s.c ∧ (topK (gq row i).s.k ≠ 0 → ((gq row i).u ≤ k ↔ shutB L js dir k (gq row i).s ((row.map (·.s))[i + 1]?) = true))) → RowQ L js dir k row
  | [], _ => trivial
  | p :: r, h => by
    refine ⟨(h 0 (by simp)).1, ?_, rowOk_of r fun i hi => ?_⟩
    · have := (h 0 (by simp)).2
      intro hk
      have h2 := this hk
      simp only [gq, List.getD_cons_zero, List.map_cons, List.getElem?_cons_succ] at h2
      rw [List.head?_eq_getElem?]
      exact h2
    · have := h (i + 1) (by simp; omega)
      simpa [gq, List.getD_cons_succ] using this
theorem selR_sel {dir h : Int} {l : List Sgn} {x : Sgn} : ∀ {k}, x ∈ selR dir h l k → selB dir h x = true
  | 0, hx => by simp [selR] at hx
  | k + 1, hx => by
    rw [selR] at hx
    split at hx
    next hs =>
      rw [List.mem_append] at hx
      rcases hx with hx | hx
      · exact selR_sel hx
      · rw [List.mem_singleton.1 hx]; exact hs
    · exact selR_sel hx
theorem cnd_keep (s : List PE) (t i j : Nat) (ht : t < s.length) : cndP (finP s t)[i]!.1 (finP s t)[j]!.1 = cndP s[i]!.1 s[j]!.1 := by
  obtain ⟨a1, a2, -⟩ := finP_keeps s t i ht
  obtain ⟨b1, b2, -⟩ := finP_keeps s t j ht
  unfold cndP
  rw [a1, a2, b1, b2]
theorem finP_u_eq (s : List PE) : ∀ (t i : Nat), t < s.length → i < s.length → (finP s t)[i]!.1.u = if i < t ∧ cndP s[i]!.1 s[i + 1]!.1 = true then min s[i]!.1.u (s[i]!.1.d + s[i + 1]!.1.s.v) else s[i]!.1.u
  | 0, i, _, _ => by simp [finP]
  | t + 1, i, ht, hi => by
    have ih := finP_u_eq s t
    have hl := finP_len s t
    rw [finP, cnd_keep s t t (t + 1) (by omega)]
    by_cases hc : cndP s[t]!.1 s[t + 1]!.1 = true
    · rw [if_pos hc]
      by_cases hit : i = t
      · subst hit
        rw [set_same _ _ (by simp; omega), if_pos ⟨by omega, hc⟩]
        show min _ _ = _
        rw [ih i (by omega) hi, if_neg (fun h => absurd h.1 (by omega)), (finP_keeps s i i (by omega)).2.1, (finP_keeps s i (i + 1) (by omega)).1]
      · rw [set_other _ _ (Ne.symm hit)]
        by_cases hi2 : i = t + 1
        · subst hi2
          rw [set_same _ _ (by omega)]
          show ((finP s t)[t + 1]!.1).u = _
          rw [ih (t + 1) (by omega) hi, if_neg (fun h => absurd h.1 (by omega)), if_neg (fun h => absurd h.1 (by omega))]
        · rw [set_other _ _ (Ne.symm hi2), ih i (by omega) hi]
          have : (i < t ∧ cndP s[i]!.1 s[i + 1]!.1 = true) ↔ (i < t + 1 ∧ cndP s[i]!.1 s[i + 1]!.1 = true) := ⟨fun h => ⟨by omega, h.2⟩, fun h => ⟨by omega, h.2⟩⟩
          rw [ifc this]
    · rw [if_neg hc, ih i (by omega) hi]
      by_cases hit : i = t
      · subst hit
        rw [if_neg (fun h => hc h.2), if_neg (fun h => hc h.2)]
      · have : (i < t ∧ cndP s[i]!.1 s[i + 1]!.1 = true) ↔ (i < t + 1 ∧ cndP s[i]!.1 s[i + 1]!.1 = true) := ⟨fun h => ⟨by omega, h.2⟩, fun h => ⟨by omega, h.2⟩⟩
        rw [ifc this]
theorem finP_b_eq (s : List PE) : ∀ (t i : Nat), t < s.length → i < s.length → (finP s t)[i]!.1.b = if 0 < i ∧ i ≤ t ∧ cndP s[i - 1]!.1 s[i]!.1 = true then true else s[i]!.1.b
  | 0, i, _, _ => by
    rw [if_neg (fun h => absurd h.2.1 (by omega))]; rfl
  | t + 1, i, ht, hi => by
    have ih := finP_b_eq s t
    have hl := finP_len s t
    rw [finP, cnd_keep s t t (t + 1) (by omega)]
    by_cases hc : cndP s[t]!.1 s[t + 1]!.1 = true
    · rw [if_pos hc]
      by_cases hit : i = t
      · subst hit
        rw [set_same _ _ (by simp; omega)]
        show ((finP s i)[i]!.1).b = _
        rw [ih i (by omega) hi]
        have : (0 < i ∧ i ≤ i ∧ cndP s[i - 1]!.1 s[i]!.1 = true) ↔ (0 < i ∧ i ≤ i + 1 ∧ cndP s[i - 1]!.1 s[i]!.1 = true) := ⟨fun h => ⟨h.1, by omega, h.2.2⟩, fun h => ⟨h.1, by omega, h.2.2⟩⟩
        rw [ifc this]
      · rw [set_other _ _ (Ne.symm hit)]
        by_cases hi2 : i = t + 1
        · subst hi2
          rw [set_same _ _ (by omega), if_pos ⟨by omega, by omega, by simpa using hc⟩]
        · rw [set_other _ _ (Ne.symm hi2), ih i (by omega) hi]
          have : (0 < i ∧ i ≤ t ∧ cndP s[i - 1]!.1 s[i]!.1 = true) ↔ (0 < i ∧ i ≤ t + 1 ∧ cndP s[i - 1]!.1 s[i]!.1 = true) := ⟨fun h => ⟨h.1, by omega, h.2.2⟩, fun h => ⟨h.1, by omega, h.2.2⟩⟩
          rw [ifc this]
    · rw [if_neg hc, ih i (by omega) hi]
      by_cases hit : i = t + 1
      · subst hit
        rw [if_neg (fun h => absurd h.2.1 (by omega)), if_neg (fun h => hc (by simpa using h.2.2))]
      · have : (0 < i ∧ i ≤ t ∧ cndP s[i - 1]!.1 s[i]!.1 = true) ↔ (0 < i ∧ i ≤ t + 1 ∧ cndP s[i - 1]!.1 s[i]!.1 = true) := ⟨fun h => ⟨h.1, by omega, h.2.2⟩, fun h => ⟨h.1, by omega, h.2.2⟩⟩
        rw [ifc this]
/-- What the elements of a row are. -/
theorem row_elem {L : Int} {js : List Int} {dir h : Int} {l : List Sgn} {row : List Pst} (H : RowL L js dir h l row) (i : Nat) (hi : i < row.length) :
    (gq row i).d = dstK L dir (gq row i).s.c ∧ (∃ j, j < l.length ∧ (gq row i).s = gs l j ∧ selB dir h (gs l j) = true) ∧
    (gq row i).u = (if i + 1 < row.length ∧ ((topK (gq row i).s.k != 0) && (((gq row (i + 1)).s.k == 7) && (dstK L dir (gq row (i + 1)).s.c == dstK L dir (gq row i).s.c))) = true then min (opnK L js dir (dstK L dir (gq row i).s.c) js.length) (dstK L dir (gq row i).s.c + (gq row (i + 1)).s.v) else opnK L js dir (dstK L dir (gq row i).s.c) js.length) ∧
    (gq row i).b = (decide (0 < i) && ((topK (gq row (i - 1)).s.k != 0) && (((gq row i).s.k == 7) && (dstK L dir (gq row i).s.c == dstK L dir (gq row (i - 1)).s.c)))) := by
  obtain ⟨ad, cp, l1, hp, -, rfl⟩ := H
  have hl : (finP l1 (l1.length - 1)).length = l1.length := finP_len _ _
  have hi1 : i < l1.length := by rw [List.length_map, hl] at hi; exact hi
  have ht : l1.length - 1 < l1.length := by omega
  have eg : ∀ j, j < l1.length → gq ((finP l1 (l1.length - 1)).map (·.1)) j = (finP l1 (l1.length - 1))[j]!.1 := fun j hj => by
    unfold gq; rw [List.getD_eq_getElem?_getD, List.getElem?_map, List.getElem?_eq_getElem (by omega), getElem!_pos (finP l1 (l1.length - 1)) j (by omega)]; rfl
  have em : ∀ j, j < l1.length → ∃ q, q < l.length ∧ l1[j]! = (mkP L js dir (gs l q), ad q, cp q) ∧ selB dir h (gs l q) = true := fun j hj => by
    have hm : l1[j]! ∈ l1 := by rw [getElem!_pos l1 j hj]; exact List.getElem_mem hj
    have hm2 := hp.mem_iff.1 hm
    obtain ⟨q, hq, he⟩ := rowK_mem L js dir h l ad cp _ l.length hm2
    refine ⟨q, hq, he, ?_⟩
    have := rowK_sel L js dir h l ad cp l.length
    have hm3 : (l1[j]!).1.s ∈ selR dir h l l.length := by rw [← this]; exact List.mem_map_of_mem hm2
    rw [he] at hm3
    exact selR_sel hm3
  have es : ∀ j, j < l1.length → (finP l1 (l1.length - 1))[j]!.1.s = l1[j]!.1.s ∧ (finP l1 (l1.length - 1))[j]!.1.d = dstK L dir l1[j]!.1.s.c := fun j hj => by
    obtain ⟨a1, a2, -⟩ := finP_keeps l1 _ j ht
    obtain ⟨q, hq, he, -⟩ := em j hj
    exact ⟨a1, by rw [a2, he]; rfl⟩
  have ed : ∀ j, j < l1.length → l1[j]!.1.d = dstK L dir l1[j]!.1.s.c ∧ l1[j]!.1.u = opnK L js dir (dstK L dir l1[j]!.1.s.c) js.length ∧ l1[j]!.1.b = false := fun j hj => by
    obtain ⟨q, hq, he, -⟩ := em j hj
    rw [he]; exact ⟨rfl, rfl, rfl⟩
  rw [eg i hi1]
  refine ⟨by rw [(es i hi1).2, (es i hi1).1], ?_, ?_, ?_⟩
  · obtain ⟨q, hq, he, hs⟩ := em i hi1
    exact ⟨q, hq, by rw [(es i hi1).1, he]; rfl, hs⟩
  · rw [finP_u_eq l1 _ i ht hi1, List.length_map, hl, (es i hi1).1]
    by_cases hi2 : i + 1 < l1.length
    · rw [eg (i + 1) hi2, (es (i + 1) hi2).1, (ed i hi1).1, (ed i hi1).2.1]
      have : (i < l1.length - 1 ∧ cndP l1[i]!.1 l1[i + 1]!.1 = true) ↔ (i + 1 < l1.length ∧ ((topK l1[i]!.1.s.k != 0) && ((l1[i + 1]!.1.s.k == 7) && (dstK L dir l1[i + 1]!.1.s.c == dstK L dir l1[i]!.1.s.c))) = true) := by
        unfold cndP
        rw [(ed i hi1).1, (ed (i + 1) hi2).1]
        exact ⟨fun h => ⟨by omega, h.2⟩, fun h => ⟨by omega, h.2⟩⟩
      rw [ifc this]
    · rw [if_neg (fun h => absurd h.1 (by omega)), if_neg (fun h => hi2 h.1), (ed i hi1).2.1]
  · rw [finP_b_eq l1 _ i ht hi1, (es i hi1).1]
    by_cases h0 : 0 < i
    · rw [eg (i - 1) (by omega), (es (i - 1) (by omega)).1, (ed i hi1).2.2, decide_eq_true h0, Bool.true_and]
      have : cndP l1[i - 1]!.1 l1[i]!.1 = ((topK l1[i - 1]!.1.s.k != 0) && ((l1[i]!.1.s.k == 7) && (dstK L dir l1[i]!.1.s.c == dstK L dir l1[i - 1]!.1.s.c))) := by
        unfold cndP
        rw [(ed i hi1).1, (ed (i - 1) (by omega)).1]
      rw [← this]
      by_cases hc : cndP l1[i - 1]!.1 l1[i]!.1 = true
      · rw [if_pos ⟨h0, by omega, hc⟩, hc]
      · rw [if_neg (fun h => hc h.2.2)]; simpa using hc
    · rw [if_neg (fun h => h0 h.1), (ed i hi1).2.2, decide_eq_false h0]; rfl
theorem row_ok {L : Int} {js : List Int} {dir h k : Int} {l : List Sgn} {row : List Pst} (hk : k < L) (H : RowL L js dir h l row) : RowQ L js dir k row := by
  refine rowOk_of row fun i hi => ?_
  obtain ⟨h1, -, h3, -⟩ := row_elem H i hi
  refine ⟨h1, fun ht => ?_⟩
  rw [h3]
  have ho := opn_le L js dir (dstK L dir (gq row i).s.c) k js.length
  have hsh : shutB L js dir k (gq row i).s ((row.map (·.s))[i + 1]?) = (jctB L js dir (dstK L dir (gq row i).s.c) k || pltB L dir k (gq row i).s ((row.map (·.s))[i + 1]?)) := rfl
  rw [hsh, Bool.or_eq_true]
  have hj : (L ≤ k ∨ jctB L js dir (dstK L dir (gq row i).s.c) k = true) ↔ jctB L js dir (dstK L dir (gq row i).s.c) k = true := ⟨fun h => h.resolve_left (by omega), .inr⟩
  have ho : opnK L js dir (dstK L dir (gq row i).s.c) js.length ≤ k ↔ jctB L js dir (dstK L dir (gq row i).s.c) k = true := ho.trans hj
  by_cases hi2 : i + 1 < row.length
  · have e1 : (row.map (·.s))[i + 1]? = some (gq row (i + 1)).s := by
      rw [List.getElem?_map, List.getElem?_eq_getElem hi2]; unfold gq; simp [hi2]
    rw [e1]
    by_cases hp : ((gq row (i + 1)).s.k == 7 && (dstK L dir (gq row (i + 1)).s.c == dstK L dir (gq row i).s.c)) = true
    · rw [if_pos ⟨hi2, by rw [hp]; simpa using ht⟩]
      have : pltB L dir k (gq row i).s (some (gq row (i + 1)).s) = true ↔ dstK L dir (gq row i).s.c + (gq row (i + 1)).s.v ≤ k := by
        show ((gq row (i + 1)).s.k == 7 && (dstK L dir (gq row (i + 1)).s.c == dstK L dir (gq row i).s.c && decide (dstK L dir (gq row i).s.c + (gq row (i + 1)).s.v ≤ k))) = _ ↔ _
        rw [← Bool.and_assoc, hp, Bool.true_and, decide_eq_true_eq]
      rw [this, ← ho, Int.min_def]
      split <;> omega
    · rw [if_neg (fun h => hp (by have := h.2; rw [Bool.and_eq_true] at this; exact this.2))]
      have : pltB L dir k (gq row i).s (some (gq row (i + 1)).s) = false := by
        show ((gq row (i + 1)).s.k == 7 && (dstK L dir (gq row (i + 1)).s.c == dstK L dir (gq row i).s.c && decide (dstK L dir (gq row i).s.c + (gq row (i + 1)).s.v ≤ k))) = _
        rw [← Bool.and_assoc]
        simp only [Bool.not_eq_true] at hp
        rw [hp, Bool.false_and]
      rw [this]
      simp only [Bool.false_eq_true, or_false]
      exact ho
  · rw [if_neg (fun h => hi2 h.1)]
    have e1 : (row.map (·.s))[i + 1]? = none := by rw [List.getElem?_eq_none]; simp; omega
    rw [e1]
    simp only [pltB, Bool.false_eq_true, or_false]
    exact ho
/-- What the program's row makes hold is what the signs by insertion make hold. -/
theorem hld_ins {L : Int} {js : List Int} {dir t h k v : Int} {l : List Sgn} {row : List Pst} (hn : ∀ i j, i < j → j < l.length → (gs l i).n ≠ (gs l j).n) (ht : t ≠ 0) (hk : k < L) (H : RowL L js dir h l row) : hldL t k row v = hS L js dir t k (insR L dir h l l.length) v := by
  rw [hld_hS ht row (row_ok hk H), row_ins hn H]
end Go.Proofs.YtneafbhiencjlaaGreatDoor

namespace Go.Proofs.YtneafbhiencjlaaGreatDoor
set_option linter.unusedVariables false
set_option linter.unusedSimpArgs false
open Go.RowKit

/-- The numbers of a row. -/
def numR (row : List Pst) (k : Nat) : List Int := (row.take k).map (·.s.n)
/-- The numbers come back. -/
def RwnE (L : Int) (js : List Int) (dir h : Int) (l : List Sgn) (w : World) (e : Ending) (w' : World) : Prop :=
  ∃ (row : List Pst) (b : Option Addr) (c : Nat), RowL L js dir h l row ∧ row.length ≤ l.length ∧ e = .returned (.tuple #[.slice b row.length c, .int .i64 0]) ∧ w'.ownsRow w.heap.size 3 1 (.slice b row.length c) row.length (clI (numR row row.length)) ∧ Below w.heap.size w w'
theorem ed_nilR (w : World) : EdS w none [] := ⟨by decide, 0, 0, fun h => (h rfl).elim, fun i hi => absurd hi (Nat.not_lt_zero i)⟩
end Go.Proofs.YtneafbhiencjlaaGreatDoor

namespace Go.Proofs.YtneafbhiencjlaaGreatDoor
set_option linter.unusedVariables false
set_option linter.unusedSimpArgs false
open Go.RowKit

set_option maxRecDepth 100000 in
set_option maxHeartbeats 2000000 in
theorem refDistance_r (L : Int) (a : Option Addr) (n ca : Nat) (dir c : Int) (hL1 : 0 ≤ L) (hL2 : L ≤ 100000) (hc1 : -1000000 ≤ c) (hc2 : c ≤ 1000000) (w : World) :
    Calls Tryz.prog 30 #[.agg #[.int .i64 L, .slice a n ca], .int .i64 dir, .int .i64 c] w fun e w' => e = .returned (.int .i64 (dstK L dir c)) ∧ Below w.heap.size w w' := by
  by_cases h : dir = 1
  · subst h
    have hr : Hid (dstK L 1 c = c) := Lib.hid rfl
    go_enter Tryz.func30, Tryz.ntmps30
    go_wp2_with fail
    go_ret
    exact ⟨by rw [hr.out] <;> rfl, (Below.refl _ _).alloc (Nat.le_refl _) _⟩
  · have hr : Hid (dstK L dir c = L - c) := Lib.hid (by unfold dstK; rw [if_neg h])
    have hw : IntKind.i64.wrap (L - c) = L - c := IntWalk.i64_in _ (by omega)
    go_enter Tryz.func30, Tryz.ntmps30
    go_wp2_with fail
    go_ret
    exact ⟨by rw [hr.out] <;> rfl, (Below.refl _ _).alloc (Nat.le_refl _) _⟩
end Go.Proofs.YtneafbhiencjlaaGreatDoor

namespace Go.Proofs.YtneafbhiencjlaaGreatDoor
set_option linter.unusedVariables false
set_option linter.unusedSimpArgs false
open Go.RowKit

instance : Inhabited Sgn := ⟨⟨0, 0, 0, 0, 0, 0, 0, 0, []⟩⟩
abbrev RE := Sgn × Option Addr × Nat
def encS (x : RE) : List Value := [.int .i64 x.1.n, .int .i64 x.1.k, .int .i64 x.1.v, .int .i64 x.1.c, .int .i64 x.1.d, .int .i64 x.1.rk, .int .i64 x.1.up, .int .i64 x.1.dn, .slice x.2.1 x.1.cv.length x.2.2]
def clR (s : List RE) : List Value := s.flatMap encS
/-- The row as values, by insertion. -/
def insE (L dir h : Int) (l : List Sgn) (ad : Nat → Option Addr) (cp : Nat → Nat) : Nat → List RE
  | 0 => []
  | k + 1 => if selB dir h (gs l k) = true then
      (insE L dir h l ad cp k).take (plcS L dir (gs l k) ((insE L dir h l ad cp k).map (·.1)) (insE L dir h l ad cp k).length) ++ (gs l k, ad k, cp k) :: (insE L dir h l ad cp k).drop (plcS L dir (gs l k) ((insE L dir h l ad cp k).map (·.1)) (insE L dir h l ad cp k).length)
    else insE L dir h l ad cp k
end Go.Proofs.YtneafbhiencjlaaGreatDoor

namespace Go.Proofs.YtneafbhiencjlaaGreatDoor
set_option linter.unusedVariables false
set_option linter.unusedSimpArgs false
end Go.Proofs.YtneafbhiencjlaaGreatDoor
