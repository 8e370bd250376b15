/-
  What a row of signs makes hold, as a function of the signs alone. By an AI agent.; The program's Row. By an AI agent.; The reference's Speaks, Distance, ahead. By an AI agent.; Rows of signs as values in memory, and insertion into them. By an AI agent.; append of nothing at a step of a region that draws its order. By an AI agent.
-/
import Derived.Test.YtlpdjinhkmgbgaaGreatDoorMgRuleWays3
import Derived.Test.YtlpdjinhkmgbgaaGreatDoorMgRuleWays4
import Derived.Test.YtlpdjinhkmgbgaaGreatDoorMgRuleWays5
import Derived.Deep.AppendLies
import Derived.BigQuiet
import Derived.BigRegion
import Derived.Deep.RegionHeld3
import Derived.Laws.AppendOwnNone
import Derived.Deep.RegionLawGrows

namespace Go.Proofs.YtlpdjinhkmgbgaaGreatDoor
set_option linter.unusedVariables false
set_option linter.unusedSimpArgs false
open Go.RowKit

theorem ifc {α : Type} {p q : Prop} [Decidable p] [Decidable q] (h : p ↔ q) {a b : α} : (if p then a else b) = if q then a else b := by
  by_cases hp : p
  · rw [if_pos hp, if_pos (h.1 hp)]
  · rw [if_neg hp, if_neg (fun hq => hp (h.2 hq))]
/-- Is there a junction behind d, up to k? -/
def jctB (L : Int) (js : List Int) (dir d k : Int) : Bool := anyK (fun j => decide (d < dstK L dir (gi js j)) && decide (dstK L dir (gi js j) ≤ k)) js.length
/-- Is the next sign the plate of one at the same place, and does it end by k? -/
def pltB (L dir k : Int) (s : Sgn) : Option Sgn → Bool
  | none => false
  | some p => (p.k == 7) && ((dstK L dir p.c == dstK L dir s.c) && decide (dstK L dir s.c + p.v ≤ k))
def shutB (L : Int) (js : List Int) (dir k : Int) (s : Sgn) (nx : Option Sgn) : Bool := jctB L js dir (dstK L dir s.c) k || pltB L dir k s nx
/-- What holds behind a sign. -/
def stpS (L : Int) (js : List Int) (dir t k : Int) (s : Sgn) (nx : Option Sgn) (v : Int) : Int :=
  if endB s.k t = true then 0 else if topK s.k = t then (if shutB L js dir k s nx = true then 0 else strK s.k s.v) else v
/-- What signs in order make hold at a distance. -/
def hS (L : Int) (js : List Int) (dir t k : Int) : List Sgn → Int → Int
  | [], v => v
  | s :: r, v => if k < dstK L dir s.c then v else hS L js dir t k r (stpS L js dir t k s r.head? v)
theorem opn_le (L : Int) (js : List Int) (dir d k : Int) : ∀ n, opnK L js dir d n ≤ k ↔ (L ≤ k ∨ anyK (fun j => decide (d < dstK L dir (gi js j)) && decide (dstK L dir (gi js j) ≤ k)) n = true)
  | 0 => by simp [opnK, anyK]
  | n + 1 => by
    have ih := opn_le L js dir d k n
    rw [opnK, anyK, Bool.or_eq_true]
    by_cases h : d < dstK L dir (gi js n)
    · rw [if_pos h, decide_eq_true h, Bool.true_and, decide_eq_true_eq, Int.min_def]
      by_cases h2 : opnK L js dir d n ≤ dstK L dir (gi js n)
      · rw [if_pos h2]
        constructor
        · intro h3
          rcases ih.1 h3 with h4 | h4
          · exact .inl h4
          · exact .inr (.inl h4)
        · rintro (h3 | h3 | h3)
          · exact ih.2 (.inl h3)
          · exact ih.2 (.inr h3)
          · omega
      · rw [if_neg h2]
        constructor
        · intro h3
          exact .inr (.inr h3)
        · rintro (h3 | h3 | h3)
          · have := ih.2 (.inl h3); omega
          · have := ih.2 (.inr h3); omega
          · exact h3
    · rw [if_neg h, decide_eq_false h, Bool.false_and]
      simp only [Bool.false_eq_true, or_false]
      exact ih
/-- A row whose until says the same as its signs. -/
def RowQ (L : Int) (js : List Int) (dir k : Int) : List Pst → Prop
  | [] => True
  | p :: r => p.d = dstK L dir p.s.c ∧ (topK p.s.k ≠ 0 → (p.u ≤ k ↔ shutB L js dir k p.s ((r.map (·.s)).head?) = true)) ∧ RowQ L js dir k r
theorem hld_hS {L : Int} {js : List Int} {dir t k : Int} (ht : t ≠ 0) : ∀ (row : List Pst), RowQ L js dir k row → ∀ v, hldL t k row v = hS L js dir t k (row.map (·.s)) v
  | [], _, v => rfl
  | p :: r, h, v => by
    obtain ⟨h1, h2, h3⟩ := h
    rw [hldL, List.map_cons, hS, h1]
    split
    · rfl
    · rw [hld_hS ht r h3]
      congr 1
      unfold stpK stpS
      split
      · rfl
      · split
        next hk =>
          have := h2 (by omega)
          by_cases hs : shutB L js dir k p.s ((r.map (·.s)).head?) = true
          · rw [if_pos (this.2 hs), if_pos hs]
          · rw [if_neg (fun h => hs (this.1 h)), if_neg hs]
        · rfl
theorem rowOk_of {L : Int} {js : List Int} {dir k : Int} : ∀ (row : List Pst), (∀ i : Nat, i < row.length → (gq row i).d = dstK L dir (gq row i).s.c ∧ (topK (gq row i).s.k ≠ 0 → ((gq row i).u ≤ k ↔ shutB L js dir k (gq row i).s ((row.map (·.s))[i + 1]?) = true))) → RowQ L js dir k row
  | [], _ => trivial
  | p :: r, h => by
    refine ⟨(h 0 (by simp)).1, ?_, rowOk_of r fun i hi => ?_⟩
    · have := (h 0 (by simp)).2
      intro hk
      have h2 := this hk
      simp only [gq, List.getD_cons_zero, List.map_cons, List.getElem?_cons_succ] at h2
      rw [List.head?_eq_getElem?]
      exact h2
    · have := h (i + 1) (by simp; omega)
      simpa [gq, List.getD_cons_succ] using this
theorem selR_sel {dir h : Int} {l : List Sgn} {x : Sgn} : ∀ {k}, x ∈ selR dir h l k → selB dir h x = true
  | 0, hx => by simp [selR] at hx
  | k + 1, hx => by
    rw [selR] at hx
    split at hx
    next hs =>
      rw [List.mem_append] at hx
      rcases hx with hx | hx
      · exact selR_sel hx
      · rw [List.mem_singleton.1 hx]; exact hs
    · exact selR_sel hx
theorem cnd_keep (s : List PE) (t i j : Nat) (ht : t < s.length) : cndP (finP s t)[i]!.1 (finP s t)[j]!.1 = cndP s[i]!.1 s[j]!.1 := by
  obtain ⟨a1, a2, -⟩ := finP_keeps s t i ht
  obtain ⟨b1, b2, -⟩ := finP_keeps s t j ht
  unfold cndP
  rw [a1, a2, b1, b2]
theorem finP_u_eq (s : List PE) : ∀ (t i : Nat), t < s.length → i < s.length → (finP s t)[i]!.1.u = if i < t ∧ cndP s[i]!.1 s[i + 1]!.1 = true then min s[i]!.1.u (s[i]!.1.d + s[i + 1]!.1.s.v) else s[i]!.1.u
  | 0, i, _, _ => by simp [finP]
  | t + 1, i, ht, hi => by
    have ih := finP_u_eq s t
    have hl := finP_len s t
    rw [finP, cnd_keep s t t (t + 1) (by omega)]
    by_cases hc : cndP s[t]!.1 s[t + 1]!.1 = true
    · rw [if_pos hc]
      by_cases hit : i = t
      · subst hit
        rw [set_same _ _ (by simp; omega), if_pos ⟨by omega, hc⟩]
        show min _ _ = _
        rw [ih i (by omega) hi, if_neg (fun h => absurd h.1 (by omega)), (finP_keeps s i i (by omega)).2.1, (finP_keeps s i (i + 1) (by omega)).1]
      · rw [set_other _ _ (Ne.symm hit)]
        by_cases hi2 : i = t + 1
        · subst hi2
          rw [set_same _ _ (by omega)]
          show ((finP s t)[t + 1]!.1).u = _
          rw [ih (t + 1) (by omega) hi, if_neg (fun h => absurd h.1 (by omega)), if_neg (fun h => absurd h.1 (by omega))]
        · rw [set_other _ _ (Ne.symm hi2), ih i (by omega) hi]
          have : (i < t ∧ cndP s[i]!.1 s[i + 1]!.1 = true) ↔ (i < t + 1 ∧ cndP s[i]!.1 s[i + 1]!.1 = true) := ⟨fun h => ⟨by omega, h.2⟩, fun h => ⟨by omega, h.2⟩⟩
          rw [ifc this]
    · rw [if_neg hc, ih i (by omega) hi]
      by_cases hit : i = t
      · subst hit
        rw [if_neg (fun h => hc h.2), if_neg (fun h => hc h.2)]
      · have : (i < t ∧ cndP s[i]!.1 s[i + 1]!.1 = true) ↔ (i < t + 1 ∧ cndP s[i]!.1 s[i + 1]!.1 = true) := ⟨fun h => ⟨by omega, h.2⟩, fun h => ⟨by omega, h.2⟩⟩
        rw [ifc this]
theorem finP_b_eq (s : List PE) : ∀ (t i : Nat), t < s.length → i < s.length → (finP s t)[i]!.1.b = if 0 < i ∧ i ≤ t ∧ cndP s[i - 1]!.1 s[i]!.1 = true then true else s[i]!.1.b
  | 0, i, _, _ => by
    rw [if_neg (fun h => absurd h.2.1 (by omega))]; rfl
  | t + 1, i, ht, hi => by
    have ih := finP_b_eq s t
    have hl := finP_len s t
    rw [finP, cnd_keep s t t (t + 1) (by omega)]
    by_cases hc : cndP s[t]!.1 s[t + 1]!.1 = true
    · rw [if_pos hc]
      by_cases hit : i = t
      · subst hit
        rw [set_same _ _ (by simp; omega)]
        show ((finP s i)[i]!.1).b = _
        rw [ih i (by omega) hi]
        have : (0 < i ∧ i ≤ i ∧ cndP s[i - 1]!.1 s[i]!.1 = true) ↔ (0 < i ∧ i ≤ i + 1 ∧ cndP s[i - 1]!.1 s[i]!.1 = true) := ⟨fun h => ⟨h.1, by omega, h.2.2⟩, fun h => ⟨h.1, by omega, h.2.2⟩⟩
        rw [ifc this]
      · rw [set_other _ _ (Ne.symm hit)]
        by_cases hi2 : i = t + 1
        · subst hi2
          rw [set_same _ _ (by omega), if_pos ⟨by omega, by omega, by simpa using hc⟩]
        · rw [set_other _ _ (Ne.symm hi2), ih i (by omega) hi]
          have : (0 < i ∧ i ≤ t ∧ cndP s[i - 1]!.1 s[i]!.1 = true) ↔ (0 < i ∧ i ≤ t + 1 ∧ cndP s[i - 1]!.1 s[i]!.1 = true) := ⟨fun h => ⟨h.1, by omega, h.2.2⟩, fun h => ⟨h.1, by omega, h.2.2⟩⟩
          rw [ifc this]
    · rw [if_neg hc, ih i (by omega) hi]
      by_cases hit : i = t + 1
      · subst hit
        rw [if_neg (fun h => absurd h.2.1 (by omega)), if_neg (fun h => hc (by simpa using h.2.2))]
      · have : (0 < i ∧ i ≤ t ∧ cndP s[i - 1]!.1 s[i]!.1 = true) ↔ (0 < i ∧ i ≤ t + 1 ∧ cndP s[i - 1]!.1 s[i]!.1 = true) := ⟨fun h => ⟨h.1, by omega, h.2.2⟩, fun h => ⟨h.1, by omega, h.2.2⟩⟩
        rw [ifc this]
/-- What the elements of a row are. -/
theorem row_elem {L : Int} {js : List Int} {dir h : Int} {l : List Sgn} {row : List Pst} (H : RowL L js dir h l row) (i : Nat) (hi : i < row.length) :
    (gq row i).d = dstK L dir (gq row i).s.c ∧ (∃ j, j < l.length ∧ (gq row i).s = gs l j ∧ selB dir h (gs l j) = true) ∧
    (gq row i).u = (if i + 1 < row.length ∧ ((topK (gq row i).s.k != 0) && (((gq row (i + 1)).s.k == 7) && (dstK L dir (gq row (i + 1)).s.c == dstK L dir (gq row i).s.c))) = true then min (opnK L js dir (dstK L dir (gq row i).s.c) js.length) (dstK L dir (gq row i).s.c + (gq row (i + 1)).s.v) else opnK L js dir (dstK L dir (gq row i).s.c) js.length) ∧
    (gq row i).b = (decide (0 < i) && ((topK (gq row (i - 1)).s.k != 0) && (((gq row i).s.k == 7) && (dstK L dir (gq row i).s.c == dstK L dir (gq row (i - 1)).s.c)))) := by
  obtain ⟨ad, cp, l1, hp, -, rfl⟩ := H
  have hl : (finP l1 (l1.length - 1)).length = l1.length := finP_len _ _
  have hi1 : i < l1.length := by rw [List.length_map, hl] at hi; exact hi
  have ht : l1.length - 1 < l1.length := by omega
  have eg : ∀ j, j < l1.length → gq ((finP l1 (l1.length - 1)).map (·.1)) j = (finP l1 (l1.length - 1))[j]!.1 := fun j hj => by
    unfold gq; rw [List.getD_eq_getElem?_getD, List.getElem?_map, List.getElem?_eq_getElem (by omega), getElem!_pos (finP l1 (l1.length - 1)) j (by omega)]; rfl
  have em : ∀ j, j < l1.length → ∃ q, q < l.length ∧ l1[j]! = (mkP L js dir (gs l q), ad q, cp q) ∧ selB dir h (gs l q) = true := fun j hj => by
    have hm : l1[j]! ∈ l1 := by rw [getElem!_pos l1 j hj]; exact List.getElem_mem hj
    have hm2 := hp.mem_iff.1 hm
    obtain ⟨q, hq, he⟩ := rowK_mem L js dir h l ad cp _ l.length hm2
    refine ⟨q, hq, he, ?_⟩
    have := rowK_sel L js dir h l ad cp l.length
    have hm3 : (l1[j]!).1.s ∈ selR dir h l l.length := by rw [← this]; exact List.mem_map_of_mem hm2
    rw [he] at hm3
    exact selR_sel hm3
  have es : ∀ j, j < l1.length → (finP l1 (l1.length - 1))[j]!.1.s = l1[j]!.1.s ∧ (finP l1 (l1.length - 1))[j]!.1.d = dstK L dir l1[j]!.1.s.c := fun j hj => by
    obtain ⟨a1, a2, -⟩ := finP_keeps l1 _ j ht
    obtain ⟨q, hq, he, -⟩ := em j hj
    exact ⟨a1, by rw [a2, he]; rfl⟩
  have ed : ∀ j, j < l1.length → l1[j]!.1.d = dstK L dir l1[j]!.1.s.c ∧ l1[j]!.1.u = opnK L js dir (dstK L dir l1[j]!.1.s.c) js.length ∧ l1[j]!.1.b = false := fun j hj => by
    obtain ⟨q, hq, he, -⟩ := em j hj
    rw [he]; exact ⟨rfl, rfl, rfl⟩
  rw [eg i hi1]
  refine ⟨by rw [(es i hi1).2, (es i hi1).1], ?_, ?_, ?_⟩
  · obtain ⟨q, hq, he, hs⟩ := em i hi1
    exact ⟨q, hq, by rw [(es i hi1).1, he]; rfl, hs⟩
  · rw [finP_u_eq l1 _ i ht hi1, List.length_map, hl, (es i hi1).1]
    by_cases hi2 : i + 1 < l1.length
    · rw [eg (i + 1) hi2, (es (i + 1) hi2).1, (ed i hi1).1, (ed i hi1).2.1]
      have : (i < l1.length - 1 ∧ cndP l1[i]!.1 l1[i + 1]!.1 = true) ↔ (i + 1 < l1.length ∧ ((topK l1[i]!.1.s.k != 0) && ((l1[i + 1]!.1.s.k == 7) && (dstK L dir l1[i + 1]!.1.s.c == dstK L dir l1[i]!.1.s.c))) = true) := by
        unfold cndP
        rw [(ed i hi1).1, (ed (i + 1) hi2).1]
        exact ⟨fun h => ⟨by omega, h.2⟩, fun h => ⟨by omega, h.2⟩⟩
      rw [ifc this]
    · rw [if_neg (fun h => absurd h.1 (by omega)), if_neg (fun h => hi2 h.1), (ed i hi1).2.1]
  · rw [finP_b_eq l1 _ i ht hi1, (es i hi1).1]
    by_cases h0 : 0 < i
    · rw [eg (i - 1) (by omega), (es (i - 1) (by omega)).1, (ed i hi1).2.2, decide_eq_true h0, Bool.true_and]
      have : cndP l1[i - 1]!.1 l1[i]!.1 = ((topK l1[i - 1]!.1.s.k != 0) && ((l1[i]!.1.s.k == 7) && (dstK L dir l1[i]!.1.s.c == dstK L dir l1[i - 1]!.1.s.c))) := by
        unfold cndP
        rw [(ed i hi1).1, (ed (i - 1) (by omega)).1]
      rw [← this]
      by_cases hc : cndP l1[i - 1]!.1 l1[i]!.1 = true
      · rw [if_pos ⟨h0, by omega, hc⟩, hc]
      · rw [if_neg (fun h => hc h.2.2)]; simpa using hc
    · rw [if_neg (fun h => h0 h.1), (ed i hi1).2.2, decide_eq_false h0]; rfl
theorem row_ok {L : Int} {js : List Int} {dir h k : Int} {l : List Sgn} {row : List Pst} (hk : k < L) (H : RowL L js dir h l row) : RowQ L js dir k row := by
  refine rowOk_of row fun i hi => ?_
  obtain ⟨h1, -, h3, -⟩ := row_elem H i hi
  refine ⟨h1, fun ht => ?_⟩
  rw [h3]
  have ho := opn_le L js dir (dstK L dir (gq row i).s.c) k js.length
  have hsh : shutB L js dir k (gq row i).s ((row.map (·.s))[i + 1]?) = (jctB L js dir (dstK L dir (gq row i).s.c) k || pltB L dir k (gq row i).s ((row.map (·.s))[i + 1]?)) := rfl
  rw [hsh, Bool.or_eq_true]
  have hj : (L ≤ k ∨ jctB L js dir (dstK L dir (gq row i).s.c) k = true) ↔ jctB L js dir (dstK L dir (gq row i).s.c) k = true := ⟨fun h => h.resolve_left (by omega), .inr⟩
  have ho : opnK L js dir (dstK L dir (gq row i).s.c) js.length ≤ k ↔ jctB L js dir (dstK L dir (gq row i).s.c) k = true := ho.trans hj
  by_cases hi2 : i + 1 < row.length
  · have e1 : (row.map (·.s))[i + 1]? = some (gq row (i + 1)).s := by
      rw [List.getElem?_map, List.getElem?_eq_getElem hi2]; unfold gq; simp [hi2]
    rw [e1]
    by_cases hp : ((gq row (i + 1)).s.k == 7 && (dstK L dir (gq row (i + 1)).s.c == dstK L dir (gq row i).s.c)) = true
    · rw [if_pos ⟨hi2, by rw [hp]; simpa using ht⟩]
      have : pltB L dir k (gq row i).s (some (gq row (i + 1)).s) = true ↔ dstK L dir (gq row i).s.c + (gq row (i + 1)).s.v ≤ k := by
        show ((gq row (i + 1)).s.k == 7 && (dstK L dir (gq row (i + 1)).s.c == dstK L dir (gq row i).s.c && decide (dstK L dir (gq row i).s.c + (gq row (i + 1)).s.v ≤ k))) = _ ↔ _
        rw [← Bool.and_assoc, hp, Bool.true_and, decide_eq_true_eq]
      rw [this, ← ho, Int.min_def]
      split <;> omega
    · rw [if_neg (fun h => hp (by have := h.2; rw [Bool.and_eq_true] at this; exact this.2))]
      have : pltB L dir k (gq row i).s (some (gq row (i + 1)).s) = false := by
        show ((gq row (i + 1)).s.k == 7 && (dstK L dir (gq row (i + 1)).s.c == dstK L dir (gq row i).s.c && decide (dstK L dir (gq row i).s.c + (gq row (i + 1)).s.v ≤ k))) = _
        rw [← Bool.and_assoc]
        simp only [Bool.not_eq_true] at hp
        rw [hp, Bool.false_and]
      rw [this]
      simp only [Bool.false_eq_true, or_false]
      exact ho
  · rw [if_neg (fun h => hi2 h.1)]
    have e1 : (row.map (·.s))[i + 1]? = none := by rw [List.getElem?_eq_none]; simp; omega
    rw [e1]
    simp only [pltB, Bool.false_eq_true, or_false]
    exact ho
/-- What the program's row makes hold is what the signs by insertion make hold. -/
theorem hld_ins {L : Int} {js : List Int} {dir t h k v : Int} {l : List Sgn} {row : List Pst} (hn : ∀ i j, i < j → j < l.length → (gs l i).n ≠ (gs l j).n) (ht : t ≠ 0) (hk : k < L) (H : RowL L js dir h l row) : hldL t k row v = hS L js dir t k (insR L dir h l l.length) v := by
  rw [hld_hS ht row (row_ok hk H), row_ins hn H]
/-- Signs that are of no account, or behind the place. -/
theorem hS_none {L : Int} {js : List Int} {dir t k : Int} : ∀ (r : List Sgn) (v : Int), (∀ s, s ∈ r → dstK L dir s.c ≤ k → endB s.k t = false ∧ topK s.k ≠ t) → hS L js dir t k r v = v
  | [], v, _ => rfl
  | s :: r, v, h => by
    rw [hS]
    split
    · rfl
    · have := h s (by simp) (by omega)
      rw [hS_none r _ (fun x hx => h x (by simp [hx]))]
      unfold stpS
      rw [this.1, if_neg (by simp), if_neg this.2]
/-- The last sign of account rules. -/
theorem hS_last {L : Int} {js : List Int} {dir t k : Int} (s : Sgn) (post : List Sgn) (hs : dstK L dir s.c ≤ k) (ha : endB s.k t = true ∨ topK s.k = t) (hp : ∀ x, x ∈ post → dstK L dir x.c ≤ k → endB x.k t = false ∧ topK x.k ≠ t) : ∀ (pre : List Sgn) (v : Int), (∀ x, x ∈ pre → dstK L dir x.c ≤ k) → hS L js dir t k (pre ++ s :: post) v = stpS L js dir t k s post.head? 0
  | [], v, _ => by
    rw [List.nil_append, hS, if_neg (by omega), hS_none post _ hp]
    unfold stpS
    rcases ha with h | h
    · rw [if_pos h, if_pos h]
    · split
      · rfl
      · first | rw [if_pos h, if_pos h] | rw [if_pos h] | rfl
  | x :: pre, v, h => by
    rw [List.cons_append, hS, if_neg (by have := h x (by simp); omega)]
    exact hS_last s post hs ha hp pre _ (fun y hy => h y (by simp [hy]))
end Go.Proofs.YtlpdjinhkmgbgaaGreatDoor

namespace Go.Proofs.YtlpdjinhkmgbgaaGreatDoor
set_option linter.unusedVariables false
set_option linter.unusedSimpArgs false
open Go.RowKit

/-- The numbers of a row. -/
def numR (row : List Pst) (k : Nat) : List Int := (row.take k).map (·.s.n)
theorem numR_succ (row : List Pst) {k : Nat} (h : k < row.length) : numR row (k + 1) = numR row k ++ [(gq row k).s.n] := by
  unfold numR gq; rw [List.take_add_one, List.map_append]; simp [h]
theorem numR_len (row : List Pst) {k : Nat} (h : k ≤ row.length) : (numR row k).length = k := by unfold numR; simp; omega
/-- The numbers come back. -/
def RwnE (L : Int) (js : List Int) (dir h : Int) (l : List Sgn) (w : World) (e : Ending) (w' : World) : Prop :=
  ∃ (row : List Pst) (b : Option Addr) (c : Nat), RowL L js dir h l row ∧ row.length ≤ l.length ∧ e = .returned (.tuple #[.slice b row.length c, .int .i64 0]) ∧ w'.ownsRow w.heap.size 3 1 (.slice b row.length c) row.length (clI (numR row row.length)) ∧ Below w.heap.size w w'
theorem ed_nilR (w : World) : EdS w none [] := ⟨by decide, 0, 0, fun h => (h rfl).elim, fun i hi => absurd hi (Nat.not_lt_zero i)⟩
end Go.Proofs.YtlpdjinhkmgbgaaGreatDoor

namespace Go.Proofs.YtlpdjinhkmgbgaaGreatDoor
set_option linter.unusedVariables false
set_option linter.unusedSimpArgs false
open Go.RowKit

theorem spk_no1 {s : Sgn} {h : Int} (h1 : h < s.up) : spkB s h = false := by unfold spkB; rw [decide_eq_false (by omega : ¬ s.up ≤ h)]; rfl
theorem spk_no2 {s : Sgn} {h : Int} (h1 : s.dn ≤ h) : spkB s h = false := by unfold spkB; rw [decide_eq_false (by omega : ¬ h < s.dn)]; simp
theorem spk_no3 {s : Sgn} {h : Int} {j : Nat} (hj : j < s.cv.length) (h1 : covH (gp s.cv j) h = true) : spkB s h = false := by unfold spkB; rw [anyK_true (j := j) h1 _ hj]; simp
theorem spk_yes {s : Sgn} {h : Int} (h1 : s.up ≤ h) (h2 : h < s.dn) (h3 : ∀ j, j < s.cv.length → covH (gp s.cv j) h = false) : spkB s h = true := by unfold spkB; rw [decide_eq_true h1, decide_eq_true h2, (anyK_iff _).2 h3]; rfl
set_option maxRecDepth 100000 in
set_option maxHeartbeats 2000000 in
theorem refSpeaks_r (s : Sgn) (ad : Option Addr) (cp : Nat) (h : Int) (w : World) (hP : PairsS w ad s.cv) :
    Calls Tryz.prog 115 #[.agg #[.int .i64 s.n, .int .i64 s.k, .int .i64 s.v, .int .i64 s.c, .int .i64 s.d, .int .i64 s.rk, .int .i64 s.up, .int .i64 s.dn, .slice ad s.cv.length cp], .int .i64 h] w fun e w' => e = .returned (.bool (spkB s h)) ∧ Below w.heap.size w w' := by
  obtain ⟨hlen, -, pb, po, hpa, hpc⟩ := hP
  have HPA : Hid (0 < s.cv.length → ad = some ⟨pb, po, none⟩) := Lib.hid fun h => hpa (List.ne_nil_of_length_pos h)
  have HPC := Lib.hid hpc
  have HN3 := Lib.hid (fun j hj h1 => spk_no3 (s := s) (h := h) (j := j) hj h1)
  clear hpa hpc
  by_cases h1 : h < s.up
  · have hr := Lib.hid (spk_no1 h1)
    clear HN3 HPA HPC
    go_enter Tryz.func115, Tryz.ntmps115
    go_wp2_with fail
    go_ret
    exact ⟨by rw [hr.out] <;> rfl, (Below.refl _ _).alloc (Nat.le_refl _) _⟩
  · by_cases h2 : s.dn ≤ h
    · have hr := Lib.hid (spk_no2 h2)
      clear HN3 HPA HPC
      go_enter Tryz.func115, Tryz.ntmps115
      go_wp2_with fail
      go_ret
      exact ⟨by rw [hr.out] <;> rfl, (Below.refl _ _).alloc (Nat.le_refl _) _⟩
    · have HY := Lib.hid (fun h3 => spk_yes (s := s) (h := h) (by omega) (by omega) h3)
      go_enter Tryz.func115, Tryz.ntmps115
      go_wp2_with fail
      obtain ⟨wB, hwB⟩ : ∃ wB, w.alloc (.cells #[.int .i64 s.n, .int .i64 s.k, .int .i64 s.v, .int .i64 s.c, .int .i64 s.d, .int .i64 s.rk, .int .i64 s.up, .int .i64 s.dn, .slice ad s.cv.length cp] 69) = wB := ⟨_, rfl⟩
      have hb : Below w.heap.size w wB := by rw [← hwB]; exact (Below.refl _ _).alloc (Nat.le_refl _) _
      have x8 : wB.cell? ⟨w.heap.size, 8, none⟩ = some (.slice ad s.cv.length cp) := by rw [← hwB]; simp [go_sem]
      rw [hwB]
      clear hwB
      go_loopw [5] (fun i wr => ∃ j : Nat, j ≤ s.cv.length ∧ i = .int .i64 j ∧ Hid (∀ i, i < j → covH (gp s.cv i) h = false) ∧ Below wB.heap.size wB wr) (fun i _ => s.cv.length - (intOf i).toNat)
      case atStart => exact ⟨0, Nat.zero_le _, rfl, Lib.hid fun j hj => absurd hj (Nat.not_lt_zero _), Below.refl _ _⟩
      case round =>
        obtain ⟨j, hj, rfl, HJ, hbr⟩ := hrel
        have x8 := cell_below x8 hbr
        by_cases hjl : j < s.cv.length
        · obtain rfl := HPA.out (by omega)
          have hbo := hb.trans (hbr.mono hb.size)
          obtain ⟨q0, q1⟩ := HPC.out j hjl
          have q0 := cell_below q0 hbo
          have q1 := cell_below q1 hbo
          have hji : (j : Int) < (s.cv.length : Int) := by omega
          have hmeas : s.cv.length - (j + 1) < s.cv.length - j := by omega
          have HJ2 : Hid (covH (gp s.cv j) h = false → ∀ i, i < j + 1 → covH (gp s.cv i) h = false) := Lib.hid fun h i hi => by
            by_cases e : i = j
            · subst e; exact h
            · exact HJ.out i (by omega)
          have HN := Lib.hid (HN3.out j hjl)
          have HCo : Hid (covH (gp s.cv j) h = (decide ((gp s.cv j).1 ≤ h) && decide (h < (gp s.cv j).2))) := Lib.hid rfl
          clear HJ HPC HPA HN3 HY
          generalize covH (gp s.cv j) h = C at *
          generalize (gp s.cv j).1 = y0 at *
          generalize (gp s.cv j).2 = y1 at *
          by_cases g1 : y0 ≤ h
          · by_cases g2 : h < y1
            · have hr := Lib.hid (HN.out (by rw [HCo.out, decide_eq_true g1, decide_eq_true g2]; rfl))
              clear HJ2 HN HCo
              go_wp2_with fail
              go_ret
              exact ⟨by rw [hr.out] <;> rfl, hbo⟩
            · have HJ3 := Lib.hid (HJ2.out (by rw [HCo.out, decide_eq_false g2, Bool.and_false]))
              clear HJ2 HN HCo
              go_wp2_with fail
              go_roundw
              case rel => exact ⟨j + 1, by omega, by go_num, HJ3, hbr⟩
              case measure => first | (simp [intOf]; exact hmeas) | simpa [intOf] using hmeas
          · have HJ3 := Lib.hid (HJ2.out (by rw [HCo.out, decide_eq_false g1, Bool.false_and]))
            clear HJ2 HN HCo
            go_wp2_with fail
            go_roundw
            case rel => exact ⟨j + 1, by omega, by go_num, HJ3, hbr⟩
            case measure => first | (simp [intOf]; exact hmeas) | simpa [intOf] using hmeas
        · obtain rfl : j = s.cv.length := by omega
          have hr := Lib.hid (HY.out HJ.out)
          clear HY HJ HPA HPC HN3
          go_wp2_with fail
          go_ret
          exact ⟨by rw [hr.out] <;> rfl, hb.trans (hbr.mono hb.size)⟩
set_option maxRecDepth 100000 in
set_option maxHeartbeats 2000000 in
theorem refDistance_r (L : Int) (a : Option Addr) (n ca : Nat) (dir c : Int) (hL1 : 0 ≤ L) (hL2 : L ≤ 100000) (hc1 : -1000000 ≤ c) (hc2 : c ≤ 1000000) (w : World) :
    Calls Tryz.prog 42 #[.agg #[.int .i64 L, .slice a n ca], .int .i64 dir, .int .i64 c] w fun e w' => e = .returned (.int .i64 (dstK L dir c)) ∧ Below w.heap.size w w' := by
  by_cases h : dir = 1
  · subst h
    have hr : Hid (dstK L 1 c = c) := Lib.hid rfl
    go_enter Tryz.func42, Tryz.ntmps42
    go_wp2_with fail
    go_ret
    exact ⟨by rw [hr.out] <;> rfl, (Below.refl _ _).alloc (Nat.le_refl _) _⟩
  · have hr : Hid (dstK L dir c = L - c) := Lib.hid (by unfold dstK; rw [if_neg h])
    have hw : IntKind.i64.wrap (L - c) = L - c := IntWalk.i64_in _ (by omega)
    go_enter Tryz.func42, Tryz.ntmps42
    go_wp2_with fail
    go_ret
    exact ⟨by rw [hr.out] <;> rfl, (Below.refl _ _).alloc (Nat.le_refl _) _⟩
set_option maxRecDepth 100000 in
set_option maxHeartbeats 2000000 in
theorem refAhead_r (L : Int) (a : Option Addr) (n ca : Nat) (dir : Int) (s t : Sgn) (ad bd : Option Addr) (cp bp : Nat) (hL1 : 0 ≤ L) (hL2 : L ≤ 100000) (hs : s.d = dir) (ht : t.d = dir) (hc1 : 0 ≤ s.c ∧ s.c ≤ 100000) (hc2 : 0 ≤ t.c ∧ t.c ≤ 100000) (w : World) :
    Calls Tryz.prog 116 #[.agg #[.int .i64 L, .slice a n ca], .agg #[.int .i64 s.n, .int .i64 s.k, .int .i64 s.v, .int .i64 s.c, .int .i64 s.d, .int .i64 s.rk, .int .i64 s.up, .int .i64 s.dn, .slice ad s.cv.length cp], .agg #[.int .i64 t.n, .int .i64 t.k, .int .i64 t.v, .int .i64 t.c, .int .i64 t.d, .int .i64 t.rk, .int .i64 t.up, .int .i64 t.dn, .slice bd t.cv.length bp]] w fun e w' => e = .returned (.bool (decide (ahS L dir s t))) ∧ Below w.heap.size w w' := by
  have D1 := Lib.hid (fun W => refDistance_r L a n ca s.d s.c hL1 hL2 (by omega) (by omega) W)
  have D2 := Lib.hid (fun W => refDistance_r L a n ca t.d t.c hL1 hL2 (by omega) (by omega) W)
  have HAh : Hid (decide (ahS L dir s t) = decide (dstK L s.d s.c < dstK L t.d t.c ∨ (dstK L s.d s.c = dstK L t.d t.c ∧ (s.rk < t.rk ∨ (s.rk = t.rk ∧ s.n < t.n))))) := Lib.hid (by rw [hs, ht]; rfl)
  clear hs ht hc1 hc2
  obtain ⟨x, hx⟩ : ∃ x, dstK L s.d s.c = x := ⟨_, rfl⟩
  obtain ⟨y, hy⟩ : ∃ y, dstK L t.d t.c = y := ⟨_, rfl⟩
  rw [hx] at D1 HAh
  rw [hy] at D2 HAh
  clear hx hy
  go_enter Tryz.func116, Tryz.ntmps116
  go_wp2_with fail
  obtain ⟨wX, hwX⟩ : ∃ wX, ((w.alloc (.cells #[.int .i64 L, .slice a n ca] 24)).alloc (.cells #[.int .i64 s.n, .int .i64 s.k, .int .i64 s.v, .int .i64 s.c, .int .i64 s.d, .int .i64 s.rk, .int .i64 s.up, .int .i64 s.dn, .slice ad s.cv.length cp] 69)).alloc (.cells #[.int .i64 t.n, .int .i64 t.k, .int .i64 t.v, .int .i64 t.c, .int .i64 t.d, .int .i64 t.rk, .int .i64 t.up, .int .i64 t.dn, .slice bd t.cv.length bp] 69) = wX := ⟨_, rfl⟩
  have hb : Below w.heap.size w wX := by rw [← hwX]; exact (((Below.refl _ _).alloc (Nat.le_refl _) _).alloc (by simp) _).alloc (by simp; omega) _
  have hz2 : w.heap.size + 1 + 1 < wX.heap.size := by rw [← hwX]; simp
  have hz1 : w.heap.size + 1 < wX.heap.size := by omega
  have hz0 : w.heap.size < wX.heap.size := by omega
  have p0 : wX.cell? ⟨w.heap.size, 0, none⟩ = some (.int .i64 L) := by rw [← hwX]; simp [go_sem]
  have Z0 := Lib.hid p0
  have p1 : wX.cell? ⟨w.heap.size, 1, none⟩ = some (.slice a n ca) := by rw [← hwX]; simp [go_sem]
  have Z1 := Lib.hid p1
  have p2 : wX.cell? ⟨w.heap.size + 1, 0, none⟩ = some (.int .i64 s.n) := by rw [← hwX]; simp [go_sem]
  have Z2 := Lib.hid p2
  have p5 : wX.cell? ⟨w.heap.size + 1, 3, none⟩ = some (.int .i64 s.c) := by rw [← hwX]; simp [go_sem]
  have Z5 := Lib.hid p5
  have p6 : wX.cell? ⟨w.heap.size + 1, 4, none⟩ = some (.int .i64 s.d) := by rw [← hwX]; simp [go_sem]
  have Z6 := Lib.hid p6
  have p7 : wX.cell? ⟨w.heap.size + 1, 5, none⟩ = some (.int .i64 s.rk) := by rw [← hwX]; simp [go_sem]
  have Z7 := Lib.hid p7
  have p11 : wX.cell? ⟨w.heap.size + 1 + 1, 0, none⟩ = some (.int .i64 t.n) := by rw [← hwX]; simp [go_sem]
  have Z11 := Lib.hid p11
  have p14 : wX.cell? ⟨w.heap.size + 1 + 1, 3, none⟩ = some (.int .i64 t.c) := by rw [← hwX]; simp [go_sem]
  have Z14 := Lib.hid p14
  have p15 : wX.cell? ⟨w.heap.size + 1 + 1, 4, none⟩ = some (.int .i64 t.d) := by rw [← hwX]; simp [go_sem]
  have Z15 := Lib.hid p15
  have p16 : wX.cell? ⟨w.heap.size + 1 + 1, 5, none⟩ = some (.int .i64 t.rk) := by rw [← hwX]; simp [go_sem]
  have Z16 := Lib.hid p16
  rw [hwX]
  clear hwX
  have hB : Below wX.heap.size wX wX := Below.refl _ _
  have HB0 := Lib.hid hb
  clear hb
  go_region_held3 (fun w' => w'.cell? ⟨w.heap.size, 0, none⟩ = some (.int .i64 L) ∧ w'.cell? ⟨w.heap.size, 1, none⟩ = some (.slice a n ca) ∧ w'.cell? ⟨w.heap.size + 1, 0, none⟩ = some (.int .i64 s.n) ∧ w'.cell? ⟨w.heap.size + 1, 3, none⟩ = some (.int .i64 s.c) ∧ w'.cell? ⟨w.heap.size + 1, 4, none⟩ = some (.int .i64 s.d) ∧ w'.cell? ⟨w.heap.size + 1, 5, none⟩ = some (.int .i64 s.rk) ∧ w'.cell? ⟨w.heap.size + 1 + 1, 0, none⟩ = some (.int .i64 t.n) ∧ w'.cell? ⟨w.heap.size + 1 + 1, 3, none⟩ = some (.int .i64 t.c) ∧ w'.cell? ⟨w.heap.size + 1 + 1, 4, none⟩ = some (.int .i64 t.d) ∧ w'.cell? ⟨w.heap.size + 1 + 1, 5, none⟩ = some (.int .i64 t.rk)) (go_keep)
    (first
      | (go_at_call 42
         with_reducible refine Calls.mono (D1.out _) ?_
         rintro e w9 ⟨rfl, hb9⟩
         replace hB : Below wX.heap.size wX w9 := (show Below wX.heap.size wX _ by first | exact hB.drew | exact hB).trans (hb9.mono hB.size)
         have p0 := (hB.cell (p := ⟨w.heap.size, 0, none⟩) hz0).trans Z0.out
         have p1 := (hB.cell (p := ⟨w.heap.size, 1, none⟩) hz0).trans Z1.out
         have p2 := (hB.cell (p := ⟨w.heap.size + 1, 0, none⟩) hz1).trans Z2.out
         have p5 := (hB.cell (p := ⟨w.heap.size + 1, 3, none⟩) hz1).trans Z5.out
         have p6 := (hB.cell (p := ⟨w.heap.size + 1, 4, none⟩) hz1).trans Z6.out
         have p7 := (hB.cell (p := ⟨w.heap.size + 1, 5, none⟩) hz1).trans Z7.out
         have p11 := (hB.cell (p := ⟨w.heap.size + 1 + 1, 0, none⟩) hz2).trans Z11.out
         have p14 := (hB.cell (p := ⟨w.heap.size + 1 + 1, 3, none⟩) hz2).trans Z14.out
         have p15 := (hB.cell (p := ⟨w.heap.size + 1 + 1, 4, none⟩) hz2).trans Z15.out
         have p16 := (hB.cell (p := ⟨w.heap.size + 1 + 1, 5, none⟩) hz2).trans Z16.out)
      | (go_at_call 42
         with_reducible refine Calls.mono (D2.out _) ?_
         rintro e w9 ⟨rfl, hb9⟩
         replace hB : Below wX.heap.size wX w9 := (show Below wX.heap.size wX _ by first | exact hB.drew | exact hB).trans (hb9.mono hB.size)
         have p0 := (hB.cell (p := ⟨w.heap.size, 0, none⟩) hz0).trans Z0.out
         have p1 := (hB.cell (p := ⟨w.heap.size, 1, none⟩) hz0).trans Z1.out
         have p2 := (hB.cell (p := ⟨w.heap.size + 1, 0, none⟩) hz1).trans Z2.out
         have p5 := (hB.cell (p := ⟨w.heap.size + 1, 3, none⟩) hz1).trans Z5.out
         have p6 := (hB.cell (p := ⟨w.heap.size + 1, 4, none⟩) hz1).trans Z6.out
         have p7 := (hB.cell (p := ⟨w.heap.size + 1, 5, none⟩) hz1).trans Z7.out
         have p11 := (hB.cell (p := ⟨w.heap.size + 1 + 1, 0, none⟩) hz2).trans Z11.out
         have p14 := (hB.cell (p := ⟨w.heap.size + 1 + 1, 3, none⟩) hz2).trans Z14.out
         have p15 := (hB.cell (p := ⟨w.heap.size + 1 + 1, 4, none⟩) hz2).trans Z15.out
         have p16 := (hB.cell (p := ⟨w.heap.size + 1 + 1, 5, none⟩) hz2).trans Z16.out))

  all_goals
    have hbz := HB0.out.trans (hB.mono HB0.out.size)
    clear D1 D2
    by_cases g1 : x = y
    · by_cases g2 : s.rk = t.rk
      · have hr : Hid (decide (x < y ∨ (x = y ∧ (s.rk < t.rk ∨ (s.rk = t.rk ∧ s.n < t.n)))) = decide (s.n < t.n)) := Lib.hid (by
          by_cases h : s.n < t.n
          · rw [decide_eq_true h]; exact decide_eq_true (by omega)
          · rw [decide_eq_false h]; exact decide_eq_false (by omega))
        have d1 : (x != y) = false := by simp [g1]
        have d2 : (s.rk != t.rk) = false := by simp [g2]
        clear g1 g2
        go_wp2_with fail
        go_ret
        exact ⟨by rw [HAh.out, hr.out] <;> rfl, hbz⟩
      · have hr : Hid (decide (x < y ∨ (x = y ∧ (s.rk < t.rk ∨ (s.rk = t.rk ∧ s.n < t.n)))) = decide (s.rk < t.rk)) := Lib.hid (by
          by_cases h : s.rk < t.rk
          · rw [decide_eq_true h]; exact decide_eq_true (by omega)
          · rw [decide_eq_false h]; exact decide_eq_false (by omega))
        have d1 : (x != y) = false := by simp [g1]
        have d2 : (s.rk != t.rk) = true := by simp [g2]
        clear g1 g2
        go_wp2_with fail
        go_ret
        exact ⟨by rw [HAh.out, hr.out] <;> rfl, hbz⟩
    · have hr : Hid (decide (x < y ∨ (x = y ∧ (s.rk < t.rk ∨ (s.rk = t.rk ∧ s.n < t.n)))) = decide (x < y)) := Lib.hid (by
        by_cases h : x < y
        · rw [decide_eq_true h]; exact decide_eq_true (by omega)
        · rw [decide_eq_false h]; exact decide_eq_false (by omega))
      have d1 : (x != y) = true := by simp [g1]
      clear g1
      go_wp2_with fail
      go_ret
      exact ⟨by rw [HAh.out, hr.out] <;> rfl, hbz⟩
end Go.Proofs.YtlpdjinhkmgbgaaGreatDoor

namespace Go.Proofs.YtlpdjinhkmgbgaaGreatDoor
set_option linter.unusedVariables false
set_option linter.unusedSimpArgs false
open Go.RowKit

instance : Inhabited Sgn := ⟨⟨0, 0, 0, 0, 0, 0, 0, 0, []⟩⟩
abbrev RE := Sgn × Option Addr × Nat
def encS (x : RE) : List Value := [.int .i64 x.1.n, .int .i64 x.1.k, .int .i64 x.1.v, .int .i64 x.1.c, .int .i64 x.1.d, .int .i64 x.1.rk, .int .i64 x.1.up, .int .i64 x.1.dn, .slice x.2.1 x.1.cv.length x.2.2]
theorem encS_len (x : RE) : (encS x).length = 9 := rfl
def clR (s : List RE) : List Value := s.flatMap encS
theorem clR_app (s t : List RE) : clR (s ++ t) = clR s ++ clR t := by simp [clR]
theorem clR_len (s : List RE) : (clR s).length = s.length * 9 := by
  induction s with
  | nil => rfl
  | cons p s ih => unfold clR at *; rw [List.flatMap_cons, List.length_append, ih, encS_len, List.length_cons]; omega
theorem clR_one (s : List RE) : ∀ v ∈ clR s, v.oneCell' = true := by
  intro v hv
  unfold clR at hv
  rw [List.mem_flatMap] at hv
  obtain ⟨p, _, h⟩ := hv
  simp [encS] at h
  rcases h with rfl | rfl | rfl | rfl | rfl | rfl | rfl | rfl | rfl <;> rfl
theorem clR_c : ∀ (s : List RE) (i : Nat), i < s.length → ∀ c, c < 9 → (clR s)[i * 9 + c]? = (encS s[i]!)[c]?
  | [], i, hi, c, hc => by simp at hi
  | p :: s, 0, hi, c, hc => by
    unfold clR
    rw [List.flatMap_cons, List.getElem?_append_left (by rw [encS_len]; omega), Nat.zero_mul, Nat.zero_add]; rfl
  | p :: s, i + 1, hi, c, hc => by
    have ih := clR_c s i (by simpa using hi) c hc
    unfold clR at *
    rw [List.flatMap_cons, List.getElem?_append_right (by rw [encS_len]; omega), encS_len, show (i + 1) * 9 + c - 9 = i * 9 + c by omega, ih]
    rfl
theorem clR_take : ∀ (s : List RE) (k : Nat), (clR s).take (k * 9) = clR (s.take k)
  | s, 0 => by simp [clR]
  | [], k + 1 => by simp [clR]
  | p :: s, k + 1 => by
    have ih := clR_take s k
    unfold clR at *
    rw [List.take_succ_cons, List.flatMap_cons, List.flatMap_cons, List.take_append, List.take_of_length_le (by rw [encS_len]; omega), encS_len, show (k + 1) * 9 - 9 = k * 9 by omega, ih]
theorem clR_drop : ∀ (s : List RE) (k : Nat), (clR s).drop (k * 9) = clR (s.drop k)
  | s, 0 => by simp [clR]
  | [], k + 1 => by simp [clR]
  | p :: s, k + 1 => by
    have ih := clR_drop s k
    unfold clR at *
    rw [List.drop_succ_cons, List.flatMap_cons, List.drop_append, List.drop_of_length_le (by rw [encS_len]; omega), encS_len, show (k + 1) * 9 - 9 = k * 9 by omega, ih]
    rfl
/-- The row as values, by insertion. -/
def insE (L dir h : Int) (l : List Sgn) (ad : Nat → Option Addr) (cp : Nat → Nat) : Nat → List RE
  | 0 => []
  | k + 1 => if selB dir h (gs l k) = true then
      (insE L dir h l ad cp k).take (plcS L dir (gs l k) ((insE L dir h l ad cp k).map (·.1)) (insE L dir h l ad cp k).length) ++ (gs l k, ad k, cp k) :: (insE L dir h l ad cp k).drop (plcS L dir (gs l k) ((insE L dir h l ad cp k).map (·.1)) (insE L dir h l ad cp k).length)
    else insE L dir h l ad cp k
theorem insE_map (L dir h : Int) (l : List Sgn) (ad : Nat → Option Addr) (cp : Nat → Nat) : ∀ k, (insE L dir h l ad cp k).map (·.1) = insR L dir h l k
  | 0 => rfl
  | k + 1 => by
    have ih := insE_map L dir h l ad cp k
    have hl : (insE L dir h l ad cp k).length = (insR L dir h l k).length := by rw [← ih, List.length_map]
    rw [insE, insR]; split
    · rw [List.map_append, List.map_cons, List.map_take, List.map_drop, ih, hl]
    · exact ih
theorem insE_len (L dir h : Int) (l : List Sgn) (ad : Nat → Option Addr) (cp : Nat → Nat) (k : Nat) : (insE L dir h l ad cp k).length ≤ k := by
  have h1 := insR_len L dir h l k
  rw [← insE_map L dir h l ad cp k, List.length_map] at h1
  exact h1
theorem insE_mem {L dir h : Int} {l : List Sgn} {ad : Nat → Option Addr} {cp : Nat → Nat} {x : RE} : ∀ {k}, x ∈ insE L dir h l ad cp k → ∃ j, j < k ∧ x = (gs l j, ad j, cp j) ∧ selB dir h (gs l j) = true
  | 0, hx => by simp [insE] at hx
  | k + 1, hx => by
    rw [insE] at hx
    split at hx
    next hs =>
      rw [List.mem_append, List.mem_cons] at hx
      rcases hx with hx | hx | hx
      · obtain ⟨j, hj, e⟩ := insE_mem (List.mem_of_mem_take hx); exact ⟨j, by omega, e⟩
      · exact ⟨k, by omega, hx, hs⟩
      · obtain ⟨j, hj, e⟩ := insE_mem (List.mem_of_mem_drop hx); exact ⟨j, by omega, e⟩
    next => obtain ⟨j, hj, e⟩ := insE_mem hx; exact ⟨j, by omega, e⟩
/-- One step, where the place is known. -/
theorem insE_step {L dir h : Int} {l : List Sgn} {ad : Nat → Option Addr} {cp : Nat → Nat} {k p : Nat} (hs : selB dir h (gs l k) = true) (hp : plcS L dir (gs l k) ((insE L dir h l ad cp k).map (·.1)) (insE L dir h l ad cp k).length = p) :
    insE L dir h l ad cp (k + 1) = (insE L dir h l ad cp k).take p ++ (gs l k, ad k, cp k) :: (insE L dir h l ad cp k).drop p := by
  rw [insE, if_pos hs, hp]
theorem insE_skip {L dir h : Int} {l : List Sgn} {ad : Nat → Option Addr} {cp : Nat → Nat} {k : Nat} (hs : selB dir h (gs l k) = false) : insE L dir h l ad cp (k + 1) = insE L dir h l ad cp k := by
  rw [insE, if_neg (by rw [hs]; exact Bool.false_ne_true)]
theorem plcS_yes {L dir : Int} {x : Sgn} {out : List Sgn} {k : Nat} (h : ahS L dir x (gs out k)) : plcS L dir x out (k + 1) = plcS L dir x out k := by rw [plcS, if_pos h]
theorem plcS_no {L dir : Int} {x : Sgn} {out : List Sgn} {k : Nat} (h : ¬ ahS L dir x (gs out k)) : plcS L dir x out (k + 1) = k + 1 := by rw [plcS, if_neg h]
/-- A row of values as signs. -/
theorem ownR {w : World} {base c : Nat} {a : Option Addr} {s : List RE} (h : w.ownsRow base 69 9 (.slice a s.length c) s.length (clR s)) (hn : s.length ≤ 9223372036854775807) (hp : ∀ i, i < s.length → PairsS w s[i]!.2.1 s[i]!.1.cv) : SgnS w a (s.map (·.1)) := by
  have hm : ∀ i, i < s.length → gs (s.map (·.1)) i = s[i]!.1 := fun i hi => by
    rw [gs_at _ (by simpa using hi), List.getElem_map, getElem!_pos _ i hi]
  refine ⟨by simpa using hn, ?_⟩
  rcases h.2 with ⟨h1, h2⟩ | ⟨g2, c2, cur, h1, _⟩
  · exact ⟨0, 0, fun _ => none, fun _ => 0, (fun hne => absurd (List.map_eq_nil_iff.2 (List.eq_nil_of_length_eq_zero h2)) hne), fun i hi => by simp at hi; omega⟩
  · obtain ⟨rfl, rfl⟩ : a = some ⟨g2, 0, none⟩ ∧ c = c2 := by simpa using h1
    refine ⟨g2, 0, fun i => s[i]!.2.1, fun i => s[i]!.2.2, fun _ => rfl, fun i hi => ?_⟩
    have hi : i < s.length := by simpa using hi
    have hc := fun j hj => (World.ownsRow.cellAt h (i * 9 + j) (by omega)).trans (clR_c s i hi j hj)
    rw [hm i hi, Nat.zero_add]
    exact ⟨⟨hc 0 (by omega), hc 1 (by omega), hc 2 (by omega), hc 3 (by omega), hc 4 (by omega), hc 5 (by omega), hc 6 (by omega), hc 7 (by omega)⟩, hc 8 (by omega), hp i hi⟩
end Go.Proofs.YtlpdjinhkmgbgaaGreatDoor

namespace Go.Proofs.YtlpdjinhkmgbgaaGreatDoor
set_option linter.unusedVariables false
set_option linter.unusedSimpArgs false
theorem loadNoneR (P : Program) (w : World) (a : Addr) : (loadCells a 0).run P w = .ok #[] w := rfl
theorem run_append_zeroR {P : Program} {w : World} (base : Nat) (t ty e : TypeId) (i : TypeInfo) (size : Nat) (ht : P.underlying t = some (.slice e)) (hi : P.info? e = some i)
    (v : Value) (n : Nat) (xs : List Value) (hown : w.ownsRow base e size v n xs) (ao : Option Addr) (c : Nat) :
    (Builtin.append_ #[t, t] ty #[v, .slice ao 0 c]).run P w = .ok v w := by
  rcases hown.2 with ⟨rfl, rfl⟩ | ⟨g, cap, cur, rfl, _, _, hnc, _⟩
  · cases ao <;> simp [Builtin.append_, run_underlying ht, sizeOf, typeInfo, hi, Builtin.lenOf, Builtin.firstCells, loadNoneR, Result.andThen]
  · cases ao <;> simp [Builtin.append_, run_underlying ht, sizeOf, typeInfo, hi, Builtin.lenOf, Builtin.firstCells, hnc, storeCells, loadNoneR, Result.andThen]
theorem stepZ {P : Program} {ops : Array Oper} {o : Oper} {a : Act} {K : Act → World → Prop} {Q : Exit → Act → World → Prop} {E : Prop} {w : World} (hgd : o.guard = none) (s x : Operand) (t : TypeId)
    (ho : o.op = .call { callee := .builtin .append, args := #[s, x], argTypes := #[t, t] })
    (base : Nat) (e : TypeId) (i : TypeInfo) (size : Nat) (ht : P.underlying t = some (.slice e)) (hi : P.info? e = some i)
    (v : Value) (n : Nat) (xs : List Value) (hs : a.eval s = v) (hown : w.ownsRow base e size v n xs) (ao : Option Addr) (m c : Nat) (hx : a.eval x = .slice ao m c) (hm : m = 0)
    (h : K (a.put o.dst v) w) : if Region.wanted o (yielded ops a.tmps) = true then Oper.wp P o a w K Q else E := by
  subst hm
  have hw : Region.wanted o (yielded ops a.tmps) = true := by simp [Region.wanted, hgd]
  rw [if_pos hw]
  have hrun := run_append_zeroR (P := P) (w := w) base t o.type e i size ht hi v n xs hown ao c
  unfold Oper.wp
  simp [execOp, ho, resolve, invoke, builtin, hs, hx, hrun, Result.andThen]
  exact h
end Go.Proofs.YtlpdjinhkmgbgaaGreatDoor
