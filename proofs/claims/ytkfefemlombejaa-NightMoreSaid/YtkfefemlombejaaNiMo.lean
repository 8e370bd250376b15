/-
  One more night, job, place or day: the lists stay right, and what Most counts. By an AI agent.
-/
import Derived.Test.YtkfefemlombejaaNiQf
import Derived.Test.YtkfefemlombejaaNiV
namespace Go.Proofs.Ytkfefemlombejaa
set_option linter.unusedVariables false
set_option linter.unusedSimpArgs false
open Go.RowKit

theorem nightsB_iff {l : List Ni} : nightsB l = true ↔ l.length ≤ 60 ∧ ∀ i, i < l.length → nightB (gn l i) = true := by
  constructor
  · intro h
    exact ⟨nightsB_len h, fun i hi => nightsB_ok h hi⟩
  · rintro ⟨h1, h2⟩
    unfold nightsB
    rw [decide_eq_true h1, Bool.true_and, Bool.not_eq_true', (anyK_iff _).2]
    intro k hk
    rw [h2 k hk]; rfl
theorem night_p {s : Ni} (h : nightB s = true) : 0 ≤ s.p ∧ s.p ≤ 100 ∧ s.d ≤ 100000 := by
  simp only [nightB, Bool.and_eq_true, btw_iff] at h
  exact ⟨h.2.2.2.1, h.2.2.2.2, h.1.2⟩
theorem errL_mk {js : List Jo} {ns : List Ni} (h : jobsB js = true) (h2 : nightsB ns = true) : errL js ns = 0 := by unfold errL; rw [h, h2]; rfl
theorem more_night {js : List Jo} {ns : List Ni} {x : Ni} (he : errL js ns = 0) (hl : ns.length ≤ 20) :
    (errL js (ns ++ [x]) = 0 → mostN js ns ≤ mostN js (ns ++ [x])) ∧ (errL js (ns ++ [x]) ≠ 0 → nightB x = false) := by
  obtain ⟨v1, v2⟩ := errL_ok he
  have hn := nightsB_iff.1 v2
  constructor
  · intro h
    have hx := nightsB_ok (errL_ok h).2 (i := ns.length) (by simp)
    rw [gn_app, if_neg (by omega), if_pos rfl] at hx
    exact most_night (fun i hi => (night_p (hn.2 i hi)).1) (night_p hx).1
  · intro h
    cases hx : nightB x with
    | false => rfl
    | true =>
      refine absurd (errL_mk v1 (nightsB_iff.2 ⟨by simp; omega, fun i hi => ?_⟩)) h
      have hi : i < ns.length + 1 := by simpa using hi
      rw [gn_app]
      by_cases e : i < ns.length
      · rw [if_pos e]; exact hn.2 i e
      · rw [if_neg e, if_pos (by omega)]; exact hx
theorem more_job {js : List Jo} {ns : List Ni} {y : Jo} (he : errL js ns = 0) : mostN js ns ≤ mostN (js ++ [y]) ns ∧ mostN (js ++ [y]) ns ≤ mostN js ns + 1 :=
  most_job (fun i hi => (night_p (nightsB_ok (errL_ok he).2 hi)).1)
theorem gn_set {ns : List Ni} {i0 : Nat} {v : Ni} (m : Nat) (hm : m < ns.length) : gn (ns.set i0 v) m = if m = i0 then v else gn ns m := by
  unfold gn
  rw [List.getD_eq_getElem?_getD, List.getElem?_set]
  by_cases e : i0 = m
  · subst e; rw [if_pos rfl, if_pos hm, if_pos rfl]; rfl
  · rw [if_neg e, if_neg (fun h => e h.symm), List.getD_eq_getElem?_getD]
theorem gj_set {js : List Jo} {i0 : Nat} {v : Jo} (m : Nat) (hm : m < js.length) : gj (js.set i0 v) m = if m = i0 then v else gj js m := by
  unfold gj
  rw [List.getD_eq_getElem?_getD, List.getElem?_set]
  by_cases e : i0 = m
  · subst e; rw [if_pos rfl, if_pos hm, if_pos rfl]; rfl
  · rw [if_neg e, if_neg (fun h => e h.symm), List.getD_eq_getElem?_getD]
theorem more_place {js : List Jo} {ns : List Ni} {i0 : Nat} (hi : i0 < ns.length) (he : errL js ns = 0) :
    errL js (ns.set i0 { gn ns i0 with p := min 100 ((gn ns i0).p + 1) }) = 0 ∧ mostN js ns ≤ mostN js (ns.set i0 { gn ns i0 with p := min 100 ((gn ns i0).p + 1) }) ∧ mostN js (ns.set i0 { gn ns i0 with p := min 100 ((gn ns i0).p + 1) }) ≤ mostN js ns + 1 := by
  obtain ⟨v1, v2⟩ := errL_ok he
  have hn := nightsB_iff.1 v2
  have hp := night_p (hn.2 i0 hi)
  refine ⟨errL_mk v1 (nightsB_iff.2 ⟨by simpa using hn.1, fun i hi2 => ?_⟩), most_place (i0 := i0) (by simp) hi (fun i hi => (night_p (hn.2 i hi)).1) ?_ ?_ ?_ ?_⟩
  · have hi2 : i < ns.length := by simpa using hi2
    rw [gn_set i hi2]
    by_cases e : i = i0
    · rw [if_pos e]
      have := hn.2 i0 hi
      simp only [nightB, Bool.and_eq_true, btw_iff] at this ⊢
      refine ⟨this.1, this.2.1, this.2.2.1, ?_, ?_⟩ <;> omega
    · rw [if_neg e]; exact hn.2 i hi2
  · intro j m hm
    rw [gn_set m hm]
    by_cases e : m = i0
    · subst e; rw [if_pos rfl]; rfl
    · rw [if_neg e]
  · intro m hm e
    rw [gn_set m hm, if_neg e]
  · rw [gn_set i0 hi, if_pos rfl]; show _ ≤ min 100 ((gn ns i0).p + 1); omega
  · rw [gn_set i0 hi, if_pos rfl]; show min 100 ((gn ns i0).p + 1) ≤ _; omega
theorem more_day {js : List Jo} {ns : List Ni} {i0 : Nat} (hi : i0 < js.length) (he : errL js ns = 0) :
    errL (js.set i0 { gj js i0 with l := min 100000 ((gj js i0).l + 1) }) ns = 0 ∧ mostN js ns ≤ mostN (js.set i0 { gj js i0 with l := min 100000 ((gj js i0).l + 1) }) ns ∧ mostN (js.set i0 { gj js i0 with l := min 100000 ((gj js i0).l + 1) }) ns ≤ mostN js ns + 1 := by
  obtain ⟨v1, v2⟩ := errL_ok he
  have hn := nightsB_iff.1 v2
  have hj60 := jobsB_len v1
  unfold jobsB at v1
  rw [Bool.and_eq_true] at v1
  have hnum : ∀ m, m < js.length → (gj (js.set i0 { gj js i0 with l := min 100000 ((gj js i0).l + 1) }) m).n = (gj js m).n := fun m hm => by
    rw [gj_set m hm]
    by_cases e : m = i0
    · subst e; rw [if_pos rfl]
    · rw [if_neg e]
  have hok : ∀ k, k ≤ js.length → jokK js k = true → jokK (js.set i0 { gj js i0 with l := min 100000 ((gj js i0).l + 1) }) k = true ∧ ∀ m, m < k → jobB (gj js m) = true := by
    intro k
    induction k with
    | zero => exact fun _ _ => ⟨rfl, fun m hm => absurd hm (Nat.not_lt_zero _)⟩
    | succ k ih =>
      intro hk h
      rw [jokK, Bool.and_eq_true, Bool.and_eq_true] at h
      obtain ⟨h1, h2, h3⟩ := h
      obtain ⟨a1, a2⟩ := ih (by omega) h1
      refine ⟨?_, fun m hm => ?_⟩
      · rw [jokK, a1, Bool.true_and, Bool.and_eq_true]
        constructor
        · rw [gj_set k (by omega)]
          by_cases e : k = i0
          · rw [if_pos e]
            subst e
            simp only [jobB, Bool.and_eq_true, btw_iff, decide_eq_true_eq] at h2 ⊢
            refine ⟨h2.1, h2.2.1, ⟨h2.2.2.1.1, ?_, ?_⟩, ?_⟩ <;> omega
          · rw [if_neg e]; exact h2
        · rw [Bool.not_eq_true', anyK_iff] at h3 ⊢
          intro m hm
          rw [hnum m (by omega), hnum k (by omega)]
          exact h3 m hm
      · rcases Nat.lt_succ_iff_lt_or_eq.1 hm with h | h
        · exact a2 m h
        · rw [h]; exact h2
  have hjb := hok js.length (Nat.le_refl _) v1.2
  refine ⟨errL_mk ?_ v2, most_day (i0 := i0) (by simp) hi (fun i hi => (night_p (hn.2 i hi)).1) (fun i hi e => by rw [gj_set i hi, if_neg e]) ?_ hn.2⟩
  · unfold jobsB
    rw [List.length_set, hjb.1, Bool.and_true]
    exact v1.1
  · intro s hs hf
    rw [gj_set i0 hi, if_pos rfl]
    have hd := (night_p hs).2.2
    simp only [fitB, Bool.and_eq_true, btw_iff] at hf ⊢
    refine ⟨hf.1, hf.2.1, ⟨hf.2.2.1.1, ?_⟩, hf.2.2.2⟩
    have := hf.2.2.1.2
    show s.d ≤ min 100000 ((gj js i0).l + 1)
    omega
theorem jok_all {l : List Jo} : ∀ {k : Nat}, jokK l k = true → ∀ m, m < k → jobB (gj l m) = true
  | 0, _, m, hm => absurd hm (Nat.not_lt_zero _)
  | k + 1, h, m, hm => by
    rw [jokK, Bool.and_eq_true, Bool.and_eq_true] at h
    rcases Nat.lt_succ_iff_lt_or_eq.1 hm with e | e
    · exact jok_all h.1 m e
    · rw [e]; exact h.2.1
theorem job_l {js : List Jo} {ns : List Ni} (he : errL js ns = 0) {i : Nat} (hi : i < js.length) : 0 ≤ (gj js i).l ∧ (gj js i).l ≤ 100000 := by
  have v1 := (errL_ok he).1
  unfold jobsB at v1
  rw [Bool.and_eq_true] at v1
  have := jok_all v1.2 i hi
  simp only [jobB, Bool.and_eq_true, btw_iff] at this
  exact this.2.2.1.2
theorem night_pp {js : List Jo} {ns : List Ni} (he : errL js ns = 0) {i : Nat} (hi : i < ns.length) : 0 ≤ (gn ns i).p ∧ (gn ns i).p ≤ 100 :=
  have h := night_p (nightsB_ok (errL_ok he).2 hi)
  ⟨h.1, h.2.1⟩
theorem most_bd {js : List Jo} {ns : List Ni} (he : errL js ns = 0) : 0 ≤ mostN js ns ∧ mostN js ns ≤ js.length := by
  obtain ⟨p, hg, hd⟩ := most_good js ns (fun i hi => (night_p (nightsB_ok (errL_ok he).2 hi)).1)
  have := dnN_b p
  rw [hd, hg.len] at this
  exact this
end Go.Proofs.Ytkfefemlombejaa
