/-
  One more night, job, place or day, and the greatest number of jobs of package night: plain mathematics. By an AI agent.
-/
import Derived.Test.YtghlhjiomebmhaaNiQe
namespace Go.Proofs.Ytghlhjiomebmhaa
set_option linter.unusedVariables false
set_option linter.unusedSimpArgs false
open Go.RowKit

theorem cntN_zero {C : List (List Int)} {P : List Int} {L N : Nat} {p : List Int} (hg : GoodP C P L N p) {m : Nat} (hm : N ≤ m) : cntN p m = 0 := by
  rw [cntN_cK, cK_zero]
  · rfl
  · intro i hi
    refine beq_false_of_ne fun e => ?_
    rcases hg.ent i (by rw [← hg.len]; exact hi) with h | ⟨m', h, h2, _⟩ <;> omega
theorem good_mono {C C' : List (List Int)} {P P' : List Int} {L N N' : Nat} {p : List Int} (hN : N ≤ N') (hC : ∀ i, i < L → ∀ m : Nat, m < N → (m : Int) ∈ gr C i → (m : Int) ∈ gr C' i) (hP : ∀ m, m < N → gi P m ≤ gi P' m) (hP0 : ∀ m, N ≤ m → m < N' → 0 ≤ gi P' m) (hg : GoodP C P L N p) : GoodP C' P' L N' p := by
  refine ⟨hg.len, fun i hi => ?_, fun m hm => ?_⟩
  · rcases hg.ent i hi with h | ⟨m, h, h2, h3⟩
    · exact .inl h
    · exact .inr ⟨m, h, by omega, hC i hi m h2 h3⟩
  · by_cases e : m < N
    · have h1 := hg.cap m e
      have h2 := hP m e
      omega
    · rw [cntN_zero hg (by omega)]
      exact hP0 m (by omega) hm
theorem cnt_drop {q : List Int} {k : Nat} (hk : k < q.length) (m : Nat) : cntN (q.set k (-1)) m ≤ cntN q m ∧ (gi q k = m → cntN (q.set k (-1)) m < cntN q m) := by
  rw [cntN_cK, cntN_cK, List.length_set]
  have himp : ∀ i, i < q.length → (gi (q.set k (-1)) i == (m : Int)) = true → (gi q i == (m : Int)) = true := fun i hi h => by
    rw [gi_set q k (-1) i hk] at h
    by_cases e : i = k
    · rw [if_pos e] at h; simp at h
    · rw [if_neg e] at h; exact h
  refine ⟨?_, fun hm => ?_⟩
  · have := cK_le (f := fun i => gi (q.set k (-1)) i == (m : Int)) (g := fun i => gi q i == (m : Int)) q.length himp
    omega
  · have := cK_lt (f := fun i => gi (q.set k (-1)) i == (m : Int)) (g := fun i => gi q i == (m : Int)) (j := k) (by
      simp only [gi_set q k (-1) k hk, if_pos]; exact beq_false_of_ne (by omega)) (by simp [hm]) q.length hk himp
    omega
theorem dn_drop {q : List Int} {k : Nat} (hk : k < q.length) : dnN q ≤ dnN (q.set k (-1)) + 1 := by
  unfold dnN
  rw [cntN_cK, cntN_cK, List.length_set]
  have := cK_one (f := fun i => gi (q.set k (-1)) i == -1) (g := fun i => gi q i == -1) (j := k) q.length fun i hi hne h => by
    simp only [gi_set q k (-1) i hk, if_neg hne] at h; exact h
  omega
theorem good_drop {C C' : List (List Int)} {P P' : List Int} {L N : Nat} {q : List Int} {k : Nat} (hk : k < L) (hC : ∀ i, i < L → i ≠ k → ∀ m : Nat, m < N → (m : Int) ∈ gr C i → (m : Int) ∈ gr C' i) (hP : ∀ m : Nat, m < N → cntN (q.set k (-1)) m ≤ gi P' m) (hg : GoodP C P L N q) : GoodP C' P' L N (q.set k (-1)) ∧ dnN q ≤ dnN (q.set k (-1)) + 1 := by
  have hkq : k < q.length := by rw [hg.len]; exact hk
  refine ⟨⟨by rw [List.length_set]; exact hg.len, fun i hi => ?_, hP⟩, dn_drop hkq⟩
  rw [gi_set q k (-1) i hkq]
  by_cases e : i = k
  · rw [if_pos e]; exact .inl rfl
  · rw [if_neg e]
    rcases hg.ent i hi with h | ⟨m, h, h2, h3⟩
    · exact .inl h
    · exact .inr ⟨m, h, h2, hC i hi e m h2 h3⟩
theorem mem_row {ns : List Ni} {j : Jo} {m : Nat} : (m : Int) ∈ rowF ns j ↔ m < ns.length ∧ fitB j (gn ns m) = true := by
  constructor
  · intro h
    obtain ⟨m', e, h1, h2⟩ := selK_mem _ _ _ h
    obtain rfl : m = m' := by omega
    exact ⟨h1, h2⟩
  · intro ⟨h1, h2⟩; exact mem_selK _ m h1 h2
theorem most_good (js : List Jo) (ns : List Ni) (hps : ∀ i, i < ns.length → 0 ≤ (gn ns i).p) : ∃ p, GoodP (chL js ns) (psL ns) js.length ns.length p ∧ dnN p = mostN js ns := ⟨grtL js ns, grtL_good hps, rfl⟩
theorem gn_app (ns : List Ni) (x : Ni) (m : Nat) : gn (ns ++ [x]) m = if m < ns.length then gn ns m else if m = ns.length then x else gn ns m := by
  unfold gn
  rw [List.getD_eq_getElem?_getD, List.getD_eq_getElem?_getD, List.getElem?_append]
  by_cases h : m < ns.length
  · rw [if_pos h, if_pos h]
  · rw [if_neg h, if_neg h]
    by_cases e : m = ns.length
    · subst e; simp
    · rw [if_neg e]
      rw [List.getElem?_eq_none (by simp; omega), List.getElem?_eq_none (by omega)]
theorem gj_app (js : List Jo) (x : Jo) (m : Nat) : gj (js ++ [x]) m = if m < js.length then gj js m else if m = js.length then x else gj js m := by
  unfold gj
  rw [List.getD_eq_getElem?_getD, List.getD_eq_getElem?_getD, List.getElem?_append]
  by_cases h : m < js.length
  · rw [if_pos h, if_pos h]
  · rw [if_neg h, if_neg h]
    by_cases e : m = js.length
    · subst e; simp
    · rw [if_neg e]
      rw [List.getElem?_eq_none (by simp; omega), List.getElem?_eq_none (by omega)]
/-- One more night never makes it less. -/
theorem most_night {js : List Jo} {ns : List Ni} {x : Ni} (hps : ∀ i, i < ns.length → 0 ≤ (gn ns i).p) (hx : 0 ≤ x.p) : mostN js ns ≤ mostN js (ns ++ [x]) := by
  obtain ⟨p, hg, hd⟩ := most_good js ns hps
  have hps2 : ∀ i, i < (ns ++ [x]).length → 0 ≤ (gn (ns ++ [x]) i).p := fun i hi => by
    rw [gn_app]
    split
    · exact hps i (by assumption)
    · split
      · exact hx
      · simp at hi; omega
  rw [← hd]
  refine most_max hps2 (good_mono (by simp) (fun i hi m hm h => ?_) (fun m hm => ?_) (fun m hm hm2 => ?_) hg)
  · rw [gr_chL _ _ hi] at h ⊢
    rw [mem_row] at h ⊢
    exact ⟨by simp; omega, by rw [gn_app, if_pos hm]; exact h.2⟩
  · rw [gi_psL ns hm, gi_psL (ns ++ [x]) (by simp; omega), gn_app, if_pos hm]; exact Int.le_refl _
  · rw [gi_psL (ns ++ [x]) hm2]; exact hps2 m hm2
/-- One more job makes it greater by at most 1, and never less. -/
theorem most_job {js : List Jo} {ns : List Ni} {x : Jo} (hps : ∀ i, i < ns.length → 0 ≤ (gn ns i).p) : mostN js ns ≤ mostN (js ++ [x]) ns ∧ mostN (js ++ [x]) ns ≤ mostN js ns + 1 := by
  constructor
  · obtain ⟨p, hg, hd⟩ := most_good js ns hps
    have hgi : ∀ i, gi (p ++ [-1]) i = if i < js.length then gi p i else if i = js.length then -1 else 0 := fun i => by rw [gi_app, hg.len]
    have hcnt : ∀ m : Int, m ≠ -1 → cntN (p ++ [-1]) m = cntN p m := fun m hm => by
      rw [cntN_cK, cntN_cK, List.length_append, hg.len]
      show ((cK (fun k => gi (p ++ [-1]) k == m) js.length + (if (gi (p ++ [-1]) js.length == m) = true then 1 else 0) : Nat) : Int) = _
      rw [if_neg (by rw [hgi, if_neg (by omega), if_pos rfl]; simp; omega), cK_congr (g := fun k => gi p k == m) js.length (fun i hi => by rw [hgi, if_pos hi])]
      rfl
    have hg2 : GoodP (chL (js ++ [x]) ns) (psL ns) (js ++ [x]).length ns.length (p ++ [-1]) := by
      refine ⟨by simp [hg.len], fun i hi => ?_, fun m hm => ?_⟩
      · rw [hgi]
        by_cases e : i < js.length
        · rw [if_pos e]
          rcases hg.ent i e with h | ⟨m, h, h2, h3⟩
          · exact .inl h
          · refine .inr ⟨m, h, h2, ?_⟩
            rw [gr_chL _ _ hi, gj_app, if_pos e]
            rw [gr_chL _ _ e] at h3
            exact h3
        · rw [if_neg e, if_pos (by simp at hi; omega)]; exact .inl rfl
      · rw [hcnt m (by omega)]; exact hg.cap m hm
    have h1 := most_max hps hg2
    have h2 : dnN (p ++ [-1]) = dnN p := by
      unfold dnN
      rw [cntN_cK, cntN_cK, List.length_append, hg.len]
      show _ - ((cK (fun k => gi (p ++ [-1]) k == -1) js.length + (if (gi (p ++ [-1]) js.length == -1) = true then 1 else 0) : Nat) : Int) = _
      rw [if_pos (by rw [hgi, if_neg (by omega), if_pos rfl]; rfl), cK_congr (g := fun k => gi p k == -1) js.length (fun i hi => by rw [hgi, if_pos hi])]
      simp; omega
    omega
  · obtain ⟨q, hg, hd⟩ := most_good (js ++ [x]) ns hps
    have hlen : q.length = js.length + 1 := by rw [hg.len]; simp
    have hgi : ∀ i, i < js.length → gi (q.take js.length) i = gi q i := fun i hi => by
      unfold gi
      rw [List.getD_eq_getElem?_getD, List.getD_eq_getElem?_getD, List.getElem?_take, if_pos hi]
    have hl : (q.take js.length).length = js.length := by rw [List.length_take]; omega
    have hcnt : ∀ m : Int, cK (fun k => gi (q.take js.length) k == m) js.length = cK (fun k => gi q k == m) js.length := fun m => cK_congr _ (fun i hi => by rw [hgi i hi])
    have hg2 : GoodP (chL js ns) (psL ns) js.length ns.length (q.take js.length) := by
      refine ⟨hl, fun i hi => ?_, fun m hm => ?_⟩
      · rw [hgi i hi]
        rcases hg.ent i (by simp; omega) with h | ⟨m, h, h2, h3⟩
        · exact .inl h
        · refine .inr ⟨m, h, h2, ?_⟩
          rw [gr_chL _ _ (by simp; omega), gj_app, if_pos hi] at h3
          rw [gr_chL _ _ hi]; exact h3
      · have h1 := hg.cap m hm
        rw [cntN_cK, hlen] at h1
        rw [cntN_cK, hl, hcnt]
        have : cK (fun k => gi q k == (m : Int)) (js.length + 1) = cK (fun k => gi q k == (m : Int)) js.length + (if (gi q js.length == (m : Int)) = true then 1 else 0) := rfl
        omega
    have h1 := most_max hps hg2
    have h2 : dnN q ≤ dnN (q.take js.length) + 1 := by
      unfold dnN
      rw [cntN_cK, cntN_cK, hlen, hl, hcnt]
      have : cK (fun k => gi q k == -1) (js.length + 1) = cK (fun k => gi q k == -1) js.length + (if (gi q js.length == -1) = true then 1 else 0) := rfl
      omega
    omega
/-- One more place, where nothing else changes. -/
theorem most_place {js : List Jo} {ns ns' : List Ni} {i0 : Nat} (hl : ns'.length = ns.length) (hi0 : i0 < ns.length) (hps : ∀ i, i < ns.length → 0 ≤ (gn ns i).p)
    (hfit : ∀ j m, m < ns.length → fitB j (gn ns' m) = fitB j (gn ns m)) (hsame : ∀ m, m < ns.length → m ≠ i0 → (gn ns' m).p = (gn ns m).p) (hp1 : (gn ns i0).p ≤ (gn ns' i0).p) (hp2 : (gn ns' i0).p ≤ (gn ns i0).p + 1) :
    mostN js ns ≤ mostN js ns' ∧ mostN js ns' ≤ mostN js ns + 1 := by
  have hP : ∀ m, m < ns.length → gi (psL ns) m ≤ gi (psL ns') m := fun m hm => by
    rw [gi_psL ns hm, gi_psL ns' (by omega)]
    by_cases e : m = i0
    · subst e; exact hp1
    · rw [hsame m hm e]; exact Int.le_refl _
  have hps' : ∀ i, i < ns'.length → 0 ≤ (gn ns' i).p := fun i hi => by
    have h1 := hP i (by omega)
    rw [gi_psL ns (by omega), gi_psL ns' hi] at h1
    have h2 := hps i (by omega)
    omega
  have hrow : ∀ (i m : Nat), i < js.length → m < ns.length → ((m : Int) ∈ gr (chL js ns) i ↔ (m : Int) ∈ gr (chL js ns') i) := fun i m hi hm => by
    rw [gr_chL _ _ hi, gr_chL _ _ hi, mem_row, mem_row, hfit _ m hm, hl]
  constructor
  · obtain ⟨p, hg, hd⟩ := most_good js ns hps
    rw [← hd]
    have := good_mono (C' := chL js ns') (P' := psL ns') (N' := ns'.length) (by omega) (fun i hi m hm h => (hrow i m hi hm).1 h) hP (fun m h1 h2 => by omega) hg
    exact most_max hps' this
  · obtain ⟨q, hg, hd⟩ := most_good js ns' hps'
    rw [hl] at hg
    by_cases hc : cntN q i0 ≤ (gn ns i0).p
    · have hg2 : GoodP (chL js ns) (psL ns) js.length ns.length q := by
        refine ⟨hg.len, fun i hi => ?_, fun m hm => ?_⟩
        · rcases hg.ent i hi with h | ⟨m, h, h2, h3⟩
          · exact .inl h
          · exact .inr ⟨m, h, h2, (hrow i m hi h2).2 h3⟩
        · rw [gi_psL ns hm]
          by_cases e : m = i0
          · subst e; exact hc
          · have := hg.cap m hm
            rw [gi_psL ns' (by omega), hsame m hm e] at this
            exact this
      have := most_max hps hg2
      omega
    · have hcap := hg.cap i0 hi0
      rw [gi_psL ns' (by omega)] at hcap
      have hpos := hps i0 hi0
      obtain ⟨k, hk, hqk⟩ : ∃ k, k < q.length ∧ gi q k = i0 := by
        apply Classical.byContradiction
        intro hno
        have : cntN q i0 = 0 := by
          rw [cntN_cK, cK_zero]
          · rfl
          · intro i hi; exact beq_false_of_ne fun e => hno ⟨i, hi, e⟩
        omega
      have hkL : k < js.length := by rw [← hg.len]; exact hk
      obtain ⟨hg2, hd2⟩ := good_drop (C' := chL js ns) (P' := psL ns) hkL (fun i hi _ m hm h => (hrow i m hi hm).2 h) (fun m hm => by
        rw [gi_psL ns hm]
        have h1 := cnt_drop hk m
        by_cases e : m = i0
        · subst e; have := h1.2 hqk; omega
        · have h2 := hg.cap m hm
          rw [gi_psL ns' (by omega), hsame m hm e] at h2
          have := h1.1
          omega) hg
      have := most_max hps hg2
      omega
/-- One job fits more nights. -/
theorem most_day {js js' : List Jo} {ns : List Ni} {i0 : Nat} (hl : js'.length = js.length) (hi0 : i0 < js.length) (hps : ∀ i, i < ns.length → 0 ≤ (gn ns i).p)
    (hsame : ∀ i, i < js.length → i ≠ i0 → gj js' i = gj js i) (hfit : ∀ s, nightB s = true → fitB (gj js i0) s = true → fitB (gj js' i0) s = true) (hn : ∀ m, m < ns.length → nightB (gn ns m) = true) :
    mostN js ns ≤ mostN js' ns ∧ mostN js' ns ≤ mostN js ns + 1 := by
  constructor
  · obtain ⟨p, hg, hd⟩ := most_good js ns hps
    rw [← hd]
    have := good_mono (C' := chL js' ns) (P' := psL ns) (N' := ns.length) (Nat.le_refl _) (fun i hi m hm h => by
      rw [gr_chL _ _ hi, mem_row] at h
      rw [gr_chL _ _ (by omega), mem_row]
      refine ⟨hm, ?_⟩
      by_cases e : i = i0
      · subst e; exact hfit _ (hn m hm) h.2
      · rw [hsame i hi e]; exact h.2) (fun m _ => Int.le_refl _) (fun m h1 h2 => by omega) hg
    rw [← hl] at this
    exact most_max hps this
  · obtain ⟨q, hg, hd⟩ := most_good js' ns hps
    rw [hl] at hg
    obtain ⟨hg2, hd2⟩ := good_drop (C' := chL js ns) (P' := psL ns) hi0 (fun i hi hne m hm h => by
      rw [gr_chL _ _ (by omega), mem_row, hsame i hi hne] at h
      rw [gr_chL _ _ hi, mem_row]; exact h) (fun m hm => by
      have h1 := (cnt_drop (q := q) (k := i0) (by rw [hg.len]; exact hi0) m).1
      have h2 := hg.cap m hm
      omega) hg
    have := most_max hps hg2
    omega
end Go.Proofs.Ytghlhjiomebmhaa
