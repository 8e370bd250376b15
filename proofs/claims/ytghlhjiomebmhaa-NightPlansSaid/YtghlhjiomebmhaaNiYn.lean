/-
  What Best and Plan of package night return is the least of the right plans with most jobs done: plain mathematics. By an AI agent.
-/
import Derived.Test.YtghlhjiomebmhaaNiYm
namespace Go.Proofs.Ytghlhjiomebmhaa
set_option linter.unusedVariables false
set_option linter.unusedSimpArgs false
open Go.RowKit

theorem gi_rplK (l : List Int) (x y : Int) : ∀ k, k ≤ l.length → ∀ i, gi (rplK l x y k) i = if i < k ∧ gi l i = x then y else gi l i
  | 0, _, i => by rw [if_neg (by omega)]; rfl
  | k + 1, hk, i => by
    have ih := gi_rplK l x y k (by omega) i
    unfold rplK
    by_cases e : gi l k = x
    · rw [if_pos e]
      by_cases e2 : i = k
      · subst e2
        rw [gi_set _ i y i (by rw [rplK_len]; omega), if_pos rfl, if_pos ⟨by omega, e⟩]
      · rw [gi_set_ne _ _ _ _ e2, ih]
        by_cases e3 : i < k ∧ gi l i = x
        · rw [if_pos e3, if_pos ⟨by omega, e3.2⟩]
        · rw [if_neg e3, if_neg (fun h => e3 ⟨by omega, h.2⟩)]
    · rw [if_neg e, ih]
      by_cases e3 : i < k ∧ gi l i = x
      · rw [if_pos e3, if_pos ⟨by omega, e3.2⟩]
      · rw [if_neg e3, if_neg (fun h => e3 ⟨by
          by_cases e4 : i = k
          · subst e4; exact absurd h.2 e
          · omega, h.2⟩)]
/-- The place of an element in the order of plans: none comes last. -/
def ordN (N : Nat) (x : Int) : Int := if x = -1 then (N : Int) else x
theorem dn_cK (p : List Int) : dnN p = p.length - (cK (fun i => gi p i == -1) p.length : Nat) := by unfold dnN; rw [cntN_cK]
section
variable {C : List (List Int)} {P : List Int} {L N : Nat} {M : Int}
theorem gi_up {q : List Int} (hl : q.length = L) {i : Nat} (hi : i < L) : gi (rplK q (-1) N L) i = ordN N (gi q i) := by
  rw [gi_rplK q (-1) N L (by omega) i]
  unfold ordN
  by_cases e : gi q i = -1
  · rw [if_pos e, if_pos ⟨hi, e⟩]
  · rw [if_neg e, if_neg (fun h => e h.2)]
theorem gi_down {q : List Int} (hl : q.length = L) {i : Nat} (hi : i < L) : gi (rplK q N (-1) L) i = if gi q i = N then -1 else gi q i := by
  rw [gi_rplK q N (-1) L (by omega) i]
  by_cases e : gi q i = N
  · rw [if_pos e, if_pos ⟨hi, e⟩]
  · rw [if_neg e, if_neg (fun h => e h.2)]
theorem good_up (hCl : C.length = L) (hPl : P.length = N) {q : List Int} (hg : GoodP C P L N q) (hd : dnN q = M) : GoodP (furL C N) (P ++ [(L : Int) - M]) L (N + 1) (rplK q (-1) N L) ∧ ∀ i, i < L → 0 ≤ gi (rplK q (-1) N L) i := by
  have hl := hg.len
  refine ⟨⟨by rw [rplK_len]; exact hl, fun i hi => ?_, fun m hm => ?_⟩, fun i hi => ?_⟩
  · rw [gi_up hl hi, gr_furL C N (by omega)]
    unfold ordN
    rcases hg.ent i hi with e | ⟨m, e, hm, hmC⟩
    · rw [if_pos e]; exact .inr ⟨N, rfl, by omega, by simp⟩
    · rw [if_neg (by omega)]; exact .inr ⟨m, e, by omega, List.mem_append_left _ hmC⟩
  · rw [cntN_cK, rplK_len, hl, gi_app]
    by_cases e : m < P.length
    · rw [if_pos e]
      have h1 := hg.cap m (by omega)
      rw [cntN_cK, hl] at h1
      rw [cK_congr (g := fun i => gi q i == (m : Int)) L fun i hi => by
        rw [gi_up hl hi, Bool.eq_iff_iff, beq_iff_eq, beq_iff_eq]
        unfold ordN
        split <;> omega]
      exact h1
    · obtain rfl : m = N := by omega
      rw [if_neg e, if_pos hPl.symm]
      rw [dn_cK, hl] at hd
      rw [cK_congr (g := fun i => gi q i == -1) L fun i hi => by
        rw [gi_up hl hi, Bool.eq_iff_iff, beq_iff_eq, beq_iff_eq]
        unfold ordN
        rcases hg.ent i hi with e | ⟨k, e, hk, _⟩
        · rw [if_pos e]; omega
        · rw [if_neg (by omega)]; omega]
      omega
  · rw [gi_up hl hi]
    unfold ordN
    rcases hg.ent i hi with e | ⟨m, e, hm, hmC⟩
    · rw [if_pos e]; omega
    · rw [if_neg (by omega)]; omega
theorem good_down (hCl : C.length = L) (hPl : P.length = N) {q : List Int} (hg : GoodP (furL C N) (P ++ [(L : Int) - M]) L (N + 1) q) (hc : ∀ i, i < L → 0 ≤ gi q i) : GoodP C P L N (rplK q N (-1) L) ∧ M ≤ dnN (rplK q N (-1) L) ∧ ∀ i, i < L → gi q i = ordN N (gi (rplK q N (-1) L) i) := by
  have hl := hg.len
  have hent : ∀ i, i < L → gi q i = N ∨ ∃ m : Nat, gi q i = m ∧ m < N ∧ (m : Int) ∈ gr C i := fun i hi => by
    rcases hg.ent i hi with e | ⟨m, e, hm, hmC⟩
    · have := hc i hi; omega
    · rw [gr_furL C N (by omega)] at hmC
      by_cases e2 : m = N
      · subst e2; exact .inl e
      · refine .inr ⟨m, e, by omega, ?_⟩
        rcases List.mem_append.1 hmC with h | h
        · exact h
        · have := List.mem_singleton.1 h; omega
  refine ⟨⟨by rw [rplK_len]; exact hl, fun i hi => ?_, fun m hm => ?_⟩, ?_, fun i hi => ?_⟩
  · rw [gi_down hl hi]
    rcases hent i hi with e | ⟨m, e, hm, hmC⟩
    · rw [if_pos e]; exact .inl rfl
    · rw [if_neg (by omega)]; exact .inr ⟨m, e, hm, hmC⟩
  · have h1 := hg.cap m (by omega)
    rw [gi_app, if_pos (by omega), cntN_cK, hl] at h1
    rw [cntN_cK, rplK_len, hl, cK_congr (g := fun i => gi q i == (m : Int)) L fun i hi => by
        rw [gi_down hl hi, Bool.eq_iff_iff, beq_iff_eq, beq_iff_eq]
        split <;> omega]
    exact h1
  · have h1 := hg.cap N (by omega)
    rw [gi_app, if_neg (by omega), if_pos (by omega), cntN_cK, hl] at h1
    rw [dn_cK, rplK_len, hl, cK_congr (g := fun i => gi q i == (N : Int)) L fun i hi => by
        rw [gi_down hl hi, Bool.eq_iff_iff, beq_iff_eq, beq_iff_eq]
        rcases hent i hi with e | ⟨m, e, hm, hmC⟩
        · rw [if_pos e]; omega
        · rw [if_neg (by omega)]; omega]
    omega
  · rw [gi_down hl hi]
    unfold ordN
    rcases hent i hi with e | ⟨m, e, hm, hmC⟩
    · rw [if_pos e, if_pos rfl]; exact e
    · rw [if_neg (show ¬ gi q i = N by omega), if_neg (by omega)]
end
theorem psL_len (ns : List Ni) : (psL ns).length = ns.length := by rw [← psK_all]; exact psK_len ns (Nat.le_refl _)
theorem chL_len (js : List Jo) (ns : List Ni) : (chL js ns).length = js.length := by unfold chL; simp
theorem ch_in (js : List Jo) (ns : List Ni) : ∀ i, i < js.length → ∀ j, j < (gr (chL js ns) i).length → ∃ m : Nat, gi (gr (chL js ns) i) j = m ∧ m < ns.length := fun i hi j hj => by
  rw [gr_chL js ns hi] at hj ⊢
  obtain ⟨m, h1, h2, _⟩ := selK_gi _ _ hj
  exact ⟨m, h1, h2⟩
theorem ch_asc (js : List Jo) (ns : List Ni) : ∀ i, i < js.length → (gr (chL js ns) i).Pairwise (· < ·) := fun i hi => by
  rw [gr_chL js ns hi]; exact selK_pair _ _
theorem fur_in (js : List Jo) (ns : List Ni) : ∀ i, i < js.length → ∀ j, j < (gr (furL (chL js ns) ns.length) i).length → ∃ m : Nat, gi (gr (furL (chL js ns) ns.length) i) j = m ∧ m < ns.length + 1 := fun i hi j hj => by
  rw [gr_furL _ _ (by rw [chL_len]; exact hi)] at hj ⊢
  rw [List.length_append] at hj
  rw [gi_app]
  by_cases e : j < (gr (chL js ns) i).length
  · rw [if_pos e]
    obtain ⟨m, h1, h2⟩ := ch_in js ns i hi j e
    exact ⟨m, h1, by omega⟩
  · rw [if_neg e, if_pos (by simp at hj; omega)]
    exact ⟨ns.length, rfl, by omega⟩
theorem fur_asc (js : List Jo) (ns : List Ni) : ∀ i, i < js.length → (gr (furL (chL js ns) ns.length) i).Pairwise (· < ·) := fun i hi => by
  rw [gr_furL _ _ (by rw [chL_len]; exact hi), List.pairwise_append]
  refine ⟨ch_asc js ns i hi, List.pairwise_singleton _ _, fun a ha b hb => ?_⟩
  obtain ⟨j, hj, e⟩ := mem_gi ha
  obtain ⟨m, h1, h2⟩ := ch_in js ns i hi j hj
  have := List.mem_singleton.1 hb
  omega
/-- Is a plan right and does most jobs, and is no other such plan less? -/
structure BestP (js : List Jo) (ns : List Ni) (b : List Int) : Prop where
  good : GoodP (chL js ns) (psL ns) js.length ns.length b
  most : dnN b = mostN js ns
  least : ∀ q, GoodP (chL js ns) (psL ns) js.length ns.length q → dnN q = mostN js ns → ∀ k, k < js.length → (∀ i, i < k → gi q i = gi b i) → ordN ns.length (gi b k) ≤ ordN ns.length (gi q k)
theorem bestL_best (js : List Jo) (ns : List Ni) (hps : ∀ i, i < ns.length → 0 ≤ (gn ns i).p) : BestP js ns (bestL js ns) := by
  have h0 := good_up (chL_len js ns) (psL_len ns) (grtL_good (js := js) (ns := ns) hps) (M := mostN js ns) rfl
  have h1 := lstK_good (fur_in js ns) h0.1 h0.2 js.length (Nat.le_refl _)
  have h2 := good_down (chL_len js ns) (psL_len ns) h1.1 h1.2
  have e : bestL js ns = rplK (lstK (furL (chL js ns) ns.length) (psL ns ++ [(js.length : Int) - mostN js ns]) (ns.length + 1 + 1) js.length (rplK (grtL js ns) (-1) ns.length js.length)) ns.length (-1) js.length := rfl
  rw [← e] at h2
  have hm := most_max hps h2.1
  refine ⟨h2.1, by have := h2.2.1; omega, fun q hq hd k hk hag => ?_⟩
  have h3 := good_up (chL_len js ns) (psL_len ns) hq hd
  have hl := hq.len
  have h4 := lst_least (fur_in js ns) (fur_asc js ns) h0.1 h0.2 h3.1 h3.2 hk (fun i hi => by rw [gi_up hl (by omega), hag i hi, h2.2.2 i (by omega)])
  rw [gi_up hl hk, h2.2.2 k hk] at h4
  exact h4
theorem ordN_inj {N : Nat} {x y : Int} (hx : x = -1 ∨ ∃ m : Nat, x = m ∧ m < N) (hy : y = -1 ∨ ∃ m : Nat, y = m ∧ m < N) (h : ordN N x = ordN N y) : x = y := by
  unfold ordN at h
  rcases hx with rfl | ⟨m, rfl, hm⟩ <;> rcases hy with rfl | ⟨k, rfl, hk⟩
  · rfl
  · rw [if_pos rfl, if_neg (by omega)] at h; omega
  · rw [if_neg (by omega), if_pos rfl] at h; omega
  · rw [if_neg (by omega), if_neg (by omega)] at h; exact h
theorem good_ent {C : List (List Int)} {P : List Int} {L N : Nat} {p : List Int} (hg : GoodP C P L N p) {i : Nat} (hi : i < L) : gi p i = -1 ∨ ∃ m : Nat, gi p i = m ∧ m < N := by
  rcases hg.ent i hi with h | ⟨m, h1, h2, _⟩
  · exact .inl h
  · exact .inr ⟨m, h1, h2⟩
theorem gi_ext {a b : List Int} (hl : a.length = b.length) (h : ∀ i, i < a.length → gi a i = gi b i) : a = b := by
  apply List.ext_getElem hl
  intro i h1 h2
  have := h i h1
  unfold gi at this
  rw [List.getD_eq_getElem?_getD, List.getD_eq_getElem?_getD, List.getElem?_eq_getElem h1, List.getElem?_eq_getElem h2] at this
  exact this
/-- There is one such plan. -/
theorem best_unique {js : List Jo} {ns : List Ni} {a b : List Int} (ha : BestP js ns a) (hb : BestP js ns b) : a = b := by
  refine gi_ext (ha.good.len.trans hb.good.len.symm) fun i hi => ?_
  rw [ha.good.len] at hi
  have key : ∀ k, k ≤ js.length → ∀ i, i < k → gi a i = gi b i := by
    intro k
    induction k with
    | zero => intro _ i hi; omega
    | succ k ih =>
      intro hk i hi
      by_cases e : i = k
      · subst e
        have h1 := ha.least b hb.good hb.most i (by omega) (fun j hj => (ih (by omega) j hj).symm)
        have h2 := hb.least a ha.good ha.most i (by omega) (fun j hj => ih (by omega) j hj)
        exact ordN_inj (good_ent ha.good (by omega)) (good_ent hb.good (by omega)) (by omega)
      · exact ih (by omega) i (by omega)
  exact key js.length (Nat.le_refl _) i hi
theorem dn_all {C : List (List Int)} {P : List Int} {L N : Nat} {p : List Int} (hg : GoodP C P L N p) : dnN p = L ↔ ∀ i, i < L → 0 ≤ gi p i := by
  rw [dn_cK, hg.len]
  constructor
  · intro h i hi
    rcases good_ent hg hi with e | ⟨m, e, _⟩
    · have := cK_lt (f := fun _ => false) (g := fun i => gi p i == -1) (j := i) rfl (by rw [e]; rfl) L hi (fun _ _ h => by cases h)
      omega
    · omega
  · intro h
    have : cK (fun i => gi p i == -1) L = cK (fun _ => false) L := cK_congr L fun i hi => beq_false_of_ne (by have := h i hi; omega)
    have h0 : ∀ n, cK (fun _ => false) n = 0 := fun n => by
      induction n with
      | zero => rfl
      | succ n ih => unfold cK; rw [ih]; rfl
    rw [this, h0]; simp
/-- Where all jobs can be done, Plan's plan is Best's. -/
theorem plan_best (js : List Jo) (ns : List Ni) (hps : ∀ i, i < ns.length → 0 ≤ (gn ns i).p) (hm : mostN js ns = js.length) : planL js ns = bestL js ns := by
  have hg := grtL_good (js := js) (ns := ns) hps
  have hc := (dn_all hg).1 hm
  have h1 := lstK_good (ch_in js ns) hg hc js.length (Nat.le_refl _)
  refine best_unique ⟨h1.1, by rw [hm]; exact (dn_all h1.1).2 h1.2, fun q hq hd k hk hag => ?_⟩ (bestL_best js ns hps)
  have hqc := (dn_all hq).1 (hd.trans hm)
  have h2 := lst_least (ch_in js ns) (ch_asc js ns) hg hc hq hqc hk hag
  have h3 := hqc k hk
  have h4 : 0 ≤ gi (planL js ns) k := h1.2 k hk
  unfold ordN
  rw [if_neg (by omega), if_neg (by omega)]
  exact h2
/-- A job of the best plan has none of the nights ahead of its own, with a free place. -/
theorem best_no {js : List Jo} {ns : List Ni} (hps : ∀ i, i < ns.length → 0 ≤ (gn ns i).p) {i k : Nat} (hi : i < js.length) (hk : (k : Int) < ordN ns.length (gi (bestL js ns) i)) : ¬ GoodP (chL js ns) (psL ns) js.length ns.length ((bestL js ns).set i k) := by
  intro hg
  have hB := bestL_best js ns hps
  have hl := hB.good.len
  have hil : i < (bestL js ns).length := by omega
  have hs : ∀ j, gi ((bestL js ns).set i (k : Int)) j = if j = i then (k : Int) else gi (bestL js ns) j := fun j => gi_set _ i k j hil
  have hd : dnN (bestL js ns) ≤ dnN ((bestL js ns).set i (k : Int)) := by
    rw [dn_cK, dn_cK, List.length_set]
    have := cK_le (f := fun j => gi ((bestL js ns).set i (k : Int)) j == -1) (g := fun j => gi (bestL js ns) j == -1) (bestL js ns).length fun j hj h => by
      simp only [hs] at h
      by_cases e : j = i
      · rw [if_pos e] at h; have : (k : Int) = -1 := beq_iff_eq.1 h
        omega
      · rw [if_neg e] at h; exact h
    omega
  have hm := most_max hps hg
  have h1 := hB.least _ hg (by have := hB.most; omega) i hi (fun j hj => by rw [hs, if_neg (by omega)])
  rw [hs, if_pos rfl] at h1
  have : ordN ns.length (k : Int) = k := by unfold ordN; rw [if_neg (by omega)]
  omega
end Go.Proofs.Ytghlhjiomebmhaa
