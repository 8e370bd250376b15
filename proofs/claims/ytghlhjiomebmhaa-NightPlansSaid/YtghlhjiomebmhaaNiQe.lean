/-
  No right plan does more jobs than the search of package night finds: plain mathematics. By an AI agent.
-/
import Derived.Test.YtghlhjiomebmhaaNiQd
namespace Go.Proofs.Ytghlhjiomebmhaa
set_option linter.unusedVariables false
set_option linter.unusedSimpArgs false
open Go.RowKit

theorem cK_add {f g : Nat → Bool} : ∀ n, (∀ i, i < n → f i = true → g i = false) → cK (fun i => f i || g i) n = cK f n + cK g n
  | 0, _ => rfl
  | k + 1, h => by
    have ih := cK_add (f := f) (g := g) k (fun i hi => h i (by omega))
    have h1 := h k (by omega)
    unfold cK
    rw [ih]
    cases e : f k <;> cases e2 : g k <;> simp_all <;> omega
/-- The nights that were tried for some job that is left. -/
def allT (C : List (List Int)) (P : List Int) (L N : Nat) (p : List Int) : Int → Bool := fun x => anyK (fun u => (gi p u == -1) && (plF C P 0 (N + 1) u p noT).2.2 x) L
theorem anyK_ex {f : Nat → Bool} : ∀ n, anyK f n = true → ∃ u, u < n ∧ f u = true
  | 0, h => by cases h
  | k + 1, h => by
    unfold anyK at h
    rw [Bool.or_eq_true] at h
    rcases h with h | h
    · obtain ⟨u, h1, h2⟩ := anyK_ex k h; exact ⟨u, by omega, h2⟩
    · exact ⟨k, by omega, h⟩
/-- All jobs that are left, and those that have one of these nights, have no other choices. -/
theorem allT_closed {C : List (List Int)} {P : List Int} {L N : Nat} (hE : ∀ i, i < L → ∀ j, j < (gr C i).length → ∃ m : Nat, gi (gr C i) j = m ∧ m < N) {p : List Int} (hg : GoodP C P L N p) (hf : ∀ u, u < L → gi p u = -1 → (plF C P 0 (N + 1) u p noT).1 = false) :
    Closed C P L N (allT C P L N p) p ∧ ∀ u, u < L → gi p u = -1 → ∀ x, x ∈ gr C u → allT C P L N p x = true := by
  have hex : ∀ x, allT C P L N p x = true → ∃ u, u < L ∧ gi p u = -1 ∧ (plF C P 0 (N + 1) u p noT).2.2 x = true := fun x h => by
    obtain ⟨u, h1, h2⟩ := anyK_ex L h
    rw [Bool.and_eq_true] at h2
    exact ⟨u, h1, by simpa using h2.1, h2.2⟩
  have hin : ∀ u x, u < L → gi p u = -1 → (plF C P 0 (N + 1) u p noT).2.2 x = true → allT C P L N p x = true := fun u x h1 h2 h3 => anyK_true (j := u) (by rw [h2, h3]; rfl) _ h1
  have hc := fun u hu hn => closed_of hE (k := u) hu hg (hf u hu hn)
  refine ⟨⟨?_, fun m hm hT => ?_, fun k hk hT x hx => ?_⟩, fun u hu hn x hx => hin u x hu hn ((hc u hu hn).2 x hx)⟩
  · cases e : allT C P L N p (-1) with
    | false => rfl
    | true =>
      obtain ⟨u, h1, h2, h3⟩ := hex _ e
      rw [(hc u h1 h2).1.neg] at h3; cases h3
  · obtain ⟨u, h1, h2, h3⟩ := hex _ hT
    exact (hc u h1 h2).1.full m hm h3
  · obtain ⟨u, h1, h2, h3⟩ := hex _ hT
    exact hin u x h1 h2 ((hc u h1 h2).1.clo k hk h3 x hx)
/-- A plan all of whose jobs that are left, with what holds them up, are closed in, does as many jobs as any. -/
theorem done_max {C : List (List Int)} {P : List Int} {L N : Nat} {p q : List Int} {T : Int → Bool} (hp : GoodP C P L N p) (hq : GoodP C P L N q) (hc : Closed C P L N T p) (hu : ∀ u, u < L → gi p u = -1 → ∀ x, x ∈ gr C u → T x = true) : dnN q ≤ dnN p := by
  have e1 : dnN q = L - (cK (fun i => gi q i == -1) L : Nat) := by unfold dnN; rw [cntN_cK, hq.len]
  have e2 : dnN p = L - (cK (fun i => gi p i == -1) L : Nat) := by unfold dnN; rw [cntN_cK, hp.len]
  have h1 := cK_not (fun i => gi q i == -1) L
  -- the jobs that are left or lie in these nights
  have h2 := cK_add (f := fun i => gi p i == -1) (g := fun i => T (gi p i)) L (fun i _ h => by
    have : gi p i = -1 := by simpa using h
    rw [this]; exact hc.neg)
  have h3 := cK_not (fun i => (gi p i == -1) || T (gi p i)) L
  have h4 : cK (fun i => !(gi q i == -1)) L ≤ cK (fun i => !((gi p i == -1) || T (gi p i)) || (((gi p i == -1) || T (gi p i)) && !(gi q i == -1))) L := cK_le _ fun i _ h => by
    cases ((gi p i == -1) || T (gi p i)) <;> simp_all
  have h5 := cK_or (fun i => !((gi p i == -1) || T (gi p i))) (fun i => ((gi p i == -1) || T (gi p i)) && !(gi q i == -1)) L
  have h6 : cK (fun i => ((gi p i == -1) || T (gi p i)) && !(gi q i == -1)) L ≤ sumW (fun m => T (m : Int)) (fun m => cK (fun i => gi q i == (m : Int)) L) N := cK_sum (p := fun i => gi q i) L fun i hi h => by
    rw [Bool.and_eq_true, Bool.or_eq_true] at h
    rcases hq.ent i hi with e | ⟨m, e, hm, hmC⟩
    · rw [e] at h; simp at h
    · refine ⟨m, e, hm, ?_⟩
      rcases h.1 with hA | hA
      · exact hu i hi (by simpa using hA) _ hmC
      · exact hc.clo i hi hA _ hmC
  have h7 : sumW (fun m => T (m : Int)) (fun m => cK (fun i => gi q i == (m : Int)) L) N ≤ sumW (fun m => T (m : Int)) (fun m => cK (fun i => gi p i == (m : Int)) L) N := sumW_imp _ fun m hm hT => ⟨hT, by
    have c1 := hq.cap m hm
    have c2 := hc.full m hm hT
    rw [cntN_cK, hq.len] at c1
    rw [cntN_cK, hp.len] at c2
    omega⟩
  have h8 := sumW_cK T (fun i => gi p i) N L
  omega
/-- Most is the greatest number of jobs that a right plan does. -/
theorem most_max {js : List Jo} {ns : List Ni} (hps : ∀ i, i < ns.length → 0 ≤ (gn ns i).p) {q : List Int} (hq : GoodP (chL js ns) (psL ns) js.length ns.length q) : dnN q ≤ mostN js ns := by
  have hE : ∀ i, i < js.length → ∀ j, j < (gr (chL js ns) i).length → ∃ m : Nat, gi (gr (chL js ns) i) j = m ∧ m < ns.length := fun i hi j hj => by
    rw [gr_chL js ns hi] at hj ⊢
    obtain ⟨m, h1, h2, _⟩ := selK_gi _ _ hj
    exact ⟨m, h1, h2⟩
  have hg := grtL_good (js := js) (ns := ns) hps
  have hf : ∀ u, u < js.length → gi (grtL js ns) u = -1 → (plF (chL js ns) (psL ns) 0 (ns.length + 1) u (grtL js ns) noT).1 = false := fun u hu hn => grt_final hE (good_none (fun m hm => by rw [gi_psL ns hm]; exact hps m hm)) hu hn
  obtain ⟨h1, h2⟩ := allT_closed hE hg hf
  exact done_max hg hq h1 h2
end Go.Proofs.Ytghlhjiomebmhaa
