/-
  No right plan does more jobs than a list of jobs and the places of their nights let: plain mathematics. By an AI agent.
-/
import Derived.Test.YtghlhjiomebmhaaNiQ
import Derived.Test.YtghlhjiomebmhaaNiRd
namespace Go.Proofs.Ytghlhjiomebmhaa
set_option linter.unusedVariables false
set_option linter.unusedSimpArgs false
open Go.RowKit

theorem cK_congr {f g : Nat → Bool} : ∀ n, (∀ i, i < n → f i = g i) → cK f n = cK g n
  | 0, _ => rfl
  | k + 1, h => by unfold cK; rw [cK_congr k (fun i hi => h i (by omega)), h k (by omega)]
theorem cK_or (f g : Nat → Bool) : ∀ n, cK (fun i => f i || g i) n ≤ cK f n + cK g n
  | 0 => by simp [cK]
  | k + 1 => by
    have := cK_or f g k
    unfold cK
    cases e : f k <;> cases e2 : g k <;> simp <;> omega
theorem cK_not (f : Nat → Bool) : ∀ n, cK f n + cK (fun i => !(f i)) n = n
  | 0 => by simp [cK]
  | k + 1 => by
    have := cK_not f k
    unfold cK
    cases e : f k <;> simp <;> omega
/-- The numbers of the nights that are such, summed up. -/
def sumW (one : Nat → Bool) (v : Nat → Nat) : Nat → Nat
  | 0 => 0
  | k + 1 => sumW one v k + (if one k = true then v k else 0)
theorem sumW_le {one : Nat → Bool} {v u : Nat → Nat} : ∀ n, (∀ k, k < n → v k ≤ u k) → sumW one v n ≤ sumW one u n
  | 0, _ => Nat.le_refl _
  | k + 1, h => by
    have h1 := sumW_le (one := one) k (fun i hi => h i (by omega))
    have h2 := h k (by omega)
    unfold sumW; split <;> omega
theorem sumW_add {one : Nat → Bool} {v u : Nat → Nat} {m : Nat} (hm : one m = true) : ∀ n, m < n → (∀ k, k < n → v k ≤ u k) → v m + 1 ≤ u m → sumW one v n + 1 ≤ sumW one u n
  | 0, h, _, _ => by omega
  | k + 1, h, hv, hu => by
    unfold sumW
    by_cases e : m = k
    · subst e
      have h1 := sumW_le (one := one) m (fun i hi => hv i (by omega))
      rw [if_pos hm, if_pos hm]; omega
    · have h1 := sumW_add hm k (by omega) (fun i hi => hv i (by omega)) hu
      have h2 := hv k (by omega)
      split <;> omega
theorem cK_sum {g : Nat → Bool} {p : Nat → Int} {one : Nat → Bool} {N : Nat} : ∀ L, (∀ i, i < L → g i = true → ∃ m : Nat, p i = m ∧ m < N ∧ one m = true) → cK g L ≤ sumW one (fun m => cK (fun i => p i == (m : Int)) L) N
  | 0, _ => Nat.zero_le _
  | L + 1, h => by
    have ih := cK_sum L (fun i hi => h i (by omega))
    have hle : ∀ k, k < N → cK (fun i => p i == (k : Int)) L ≤ cK (fun i => p i == (k : Int)) (L + 1) := fun k _ => by
      show _ ≤ _ + _
      omega
    show cK g L + (if g L = true then 1 else 0) ≤ _
    by_cases e : g L = true
    · rw [if_pos e]
      obtain ⟨m, h1, h2, h3⟩ := h L (by omega) e
      have := sumW_add (v := fun m => cK (fun i => p i == (m : Int)) L) (u := fun m => cK (fun i => p i == (m : Int)) (L + 1)) h3 N h2 hle (by
        show _ + 1 ≤ _ + (if (p L == (m : Int)) = true then 1 else 0)
        rw [h1, if_pos (by simp)]
        exact Nat.le_refl _)
      omega
    · rw [if_neg e]
      have := sumW_le (one := one) N hle
      omega
theorem indB_get {L : Nat} {l : List Int} (h : indB L l = true) {k : Nat} (hk : k < l.length) : prvI l k < gi l k ∧ gi l k < L := by
  unfold indB at h
  rw [Bool.not_eq_true', anyK_iff] at h
  have h1 := h k hk
  unfold badI at h1
  rw [Bool.or_eq_false_iff, decide_eq_false_iff_not, decide_eq_false_iff_not] at h1
  omega
theorem indB_lo {L : Nat} {l : List Int} (h : indB L l = true) : ∀ k, k < l.length → 0 ≤ gi l k
  | 0, hk => by
    have := (indB_get h hk).1
    simp [prvI] at this
    omega
  | k + 1, hk => by
    have h1 := indB_lo h k (by omega)
    have h2 := (indB_get h hk).1
    simp only [prvI] at h2
    omega
theorem indB_nat {L : Nat} {l : List Int} (h : indB L l = true) {k : Nat} (hk : k < l.length) : ∃ m : Nat, gi l k = m ∧ m < L := by
  have h1 := indB_lo h k hk
  have h2 := (indB_get h hk).2
  exact ⟨(gi l k).toNat, by omega, by omega⟩
theorem indB_mono {L : Nat} {l : List Int} (h : indB L l = true) : ∀ k j, j < k → k < l.length → gi l j < gi l k
  | 0, j, hj, _ => by omega
  | k + 1, j, hj, hk => by
    have h1 := (indB_get h hk).1
    simp only [prvI] at h1
    by_cases e : j = k
    · subst e; exact h1
    · have := indB_mono h k j (by omega) (by omega)
      omega
/-- Is a job in the first q of a list? -/
def inL (l : List Int) (q i : Nat) : Bool := anyK (fun j => gi l j == (i : Int)) q
theorem cK_inL {L : Nat} {l : List Int} (h : indB L l = true) : ∀ q, q ≤ l.length → cK (inL l q) L = q
  | 0, _ => cK_zero _ (fun i _ => rfl)
  | q + 1, hq => by
    have ih := cK_inL h q (by omega)
    obtain ⟨m, hm, hmL⟩ := indB_nat h (show q < l.length by omega)
    have hnot : inL l q m = false := anyK_false _ fun j hj => beq_false_of_ne (by have := indB_mono h q j hj (by omega); omega)
    have hf : ∀ i, inL l (q + 1) i = (inL l q i || (m == i)) := fun i => by
      show (anyK _ q || (gi l q == (i : Int))) = _
      rw [hm]
      congr 1
      rw [Bool.eq_iff_iff]; simp only [beq_iff_eq]; omega
    have key : ∀ n, cK (inL l (q + 1)) n = cK (inL l q) n + (if m < n then 1 else 0) := fun n => by
      induction n with
      | zero => simp [cK]
      | succ n ihn =>
        unfold cK
        rw [ihn, hf n]
        by_cases e : m = n
        · subst e
          rw [hnot]; simp
        · have e2 : (m == n) = false := beq_false_of_ne e
          rw [e2, Bool.or_false]
          have e4 : (if m < n + 1 then 1 else 0 : Nat) = if m < n then 1 else 0 := by
            split <;> split <;> omega
          rw [e4]
          omega
    rw [key L, ih, if_pos hmL]
theorem pS_sum {js : List Jo} {ns : List Ni} {l : List Int} (hp : ∀ i, i < ns.length → 0 ≤ (gn ns i).p) : ∀ k, k ≤ ns.length → pS js ns l k = (sumW (fun m => oneB js l (gn ns m) l.length) (fun m => (gn ns m).p.toNat) k : Nat)
  | 0, _ => rfl
  | k + 1, hk => by
    have ih := pS_sum (js := js) (l := l) hp k (by omega)
    have h1 := hp k (by omega)
    unfold pS sumW
    rw [ih]
    split
    · omega
    · omega
/-- A right plan does no more jobs than any list of jobs and the places of their nights let. -/
theorem done_le {js : List Jo} {ns : List Ni} {pl l : List Int} (hg : GoodP (chL js ns) (psL ns) js.length ns.length pl) (hp : ∀ i, i < ns.length → 0 ≤ (gn ns i).p) (hi : indB js.length l = true) :
    dnN pl ≤ js.length - l.length + pS js ns l ns.length := by
  rw [pS_sum hp ns.length (Nat.le_refl _)]
  have h1 : dnN pl = js.length - (cK (fun i => gi pl i == -1) js.length : Nat) := by unfold dnN; rw [cntN_cK, hg.len]
  have h2 := cK_not (fun i => gi pl i == -1) js.length
  have h3 := cK_inL hi l.length (Nat.le_refl _)
  have h4 := cK_not (inL l l.length) js.length
  have h5 : cK (fun i => !(gi pl i == -1)) js.length ≤ cK (fun i => !(inL l l.length i) || (inL l l.length i && !(gi pl i == -1))) js.length := cK_le _ fun i _ h => by
    cases inL l l.length i <;> simp_all
  have h6 := cK_or (fun i => !(inL l l.length i)) (fun i => inL l l.length i && !(gi pl i == -1)) js.length
  have h7 : cK (fun i => inL l l.length i && !(gi pl i == -1)) js.length ≤ sumW (fun m => oneB js l (gn ns m) l.length) (fun m => cK (fun i => gi pl i == (m : Int)) js.length) ns.length := cK_sum (p := fun i => gi pl i) js.length fun i hiL h => by
    rw [Bool.and_eq_true] at h
    rcases hg.ent i hiL with e | ⟨m, e1, e2, e3⟩
    · rw [e] at h; simp at h
    · refine ⟨m, e1, e2, ?_⟩
      rw [gr_chL js ns hiL] at e3
      obtain ⟨m', q1, q2, q3⟩ := selK_mem _ _ _ e3
      obtain rfl : m = m' := by omega
      have hin := h.1
      unfold inL at hin
      cases ho : oneB js l (gn ns m) l.length with
      | true => rfl
      | false =>
        unfold oneB at ho
        rw [anyK_iff] at ho
        have hno : anyK (fun j => gi l j == (i : Int)) l.length = false := anyK_false _ fun j hj => beq_false_of_ne fun e => by
          have := ho j hj
          rw [e, Int.toNat_natCast] at this
          rw [q3] at this; cases this
        rw [hno] at hin; cases hin
  have h8 : sumW (fun m => oneB js l (gn ns m) l.length) (fun m => cK (fun i => gi pl i == (m : Int)) js.length) ns.length ≤ sumW (fun m => oneB js l (gn ns m) l.length) (fun m => (gn ns m).p.toNat) ns.length := sumW_le _ fun m hm => by
    have := hg.cap m hm
    rw [cntN_cK, hg.len, gi_psL ns hm] at this
    omega
  rw [h1]
  omega
/-- What the search finds is right. -/
theorem grtL_good {js : List Jo} {ns : List Ni} (hp : ∀ i, i < ns.length → 0 ≤ (gn ns i).p) : GoodP (chL js ns) (psL ns) js.length ns.length (grtL js ns) := by
  unfold grtL
  exact grtK_good (fun i hi j hj => by
    rw [gr_chL js ns hi] at hj ⊢
    obtain ⟨m, h1, h2, _⟩ := selK_gi _ _ hj
    exact ⟨m, h1, h2⟩) _ (good_none (fun m hm => by rw [gi_psL ns hm]; exact hp m hm)) _ (Nat.le_refl _)
end Go.Proofs.Ytghlhjiomebmhaa
