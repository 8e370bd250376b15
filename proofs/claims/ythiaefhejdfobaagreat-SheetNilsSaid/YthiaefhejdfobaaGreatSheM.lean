/-
  Plain mathematics of the least offset without a fault (package sheet). By an AI agent.
-/
import Derived.Test.YthiaefhejdfobaaGreatLightN
namespace Go.Proofs.YthiaefhejdfobaaGreat
set_option linter.unusedVariables false
set_option linter.unusedSimpArgs false

/-- No span of the list has a place from p to less than p + need. -/
def freeP (need : Int) (l : List (Int × Int)) (p : Int) : Prop := ∀ f ∈ l, ¬ (f.1 < f.2 ∧ p < f.2 ∧ f.1 < p + need)
/-- The least free offset. -/
def LeastF (need : Int) (l : List (Int × Int)) (p : Int) : Prop := 0 ≤ p ∧ freeP need l p ∧ ∀ q, 0 ≤ q → q < p → ¬ freeP need l q
theorem least_unique {need : Int} {l : List (Int × Int)} {p q : Int} (h1 : LeastF need l p) (h2 : LeastF need l q) : p = q := by
  rcases Int.lt_trichotomy p q with h | h | h
  · exact absurd h1.2.1 (h2.2.2 p h1.1 h)
  · exact h
  · exact absurd h2.2.1 (h1.2.2 q h2.1 h)
theorem freeP_perm {need p : Int} {l d : List (Int × Int)} (h : d.Perm l) : freeP need d p ↔ freeP need l p :=
  ⟨fun g f hf => g f (h.mem_iff.2 hf), fun g f hf => g f (h.mem_iff.1 hf)⟩
theorem least_perm {need p : Int} {l d : List (Int × Int)} (h : d.Perm l) (g : LeastF need d p) : LeastF need l p :=
  ⟨g.1, (freeP_perm h).1 g.2.1, fun q a b c => g.2.2 q a b ((freeP_perm h).2 c)⟩
/-- The scan over sorted spans. -/
def scanK (need : Int) : List (Int × Int) → Int → Int
  | [], p => p
  | f :: l, p => if p ≤ f.1 ∧ need ≤ f.1 - p then p else scanK need l (if f.1 < f.2 then max p f.2 else p)
theorem scan_least (need : Int) (hn : 1 ≤ need) : ∀ (done l : List (Int × Int)) (p : Int), l.Pairwise (fun f g => f.1 ≤ g.1) → 0 ≤ p →
    (∀ q, 0 ≤ q → q < p → ¬ freeP need (done ++ l) q) → (∀ f ∈ done, f.1 < f.2 → f.2 ≤ p) → LeastF need (done ++ l) (scanK need l p)
  | done, [], p, _, h0, h1, h2 => by
    refine ⟨h0, ?_, h1⟩
    intro f hf ⟨a, b, c⟩
    have := h2 f (by simpa using hf) a
    simp only [scanK] at *
    omega
  | done, f :: l, p, hs, h0, h1, h2 => by
    rw [List.pairwise_cons] at hs
    unfold scanK
    by_cases hb : p ≤ f.1 ∧ need ≤ f.1 - p
    · rw [if_pos hb]
      refine ⟨h0, ?_, h1⟩
      intro g hg ⟨a, b, c⟩
      rcases List.mem_append.1 hg with hg | hg
      · have := h2 g hg a; omega
      · rcases List.mem_cons.1 hg with rfl | hg
        · omega
        · have := hs.1 g hg; omega
    · rw [if_neg hb]
      have e : done ++ f :: l = (done ++ [f]) ++ l := by simp
      rw [e] at h1 ⊢
      refine scan_least need hn (done ++ [f]) l _ hs.2 (by split <;> omega) ?_ ?_
      · intro q hq0 hq
        by_cases hv : f.1 < f.2
        · rw [if_pos hv] at hq
          by_cases hqp : q < p
          · exact h1 q hq0 hqp
          · intro hfr
            exact hfr f (by simp) ⟨hv, by omega, by omega⟩
        · rw [if_neg hv] at hq
          exact h1 q hq0 hq
      · intro g hg hv
        rcases List.mem_append.1 hg with hg | hg
        · have := h2 g hg hv; split <;> omega
        · have e : g = f := by simpa using hg
          subst e
          rw [if_pos hv]; omega
/-- The reference's test. -/
def hitF (need p : Int) (f : Int × Int) : Bool := decide (f.1 < f.2) && (decide (p < f.2) && (decide (f.1 < 0) || decide (f.1 - p < need)))
def freeB (need : Int) (l : List (Int × Int)) (p : Int) : Bool := l.all fun f => !(hitF need p f)
theorem freeB_iff {need p : Int} (hp : 0 ≤ p) (hn : 1 ≤ need) {l : List (Int × Int)} : freeB need l p = true ↔ freeP need l p := by
  unfold freeB freeP hitF
  rw [List.all_eq_true]
  constructor
  · intro h f hf ⟨a, b, c⟩
    have := h f hf
    simp [a, b] at this
    omega
  · intro h f hf
    have := h f hf
    simp
    omega
def bestK (L need : Int) (all : List (Int × Int)) : List (Int × Int) → Int × Bool → Int × Bool
  | [], s => s
  | f :: l, s => bestK L need all l (if 0 < f.2 ∧ f.2 ≤ L - need ∧ freeB need all f.2 = true ∧ (s.2 = false ∨ f.2 < s.1) then (f.2, true) else s)
/-- What Clear answers. -/
def clearV (L need : Int) (l : List (Int × Int)) : Int × Bool := if need < 1 ∨ L < need then (0, false) else bestK L need l l (0, freeB need l 0)
theorem least_end {need : Int} {l : List (Int × Int)} {m : Int} (h : LeastF need l m) : m = 0 ∨ ∃ f ∈ l, f.2 = m := by
  by_cases h0 : m = 0
  · exact .inl h0
  · right
    have hn := h.2.2 (m - 1) (by have := h.1; omega) (by omega)
    unfold freeP at hn
    rw [Classical.not_forall] at hn
    obtain ⟨f, hf⟩ := hn
    rw [Classical.not_imp, Classical.not_not] at hf
    obtain ⟨hf, a, b, c⟩ := hf
    have := h.2.1 f hf
    exact ⟨f, hf, by omega⟩
/-- What holds of the best end so far. -/
def BestInv (L need : Int) (all done : List (Int × Int)) (s : Int × Bool) : Prop :=
  (s.2 = true → 0 ≤ s.1 ∧ s.1 ≤ L - need ∧ freeP need all s.1 ∧ (freeP need all 0 → s.1 = 0) ∧ ∀ f ∈ done, 0 < f.2 → f.2 ≤ L - need → freeP need all f.2 → s.1 ≤ f.2) ∧
  (s.2 = false → s.1 = 0 ∧ ¬ freeP need all 0 ∧ ∀ f ∈ done, 0 < f.2 → f.2 ≤ L - need → ¬ freeP need all f.2)
theorem best_inv (L need : Int) (hn : 1 ≤ need) (all : List (Int × Int)) : ∀ (l done : List (Int × Int)) (s : Int × Bool), BestInv L need all done s → BestInv L need all (done ++ l) (bestK L need all l s)
  | [], done, s, h => by simpa [bestK] using h
  | f :: l, done, s, h => by
    have e : done ++ f :: l = (done ++ [f]) ++ l := by simp
    rw [e]
    unfold bestK
    refine best_inv L need hn all l (done ++ [f]) _ ?_
    obtain ⟨b, ok⟩ := s
    obtain ⟨h1, h2⟩ := h
    simp only at h1 h2 ⊢
    by_cases hc : 0 < f.2 ∧ f.2 ≤ L - need ∧ freeB need all f.2 = true ∧ (ok = false ∨ f.2 < b)
    · rw [if_pos hc]
      obtain ⟨c1, c2, c3, c4⟩ := hc
      rw [freeB_iff (by omega) hn] at c3
      refine ⟨fun _ => ⟨by simp only; omega, by simpa using c2, by simpa using c3, ?_, ?_⟩, fun h => by cases h⟩
      · intro h0
        rcases c4 with c4 | c4
        · exact absurd h0 (h2 c4).2.1
        · cases ok with
          | false => exact absurd h0 (h2 rfl).2.1
          | true => have := (h1 rfl).2.2.2.1 h0; simp only; omega
      · intro g hg g1 g2 g3
        simp only
        rcases List.mem_append.1 hg with hg | hg
        · cases ok with
          | false => exact absurd g3 ((h2 rfl).2.2 g hg g1 g2)
          | true =>
            have := (h1 rfl).2.2.2.2 g hg g1 g2 g3
            rcases c4 with c4 | c4
            · cases c4
            · omega
        · have e : g = f := by simpa using hg
          subst e; omega
    · rw [if_neg hc]
      constructor
      · intro ho
        obtain ⟨a1, a2, a3, a4, a5⟩ := h1 ho
        refine ⟨a1, a2, a3, a4, ?_⟩
        intro g hg g1 g2 g3
        rcases List.mem_append.1 hg with hg | hg
        · exact a5 g hg g1 g2 g3
        · have e : g = f := by simpa using hg
          subst e
          have g4 := (freeB_iff (Int.le_of_lt g1) hn).2 g3
          simp only
          apply Int.not_lt.1
          intro hlt
          exact hc ⟨g1, g2, g4, .inr hlt⟩
      · intro ho
        obtain ⟨a1, a2, a3⟩ := h2 ho
        refine ⟨a1, a2, ?_⟩
        intro g hg g1 g2 g3
        rcases List.mem_append.1 hg with hg | hg
        · exact a3 g hg g1 g2 g3
        · have e : g = f := by simpa using hg
          subst e
          have g4 := (freeB_iff (Int.le_of_lt g1) hn).2 g3
          exact hc ⟨g1, g2, g4, .inl ho⟩
theorem clear_of_least {L need m : Int} {l : List (Int × Int)} (hn : 1 ≤ need) (h : LeastF need l m) : clearV L need l = if L - m < need then (0, false) else (m, true) := by
  unfold clearV
  by_cases hL : L < need
  · rw [if_pos (.inr hL), if_pos (by have := h.1; omega)]
  · rw [if_neg (by omega)]
    have inv := best_inv L need hn l l [] (0, freeB need l 0) (by
      constructor
      · intro h0
        have := (freeB_iff (Int.le_refl 0) hn).1 h0
        exact ⟨Int.le_refl 0, by simp only; omega, this, fun _ => rfl, fun f hf => by cases hf⟩
      · intro h0
        refine ⟨rfl, fun g => ?_, fun f hf => by cases hf⟩
        rw [← freeB_iff (Int.le_refl 0) hn] at g
        simp only at h0
        rw [h0] at g; cases g)
    rw [List.nil_append] at inv
    generalize bestK L need l l (0, freeB need l 0) = s at inv
    obtain ⟨b, ok⟩ := s
    obtain ⟨h1, h2⟩ := inv
    simp only at h1 h2
    cases ok with
    | true =>
      obtain ⟨a1, a2, a3, a4, a5⟩ := h1 rfl
      have hle : m ≤ b := by
        apply Int.not_lt.1
        intro hlt
        exact h.2.2 b a1 hlt a3
      have hge : b ≤ m := by
        rcases least_end h with e | ⟨f, hf, e⟩
        · have := a4 (by rw [← e]; exact h.2.1); omega
        · by_cases h0 : m = 0
          · have := a4 (by rw [← h0]; exact h.2.1); omega
          · have := h.1
            have := a5 f hf (by omega) (by omega) (by rw [e]; exact h.2.1); omega
      have e : b = m := by omega
      rw [if_neg (by omega), e]
    | false =>
      obtain ⟨a1, a2, a3⟩ := h2 rfl
      rw [a1, if_pos]
      apply Int.not_le.1
      intro hle
      rcases least_end h with e | ⟨f, hf, e⟩
      · exact a2 (by rw [← e]; exact h.2.1)
      · by_cases h0 : m = 0
        · exact a2 (by rw [← h0]; exact h.2.1)
        · have := h.1
          exact a3 f hf (by omega) (by omega) (by rw [e]; exact h.2.1)
theorem free_some (need : Int) : ∀ l : List (Int × Int), ∃ B : Nat, ∀ f ∈ l, f.2 ≤ B
  | [] => ⟨0, fun f hf => by cases hf⟩
  | f :: l => by
    obtain ⟨B, hB⟩ := free_some need l
    refine ⟨max B f.2.toNat, fun g hg => ?_⟩
    rcases List.mem_cons.1 hg with rfl | hg
    · omega
    · have := hB g hg; omega
theorem least_nat (P : Nat → Prop) : ∀ n, P n → ∃ m, P m ∧ ∀ k, k < m → ¬ P k := by
  intro n
  induction n using Nat.strongRecOn with
  | _ n ih =>
    intro hn
    by_cases h : ∃ k, k < n ∧ P k
    · obtain ⟨k, hk, hp⟩ := h
      exact ih k hk hp
    · exact ⟨n, hn, fun k hk hp => h ⟨k, hk, hp⟩⟩
theorem least_some (need : Int) (l : List (Int × Int)) : ∃ m, LeastF need l m := by
  obtain ⟨B, hB⟩ := free_some need l
  obtain ⟨m, h1, h2⟩ := least_nat (fun n => freeP need l (n : Int)) B (fun f hf ⟨a, b, c⟩ => by have := hB f hf; omega)
  refine ⟨m, by omega, h1, fun q hq0 hq hf => h2 q.toNat (by omega) ?_⟩
  rw [Int.toNat_of_nonneg hq0]
  exact hf
/-- Whether a place lies in a span. -/
def hitL (l : List (Int × Int)) (x : Int) : Bool := l.any fun f => decide (f.1 ≤ x) && decide (x < f.2)
theorem hitL_iff {l : List (Int × Int)} {x : Int} : hitL l x = true ↔ ∃ f ∈ l, f.1 ≤ x ∧ x < f.2 := by
  unfold hitL; simp
theorem free_hit {need q : Int} (hn : 1 ≤ need) {l : List (Int × Int)} : freeP need l q ↔ ∀ x, q ≤ x → x < q + need → hitL l x = false := by
  constructor
  · intro h x h1 h2
    rw [← Bool.not_eq_true, hitL_iff]
    rintro ⟨f, hf, a, b⟩
    exact h f hf ⟨by omega, by omega, by omega⟩
  · intro h f hf ⟨a, b, c⟩
    have := h (max q f.1) (by omega) (by omega)
    rw [← Bool.not_eq_true, hitL_iff] at this
    exact this ⟨f, hf, by omega, by omega⟩
theorem drop_gp {l : List (Int × Int)} {k : Nat} (h : k < l.length) : l.drop k = gp l k :: l.drop (k + 1) := by
  rw [List.drop_eq_getElem_cons h]
  unfold gp
  rw [List.getD_eq_getElem?_getD, List.getElem?_eq_getElem h]
  rfl
end Go.Proofs.YthiaefhejdfobaaGreat
