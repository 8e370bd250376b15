/-
  Plain mathematics of what lies outside of stretches, and of taking stretches away. By an AI agent.
-/
import Derived.Test.YtdiabpcpcilclaaRoadK
namespace Go.Proofs.Ytdiabpcpcilclaa
set_option linter.unusedVariables false
set_option linter.unusedSimpArgs false
/-- Where the next stretch outside begins. -/
def frm (d : List Spn) : Nat → Int
  | 0 => 0
  | k + 1 => (gp d k).2
def gapL (f t : Int) : List Spn := if f < t then [(f, t)] else []
/-- What lies outside of ascending stretches, up to the one of number k. -/
def outK (d : List Spn) : Nat → List Spn
  | 0 => []
  | k + 1 => outK d k ++ gapL (frm d k) (gp d k).1
theorem gapL_len (f t : Int) : (gapL f t).length ≤ 1 := by unfold gapL; split <;> simp
theorem outK_len (d : List Spn) : ∀ k, (outK d k).length ≤ k
  | 0 => Nat.le_refl _
  | k + 1 => by have := outK_len d k; have := gapL_len (frm d k) (gp d k).1; rw [outK, List.length_append]; omega
theorem gp_app {c : List Spn} {k : Nat} (x : Spn) (h : k < c.length) : gp (c ++ [x]) k = gp c k := by
  unfold gp
  rw [List.getD_eq_getElem?_getD, List.getD_eq_getElem?_getD, List.getElem?_append_left h]
theorem frm_app {c : List Spn} (x : Spn) : ∀ {k : Nat}, k ≤ c.length → frm (c ++ [x]) k = frm c k
  | 0, _ => rfl
  | k + 1, h => by rw [frm, frm, gp_app x (by omega)]
theorem outK_app {c : List Spn} (x : Spn) : ∀ {k : Nat}, k ≤ c.length → outK (c ++ [x]) k = outK c k
  | 0, _ => rfl
  | k + 1, h => by rw [outK, outK, outK_app x (by omega), frm_app x (by omega), gp_app x (by omega)]
theorem out_inv {c : List Spn} {M : Int} (hC : Canon c) (hI : InV M c) (h0 : 0 ≤ M) : ∀ k, k ≤ c.length → Canon (outK c k) ∧ (∀ p ∈ outK c k, 0 ≤ p.1 ∧ p.2 < frm c k) ∧ (∀ m, InL (outK c k) m ↔ 0 ≤ m ∧ m < frm c k ∧ ¬ InL (c.take k) m) ∧ (0 ≤ frm c k ∧ frm c k ≤ M) ∧ (∀ m, InL (c.take k) m → m < frm c k) ∧ (∀ j, k ≤ j → j < c.length → frm c k ≤ (gp c j).1 ∧ (0 < k → frm c k < (gp c j).1))
  | 0, _ => ⟨canon_nil, (fun p hp => by cases hp), (fun m => by constructor; exact fun h => absurd h (inL_nil m); exact fun h => by have := h.2.1; simp only [frm] at this; omega), ⟨Int.le_refl _, h0⟩, (fun m h => absurd h (by rw [List.take_zero]; exact inL_nil m)), fun j _ hj => ⟨(hI _ (gp_mem hj)).1, fun h => by omega⟩⟩
  | k + 1, hk => by
    obtain ⟨h1, h2, h3, h4, h5, h6⟩ := out_inv hC hI h0 k (by omega)
    have hg := hI _ (gp_mem (show k < c.length by omega))
    have hv := hC.2 _ (gp_mem (show k < c.length by omega))
    obtain ⟨g1, g2⟩ := h6 k (Nat.le_refl _) (by omega)
    have hn : ∀ j, k + 1 ≤ j → j < c.length → (gp c k).2 < (gp c j).1 := fun j hj hl => canon_gp hC (by omega) hl
    have ht := take_gp (show k < c.length by omega)
    have e1 : frm c (k + 1) = (gp c k).2 := rfl
    rw [e1, outK, ht]
    generalize gp c k = s at *
    generalize outK c k = o at *
    generalize frm c k = f at *
    refine ⟨?_, fun p hp => ?_, fun m => ?_, ⟨by omega, hg.2.2⟩, fun m hm => ?_, fun j hj hl => ⟨by have := hn j hj hl; omega, fun _ => hn j hj hl⟩⟩
    · unfold gapL
      split
      · exact canon_snoc.2 ⟨h1, fun p hp => (h2 p hp).2, by assumption⟩
      · rw [List.append_nil]; exact h1
    · rcases List.mem_append.1 hp with hp | hp
      · have := h2 p hp; omega
      · unfold gapL at hp
        split at hp
        · simp at hp; subst hp; simp only []; omega
        · cases hp
    · have hG : InL (gapL f s.1) m ↔ f ≤ m ∧ m < s.1 := by
        unfold gapL
        split
        · rw [inL_one]
        · exact ⟨fun h => absurd h (inL_nil m), fun h => by omega⟩
      rw [inL_app, inL_app, inL_one, hG, h3 m]
      constructor
      · rintro (⟨a, b, d⟩ | ⟨a, b⟩)
        · exact ⟨a, by omega, fun h => by rcases h with h | h; exact d h; omega⟩
        · exact ⟨by omega, by omega, fun h => by rcases h with h | h; have := h5 m h; omega; omega⟩
      · rintro ⟨a, b, d⟩
        by_cases hm : m < f
        · exact .inl ⟨a, hm, fun h => d (.inl h)⟩
        · refine .inr ⟨by omega, ?_⟩
          apply Int.lt_of_not_ge
          intro h
          exact d (.inr ⟨h, b⟩)
    · rcases inL_app.1 hm with hm | hm
      · have := h5 m hm; omega
      · have := inL_one.1 hm; omega
/-- What lies outside of stretches, up to M. -/
def outC (M : Int) (c : List Spn) : List Spn := outK (c ++ [(M, M)]) (c.length + 1)
theorem outC_ok {c : List Spn} {M : Int} (hC : Canon c) (hI : InV M c) (h0 : 0 ≤ M) : Canon (outC M c) ∧ InV M (outC M c) ∧ (∀ m, InL (outC M c) m ↔ 0 ≤ m ∧ m < M ∧ ¬ InL c m) ∧ (outC M c).length ≤ c.length + 1 := by
  obtain ⟨h1, h2, h3, h4, h5, h6⟩ := out_inv hC hI h0 c.length (Nat.le_refl _)
  have hl := outK_len (c ++ [(M, M)]) (c.length + 1)
  rw [List.take_length] at h3 h5
  have e : outC M c = outK c c.length ++ gapL (frm c c.length) M := by
    unfold outC
    rw [outK, outK_app _ (Nat.le_refl _), frm_app _ (Nat.le_refl _), gp_last]
  unfold outC at e ⊢
  rw [e] at hl ⊢
  generalize outK c c.length = o at *
  generalize frm c c.length = f at *
  have hG : ∀ m, InL (gapL f M) m ↔ f ≤ m ∧ m < M := fun m => by
    unfold gapL
    split
    · rw [inL_one]
    · exact ⟨fun h => absurd h (inL_nil m), fun h => by omega⟩
  refine ⟨?_, fun p hp => ?_, fun m => ?_, hl⟩
  · unfold gapL
    split
    · exact canon_snoc.2 ⟨h1, fun p hp => (h2 p hp).2, by assumption⟩
    · rw [List.append_nil]; exact h1
  · rcases List.mem_append.1 hp with hp | hp
    · have := h2 p hp
      have := h1.2 p hp
      omega
    · unfold gapL at hp
      split at hp
      · simp at hp; subst hp; simp only []; omega
      · cases hp
  · rw [inL_app, hG, h3 m]
    constructor
    · rintro (⟨a, b, d⟩ | ⟨a, b⟩)
      · exact ⟨a, by omega, d⟩
      · exact ⟨by omega, b, fun h => by have := h5 m h; omega⟩
    · rintro ⟨a, b, d⟩
      by_cases hm : m < f
      · exact .inl ⟨a, hm, d⟩
      · exact .inr ⟨by omega, b⟩
theorem inV_canL {M : Int} {l : List Spn} (hI : InV M l) (hV : AllV l) : InV M (canL l) := by
  obtain ⟨h1, h2, h3⟩ := canL_ok hV
  intro p hp
  have hv := h1.2 p hp
  have a := (h2 p.1).1 ⟨p, hp, Int.le_refl _, hv⟩
  have b := (h2 (p.2 - 1)).1 ⟨p, hp, by omega, by omega⟩
  obtain ⟨x, hx, x1, x2⟩ := a
  obtain ⟨y, hy, y1, y2⟩ := b
  have := hI x hx
  have := hI y hy
  omega

/-- The part that a stretch takes away. -/
def cutS (b : Spn) : Sw := (b.1, b.2 - b.1, b.2 - b.1)
theorem keptStep_cut (b p : Spn) : keptStep (cutS b) p = keepL (p.1, min p.2 b.1) (max p.1 b.2, p.2) := by
  unfold keptStep cutS
  simp only []
  rw [show b.1 + (b.2 - b.1) = b.2 by omega, show b.2 - b.1 - (b.2 - b.1) = 0 by omega, Int.add_zero, Int.add_zero]
theorem keep_in {p b : Spn} (hb : b.1 < b.2) (m : Int) : InL (keepL (p.1, min p.2 b.1) (max p.1 b.2, p.2)) m ↔ (p.1 ≤ m ∧ m < p.2) ∧ ¬ (b.1 ≤ m ∧ m < b.2) := by
  unfold keepL
  rw [inL_app]
  have h1 : InL (if (p.1, min p.2 b.1).1 < (p.1, min p.2 b.1).2 then [(p.1, min p.2 b.1)] else []) m ↔ p.1 ≤ m ∧ m < p.2 ∧ m < b.1 := by
    split
    · rw [inL_one]; simp only []; omega
    · rename_i h; simp only [] at h; exact ⟨fun g => absurd g (inL_nil m), fun g => by omega⟩
  have h2 : InL (if (max p.1 b.2, p.2).1 < (max p.1 b.2, p.2).2 then [(max p.1 b.2, p.2)] else []) m ↔ p.1 ≤ m ∧ b.2 ≤ m ∧ m < p.2 := by
    split
    · rw [inL_one]; simp only []; omega
    · rename_i h; simp only [] at h; exact ⟨fun g => absurd g (inL_nil m), fun g => by omega⟩
  rw [h1, h2]
  omega
theorem cut_ok {b : Spn} (hb : b.1 < b.2) : ∀ {c : List Spn}, Canon c → Canon (stepL (cutS b) c) ∧ (∀ m, InL (stepL (cutS b) c) m ↔ InL c m ∧ ¬ (b.1 ≤ m ∧ m < b.2))
  | [], _ => ⟨canon_nil, fun m => ⟨fun h => absurd h (inL_nil m), fun h => absurd h.1 (inL_nil m)⟩⟩
  | p :: c, h => by
    obtain ⟨h1, h2, h3⟩ := canon_cons h
    obtain ⟨i1, i2⟩ := cut_ok hb h3
    have e : stepL (cutS b) (p :: c) = keepL (p.1, min p.2 b.1) (max p.1 b.2, p.2) ++ stepL (cutS b) c := by simp [stepL, keptStep_cut]
    rw [e]
    have hfar : ∀ q ∈ stepL (cutS b) c, p.2 < q.1 := fun q hq => by
      have hv := i1.2 q hq
      have := ((i2 q.1).1 ⟨q, hq, Int.le_refl _, hv⟩).1
      exact inL_after h this
    refine ⟨⟨?_, allV_app.2 ⟨keepL_v _ _, i1.2⟩⟩, fun m => ?_⟩
    · rw [List.pairwise_append]
      refine ⟨?_, i1.1, fun x hx y hy => ?_⟩
      · unfold keepL
        split
        · split
          · rename_i a d
            simp only [] at a d
            simp only [List.cons_append, List.nil_append]
            exact List.Pairwise.cons (fun z hz => by simp at hz; subst hz; simp only []; omega) (List.pairwise_singleton _ _)
          · rw [List.append_nil]; exact List.pairwise_singleton _ _
        · split
          · exact List.pairwise_singleton _ _
          · exact List.Pairwise.nil
      · have hy2 := hfar y hy
        have : x.2 ≤ p.2 := by
          unfold keepL at hx
          rcases List.mem_append.1 hx with hx | hx
          · split at hx
            · simp at hx; subst hx; simp only []; omega
            · cases hx
          · split at hx
            · simp at hx; subst hx; simp only []; omega
            · cases hx
        omega
    · rw [inL_app, keep_in hb, i2, inL_cons]
      constructor
      · rintro (⟨a, d⟩ | ⟨a, d⟩)
        · exact ⟨.inl a, d⟩
        · exact ⟨.inr a, d⟩
      · rintro ⟨a | a, d⟩
        · exact .inl ⟨a, d⟩
        · exact .inr ⟨a, d⟩
/-- A list without the first k stretches of another one. -/
def minK (c b : List Spn) : Nat → List Spn
  | 0 => c
  | k + 1 => stepL (cutS (gp b k)) (minK c b k)
theorem minK_ok {c b : List Spn} (hC : Canon c) (hb : AllV b) : ∀ k, k ≤ b.length → Canon (minK c b k) ∧ ∀ m, InL (minK c b k) m ↔ InL c m ∧ ¬ InL (b.take k) m
  | 0, _ => ⟨hC, fun m => ⟨fun h => ⟨h, by rw [List.take_zero]; exact inL_nil m⟩, fun h => h.1⟩⟩
  | k + 1, hk => by
    obtain ⟨h1, h2⟩ := minK_ok hC hb k (by omega)
    obtain ⟨g1, g2⟩ := cut_ok (hb _ (gp_mem (show k < b.length by omega))) h1
    refine ⟨g1, fun m => ?_⟩
    rw [minK, g2, h2, take_gp (show k < b.length by omega), inL_app, inL_one]
    constructor
    · rintro ⟨⟨a, d⟩, f⟩
      exact ⟨a, fun h => by rcases h with h | h; exact d h; exact f h⟩
    · rintro ⟨a, d⟩
      exact ⟨⟨a, fun h => d (.inl h)⟩, fun h => d (.inr h)⟩
/-- What Minus gives. -/
def minusL (M : Int) (a b : List Spn) : List Spn := outC M (canL (outC M (canL a) ++ b))
theorem minus_ok {M : Int} {a b : List Spn} (ha : InV M a) (va : AllV a) (hb : InV M b) (vb : AllV b) (h0 : 0 ≤ M) : Canon (minusL M a b) ∧ InV M (minusL M a b) ∧ (∀ m, InL (minusL M a b) m ↔ InL a m ∧ ¬ InL b m) ∧ InV M (outC M (canL a) ++ b) ∧ AllV (outC M (canL a) ++ b) := by
  obtain ⟨c1, c2, c3⟩ := canL_ok va
  obtain ⟨o1, o2, o3, o4⟩ := outC_ok c1 (inV_canL ha va) h0
  have hI : InV M (outC M (canL a) ++ b) := fun p hp => by
    rcases List.mem_append.1 hp with hp | hp
    · exact o2 p hp
    · exact hb p hp
  have hV : AllV (outC M (canL a) ++ b) := allV_app.2 ⟨o1.2, vb⟩
  obtain ⟨d1, d2, d3⟩ := canL_ok hV
  obtain ⟨u1, u2, u3, u4⟩ := outC_ok d1 (inV_canL hI hV) h0
  refine ⟨u1, u2, fun m => ?_, hI, hV⟩
  unfold minusL
  rw [u3, d2, inL_app, o3, c2]
  constructor
  · rintro ⟨x, y, z⟩
    refine ⟨?_, fun h => z (.inr h)⟩
    apply Classical.byContradiction
    intro h
    exact z (.inl ⟨x, y, h⟩)
  · rintro ⟨x, y⟩
    obtain ⟨q, hq, q1, q2⟩ := x
    have := ha q hq
    exact ⟨by omega, by omega, fun h => by rcases h with ⟨_, _, h⟩ | h; exact h ⟨q, hq, q1, q2⟩; exact y h⟩
/-- Both ways to take away agree. -/
theorem minus_eq {M : Int} {a b : List Spn} (ha : InV M a) (va : AllV a) (hb : InV M b) (vb : AllV b) (h0 : 0 ≤ M) : minusL M a b = minK (canL a) b b.length := by
  obtain ⟨m1, m2, m3, -, -⟩ := minus_ok ha va hb vb h0
  obtain ⟨k1, k2⟩ := minK_ok (canL_ok va).1 vb b.length (Nat.le_refl _)
  refine canon_unique m1 k1 fun m => ?_
  rw [m3, k2, List.take_length, (canL_ok va).2.1]
end Go.Proofs.Ytdiabpcpcilclaa
