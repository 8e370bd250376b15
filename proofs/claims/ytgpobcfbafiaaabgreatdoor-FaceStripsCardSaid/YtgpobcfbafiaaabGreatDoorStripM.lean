/-
  Plain mathematics of FaceStrips: the farthest column that is not forbidden gives the fewest strips. By an AI agent.
-/
import Derived.Test.YtgpobcfbafiaaabGreatDoorSeamsB
namespace Go.Proofs.YtgpobcfbafiaaabGreatDoor

/-- The least of the values from lo on that are not negative, and one more; -1 if there is none: as the law's inner loop finds it. -/
def mf (B : Nat → Int) (lo : Nat) : Nat → Int
  | 0 => -1
  | k + 1 => if 0 ≤ B (lo + k) ∧ (mf B lo k < 0 ∨ B (lo + k) + 1 < mf B lo k) then B (lo + k) + 1 else mf B lo k
theorem mf_spec (B : Nat → Int) (lo : Nat) : ∀ k, (mf B lo k = -1 ∧ ∀ j, j < k → B (lo + j) < 0) ∨ (0 < mf B lo k ∧ (∃ j, j < k ∧ B (lo + j) + 1 = mf B lo k ∧ 0 ≤ B (lo + j)) ∧ ∀ j, j < k → 0 ≤ B (lo + j) → mf B lo k ≤ B (lo + j) + 1)
  | 0 => .inl ⟨rfl, fun j h => absurd h (Nat.not_lt_zero j)⟩
  | k + 1 => by
    rw [mf]
    rcases mf_spec B lo k with ⟨h1, h2⟩ | ⟨h1, ⟨j0, h2, h3, h4⟩, h5⟩
    · by_cases h : 0 ≤ B (lo + k)
      · rw [if_pos ⟨h, .inl (by omega)⟩]
        refine .inr ⟨by omega, ⟨k, by omega, rfl, h⟩, fun j hj hB => ?_⟩
        by_cases e : j = k
        · subst e; omega
        · have := h2 j (by omega); omega
      · rw [if_neg (fun hh => h hh.1)]
        refine .inl ⟨h1, fun j hj => ?_⟩
        by_cases e : j = k
        · subst e; omega
        · exact h2 j (by omega)
    · by_cases h : 0 ≤ B (lo + k) ∧ (mf B lo k < 0 ∨ B (lo + k) + 1 < mf B lo k)
      · rw [if_pos h]
        refine .inr ⟨by omega, ⟨k, by omega, rfl, h.1⟩, fun j hj hB => ?_⟩
        by_cases e : j = k
        · subst e; omega
        · have := h5 j (by omega) hB; omega
      · rw [if_neg h]
        refine .inr ⟨h1, ⟨j0, by omega, h3, h4⟩, fun j hj hB => ?_⟩
        by_cases e : j = k
        · subst e; omega
        · exact h5 j (by omega) hB

/-- The first column from which c is reached by one strip. -/
def lowc (wd : Int) (c : Nat) : Nat := ((c : Int) - wd).toNat
/-- The law's table up to a column. -/
def GoodTo (fb : Int → Bool) (w wd : Int) (B : Nat → Int) (n : Nat) : Prop :=
  B 0 = 0 ∧ ∀ c : Nat, 1 ≤ c → c ≤ n → B c = if (c : Int) < w ∧ fb c = true then -1 else mf B (lowc wd c) (c - lowc wd c)

theorem good_pred {fb : Int → Bool} {w wd : Int} {B : Nat → Int} {n c : Nat} (hwd : 1 ≤ wd) (h : GoodTo fb w wd B n) (h1 : 1 ≤ c) (h2 : c ≤ n) (h0 : 0 ≤ B c) :
    ¬ ((c : Int) < w ∧ fb c = true) ∧ 0 < B c ∧ ∃ b, b < c ∧ (c : Int) - wd ≤ b ∧ B b + 1 = B c ∧ 0 ≤ B b := by
  have e := h.2 c h1 h2
  by_cases hf : (c : Int) < w ∧ fb c = true
  · rw [if_pos hf] at e; omega
  · rw [if_neg hf] at e
    rcases mf_spec B (lowc wd c) (c - lowc wd c) with ⟨g1, _⟩ | ⟨g1, ⟨j, g2, g3, g4⟩, _⟩
    · omega
    · refine ⟨hf, by omega, lowc wd c + j, ?_, ?_, by omega, g4⟩
      · unfold lowc at *; omega
      · unfold lowc at *; omega
theorem good_le {fb : Int → Bool} {w wd : Int} {B : Nat → Int} {n c b : Nat} (h : GoodTo fb w wd B n) (h1 : 1 ≤ c) (h2 : c ≤ n) (hf : ¬ ((c : Int) < w ∧ fb c = true)) (hb : b < c) (hb2 : (c : Int) - wd ≤ b) (h0 : 0 ≤ B b) :
    0 ≤ B c ∧ B c ≤ B b + 1 := by
  have e := h.2 c h1 h2
  rw [if_neg hf] at e
  have hlo : lowc wd c ≤ b := by unfold lowc; omega
  have hj : b - lowc wd c < c - lowc wd c := by omega
  have ej : lowc wd c + (b - lowc wd c) = b := by omega
  rcases mf_spec B (lowc wd c) (c - lowc wd c) with ⟨_, g2⟩ | ⟨g1, _, g3⟩
  · have := g2 _ hj; rw [ej] at this; omega
  · have := g3 _ hj (by rw [ej]; exact h0); rw [ej] at this; omega
theorem good_neg {fb : Int → Bool} {w wd : Int} {B : Nat → Int} {n c : Nat} (h : GoodTo fb w wd B n) (h2 : c ≤ n) (h0 : B c < 0) : B c = -1 := by
  by_cases hc : c = 0
  · subst hc; have := h.1; omega
  · have e := h.2 c (by omega) h2
    by_cases hf : (c : Int) < w ∧ fb c = true
    · rw [if_pos hf] at e; exact e
    · rw [if_neg hf] at e
      rcases mf_spec B (lowc wd c) (c - lowc wd c) with ⟨g1, _⟩ | ⟨g1, _, _⟩ <;> omega

theorem down_max (fb : Int → Bool) (a : Int) : ∀ k : Nat, (∀ x : Int, down fb a k < x → x ≤ a + k → fb x = true) ∧ (down fb a k ≠ a → fb (down fb a k) = false)
  | 0 => ⟨fun x h1 h2 => by have : down fb a 0 = a := rfl; omega, fun h => absurd rfl h⟩
  | k + 1 => by
    obtain ⟨i1, i2⟩ := down_max fb a k
    rw [down]
    by_cases hf : fb (a + ((k + 1 : Nat) : Int)) = true
    · rw [if_pos hf]
      refine ⟨fun x h1 h2 => ?_, i2⟩
      by_cases e : x = a + ((k + 1 : Nat) : Int)
      · rw [e]; exact hf
      · exact i1 x h1 (by omega)
    · rw [if_neg hf]
      exact ⟨fun x h1 h2 => by omega, fun _ => by simpa using hf⟩

/-- Seams as the law asks for them: each behind the one in front of it, not too far, and not forbidden. -/
def SeamOk (fb : Int → Bool) (w wd : Int) : Int → List Int → Prop
  | last, [] => w - last ≤ wd
  | last, c :: r => last < c ∧ c < w ∧ c - last ≤ wd ∧ fb c = false ∧ SeamOk fb w wd c r

/-- Behind greedy steps from a column that the table reaches with n seams, and no farther one so soon. -/
theorem strips_go {fb : Int → Bool} {w wd : Int} {B : Nat → Int} (hwd : 1 ≤ wd) (hw : 0 ≤ w) (hG : GoodTo fb w wd B w.toNat) :
    ∀ (f : Nat) (a : Int) (acc : List Int), 0 ≤ a → a ≤ w → (a < w ∨ w = 0) → w < a + f → B a.toNat = acc.length → (∀ c : Nat, (c : Int) ≤ w → 0 ≤ B c → B c ≤ acc.length → (c : Int) ≤ a) →
      match seamsGo fb w wd f a acc with
      | none => B w.toNat < 0
      | some l => ∃ r, l = acc ++ r ∧ SeamOk fb w wd a r ∧ (0 < w → B w.toNat = l.length + 1)
  | 0, a, acc, _, h2, _, h4, _, _ => by omega
  | f + 1, a, acc, h1, h2, h3, h4, h5, h6 => by
    rw [seamsGo]
    by_cases hg : w - a > wd
    · rw [if_pos hg]
      obtain ⟨d1, d2⟩ := down_max fb a wd.toNat
      have db := down_bd fb a wd.toNat
      by_cases hd : down fb a wd.toNat = a
      · rw [if_pos hd]
        show B w.toNat < 0
        apply Int.not_le.1
        intro hB
        have key : ∀ n c : Nat, c ≤ n → (c : Int) ≤ w → 0 ≤ B c → (c : Int) ≤ a := by
          intro n
          induction n with
          | zero => intro c hc hcw _; omega
          | succ n ih =>
            intro c hc hcw hBc
            by_cases hca : (c : Int) ≤ a
            · exact hca
            · obtain ⟨g1, g2, b, g3, g4, g5, g6⟩ := good_pred hwd hG (by omega) (by omega) hBc
              have := ih b (by omega) (by omega) g6
              exact absurd ⟨by omega, d1 c (by omega) (by omega)⟩ g1
        have := key w.toNat w.toNat (Nat.le_refl _) (by omega) hB
        omega
      · rw [if_neg hd]
        generalize hc : down fb a wd.toNat = c at *
        have hf := d2 hd
        have cB := good_le (c := c.toNat) (b := a.toNat) hG (by omega) (by omega) (by rintro ⟨_, q⟩; rw [show ((c.toNat : Nat) : Int) = c from by omega, hf] at q; cases q) (by omega) (by omega) (by omega)
        have cN : ¬ B c.toNat ≤ acc.length := fun hh => by
          have := h6 c.toNat (by omega) cB.1 hh
          omega
        have := strips_go hwd hw hG f c (acc ++ [c]) (by omega) (by omega) (.inl (by omega)) (by omega) (by simp; omega) (by
          intro x hx hx0 hx1
          by_cases hx2 : B x ≤ acc.length
          · have := h6 x hx hx0 hx2; omega
          · by_cases hx3 : x = 0
            · omega
            · obtain ⟨g1, g2, b, g3, g4, g5, g6⟩ := good_pred hwd hG (by omega) (by omega) hx0
              have hb := h6 b (by omega) g6 (by simp at hx1; omega)
              apply Int.not_lt.1
              intro hxc
              exact g1 ⟨by omega, d1 x hxc (by omega)⟩)
        revert this
        cases seamsGo fb w wd f c (acc ++ [c]) with
        | none => exact id
        | some l =>
          rintro ⟨r, e1, e2, e3⟩
          exact ⟨c :: r, by rw [e1]; simp, ⟨by omega, by omega, by omega, hf, e2⟩, e3⟩
    · rw [if_neg hg]
      refine ⟨[], by simp, by show w - a ≤ wd; omega, fun hw0 => ?_⟩
      have cB := good_le (c := w.toNat) (b := a.toNat) hG (by omega) (by omega) (by rintro ⟨q, _⟩; omega) (by omega) (by omega) (by omega)
      have cN : ¬ B w.toNat ≤ acc.length := fun hh => by
        have := h6 w.toNat (by omega) cB.1 hh
        omega
      omega

theorem strips_all {fb : Int → Bool} {w wd : Int} {B : Nat → Int} (hwd : 1 ≤ wd) (hw : 0 < w) (hG : GoodTo fb w wd B w.toNat) :
    match seamsOf fb w wd with
    | none => B w.toNat < 0
    | some l => SeamOk fb w wd 0 l ∧ B w.toNat = l.length + 1 := by
  have := strips_go hwd (by omega) hG (w.toNat + 1) 0 [] (by omega) (by omega) (.inl hw) (by omega) (by simpa using hG.1) (by
    intro c hc h0 h1
    by_cases e : c = 0
    · omega
    · obtain ⟨_, g2, _⟩ := good_pred hwd hG (by omega) (by omega) h0
      simp at h1; omega)
  unfold seamsOf
  revert this
  cases seamsGo fb w wd (w.toNat + 1) 0 [] with
  | none => exact id
  | some l =>
    rintro ⟨r, e1, e2, e3⟩
    obtain rfl : l = r := by simpa using e1
    exact ⟨e2, e3 hw⟩
end Go.Proofs.YtgpobcfbafiaaabGreatDoor
