/-
  Plain mathematics of roads: changes, lengths, places that are carried. By an AI agent.
-/
namespace Go.Proofs.YthiaefhejdfobaaGreat
set_option linter.unusedVariables false
set_option linter.unusedSimpArgs false
/-- A change: day, from, to, new. -/
abbrev Chg := Int × Int × Int × Int
def gc (l : List Chg) (i : Nat) : Chg := l.getD i (0, 0, 0, 0)
/-- The length of version k. -/
def lenK (L : Int) (l : List Chg) : Nat → Int
  | 0 => L
  | k + 1 => lenK L l k + (gc l k).2.2.2 - ((gc l k).2.2.1 - (gc l k).2.1)
/-- The day before change k. -/
def dayK (l : List Chg) : Nat → Int
  | 0 => 0
  | k + 1 => (gc l k).1
def chgOk (D len : Int) (c : Chg) : Prop := (D ≤ c.1 ∧ c.1 ≤ 100000) ∧ (0 ≤ c.2.1 ∧ c.2.1 ≤ len) ∧ (0 ≤ c.2.2.1 ∧ c.2.2.1 ≤ len) ∧ c.2.1 ≤ c.2.2.1 ∧ 0 ≤ c.2.2.2 ∧ c.2.2.2 ≤ 10000000
def stepOk (L : Int) (l : List Chg) (i : Nat) : Prop := chgOk (dayK l i) (lenK L l i) (gc l i) ∧ lenK L l (i + 1) ≤ 10000000
def RoadOk (N L : Int) (l : List Chg) : Prop := (1 ≤ N ∧ N ≤ 1000000) ∧ (0 ≤ L ∧ L ≤ 10000000) ∧ l.length ≤ 40 ∧ ∀ i, i < l.length → stepOk L l i
open Classical in
noncomputable def roadB (N L : Int) (l : List Chg) : Bool := decide (RoadOk N L l)
theorem roadB_t {N L : Int} {l : List Chg} (h : RoadOk N L l) : roadB N L l = true := by unfold roadB; simpa using h
theorem roadB_f {N L : Int} {l : List Chg} (h : ¬ RoadOk N L l) : roadB N L l = false := by unfold roadB; simpa using h
theorem len_bd {N L : Int} {l : List Chg} (h : RoadOk N L l) : ∀ k, k ≤ l.length → 0 ≤ lenK L l k ∧ lenK L l k ≤ 10000000
  | 0, _ => h.2.1
  | k + 1, hk => by
    have ih := len_bd h k (by omega)
    have := h.2.2.2 k (by omega)
    obtain ⟨⟨_, ⟨a, b⟩, ⟨c, d⟩, e, f, g⟩, i⟩ := this
    refine ⟨?_, i⟩
    rw [lenK]
    omega
theorem len_bd2 {L : Int} {l : List Chg} (h0 : 0 ≤ L ∧ L ≤ 10000000) : ∀ k, (∀ i, i < k → stepOk L l i) → 0 ≤ lenK L l k ∧ lenK L l k ≤ 10000000
  | 0, _ => h0
  | k + 1, hk => by
    have ih := len_bd2 h0 k (fun i hi => hk i (by omega))
    have := hk k (by omega)
    obtain ⟨⟨_, ⟨a, b⟩, ⟨c, d⟩, e, f, g⟩, i⟩ := this
    refine ⟨?_, i⟩
    rw [lenK]
    omega
theorem day_bd {l : List Chg} {L : Int} : ∀ k, (∀ i, i < k → stepOk L l i) → 0 ≤ dayK l k ∧ dayK l k ≤ 100000
  | 0, _ => by simp [dayK]
  | k + 1, hk => by
    have ih := day_bd (L := L) k (fun i hi => hk i (by omega))
    have := hk k (by omega)
    obtain ⟨⟨⟨a, b⟩, _⟩, _⟩ := this
    simp only [dayK]
    omega
/-- The days ascend. -/
theorem day_asc {N L : Int} {l : List Chg} (h : RoadOk N L l) {i j : Nat} (hij : i ≤ j) (hj : j < l.length) : (gc l i).1 ≤ (gc l j).1 := by
  induction j with
  | zero => obtain rfl : i = 0 := by omega
            exact Int.le_refl _
  | succ j ih =>
    by_cases e : i = j + 1
    · subst e; exact Int.le_refl _
    · have h1 := ih (by omega) (by omega)
      have h2 := (h.2.2.2 (j + 1) hj).1.1.1
      simp only [dayK] at h2
      omega
/-- How many changes are not later than a day. -/
def atK (l : List Chg) (d : Int) : Nat → Nat
  | 0 => 0
  | k + 1 => if (gc l k).1 ≤ d then k + 1 else atK l d k
theorem atK_le (l : List Chg) (d : Int) : ∀ k, atK l d k ≤ k
  | 0 => Nat.le_refl _
  | k + 1 => by rw [atK]; split; exact Nat.le_refl _; have := atK_le l d k; omega
/-- With ascending days the first later change is the count. -/
theorem atK_first {l : List Chg} {d : Int} {m : Nat} (hb : ∀ j, j < m → (gc l j).1 ≤ d) : ∀ n, m ≤ n → (∀ j, m ≤ j → j < n → d < (gc l j).1) → atK l d n = m
  | 0, h, _ => by rw [atK]; omega
  | n + 1, h, ha => by
    rw [atK]
    by_cases e : m = n + 1
    · subst e; rw [if_pos (hb n (by omega))]
    · rw [if_neg (by have := ha n (by omega) (by omega); omega)]
      exact atK_first hb n (by omega) (fun j h1 h2 => ha j h1 (by omega))

/-- A swap: at, out, in. -/
abbrev Sw := Int × Int × Int
def gw (l : List Sw) (i : Nat) : Sw := l.getD i (0, 0, 0)
def upSw (c : Chg) : Sw := (c.2.1, c.2.2.1 - c.2.1, c.2.2.2)
def dnSw (c : Chg) : Sw := (c.2.1, c.2.2.2, c.2.2.1 - c.2.1)
def dst (v w : Nat) : Nat := (w - v) + (v - w)
def swK (l : List Chg) (v w j : Nat) : Sw := if v < w then upSw (gc l (v + j)) else dnSw (gc l (v - 1 - j))
/-- The version behind j steps. -/
def posK (v w j : Nat) : Nat := if v < w then v + j else v - j
def wayL (l : List Chg) (v w : Nat) : List Sw := (List.range (dst v w)).map (swK l v w)
theorem way_len (l : List Chg) (v w : Nat) : (wayL l v w).length = dst v w := by simp [wayL]
theorem gw_map (f : Nat → Sw) {n i : Nat} (h : i < n) : gw ((List.range n).map f) i = f i := by
  unfold gw; rw [List.getD_eq_getElem?_getD, List.getElem?_map, List.getElem?_range h]; rfl
theorem way_at (l : List Chg) (v w : Nat) {j : Nat} (h : j < dst v w) : gw (wayL l v w) j = swK l v w j := gw_map _ h
def swOk (len len' : Int) (s : Sw) : Prop := (0 ≤ s.1 ∧ 0 ≤ s.2.1 ∧ s.1 + s.2.1 ≤ len) ∧ (0 ≤ s.2.2 ∧ s.2.2 ≤ 10000000) ∧ len' = len - s.2.1 + s.2.2 ∧ (0 ≤ len ∧ len ≤ 10000000) ∧ 0 ≤ len' ∧ len' ≤ 10000000
theorem pos_0 (v w : Nat) : posK v w 0 = v := by unfold posK; split <;> omega
theorem pos_end (v w : Nat) : posK v w (dst v w) = w := by unfold posK dst; split <;> omega
theorem sw_ok {N L : Int} {l : List Chg} (h : RoadOk N L l) {v w j : Nat} (hv : v ≤ l.length) (hw : w ≤ l.length) (hj : j < dst v w) : swOk (lenK L l (posK v w j)) (lenK L l (posK v w (j + 1))) (swK l v w j) := by
  unfold dst at hj
  unfold swK posK
  by_cases e : v < w
  · rw [if_pos e, if_pos e, if_pos e]
    have hk : v + j < l.length := by omega
    have b0 := len_bd h (v + j) (by omega)
    have b1 := len_bd h (v + j + 1) (by omega)
    obtain ⟨⟨_, ⟨a, b⟩, ⟨c, d⟩, e, f, g⟩, i⟩ := h.2.2.2 (v + j) hk
    rw [← Nat.add_assoc] at *
    refine ⟨⟨?_, ?_, ?_⟩, ⟨?_, ?_⟩, ?_, b0, b1⟩ <;> simp only [upSw, lenK] <;> omega
  · rw [if_neg e, if_neg e, if_neg e]
    obtain ⟨k, hk⟩ : ∃ k, k = v - 1 - j := ⟨_, rfl⟩
    have e1 : v - j = k + 1 := by omega
    have e2 : v - (j + 1) = k := by omega
    rw [← hk, e1, e2]
    have hk : k < l.length := by omega
    have b0 := len_bd h k (by omega)
    have b1 := len_bd h (k + 1) (by omega)
    obtain ⟨⟨_, ⟨a, b⟩, ⟨c, d⟩, e, f, g⟩, i⟩ := h.2.2.2 k hk
    have i2 : lenK L l (k + 1) = lenK L l k + (gc l k).2.2.2 - ((gc l k).2.2.1 - (gc l k).2.1) := rfl
    refine ⟨⟨?_, ?_, ?_⟩, ⟨?_, ?_⟩, ?_, b1, b0⟩ <;> simp only [dnSw] <;> omega

/-- A place over one swap. -/
def mv (s : Sw) (c : Int) : Option Int := if c ≤ s.1 then some c else if s.1 + s.2.1 ≤ c then some (c + s.2.2 - s.2.1) else none
/-- A place over the first k swaps. -/
def carK (f : Nat → Sw) (c : Int) : Nat → Option Int
  | 0 => some c
  | k + 1 => (carK f c k).bind (mv (f k))
theorem mv_bd {len len' : Int} {s : Sw} {c d : Int} (h : swOk len len' s) (h0 : 0 ≤ c) (h1 : c ≤ len) (hm : mv s c = some d) : 0 ≤ d ∧ d ≤ len' := by
  obtain ⟨⟨a, b, c'⟩, ⟨d', e⟩, f, _, _⟩ := h
  unfold mv at hm
  split at hm
  · cases hm; omega
  · split at hm
    · cases hm; omega
    · cases hm
theorem mv_mono {len len' : Int} {s : Sw} {c d x y : Int} (h : swOk len len' s) (hx : mv s c = some x) (hy : mv s d = some y) (hcd : c ≤ d) : x ≤ y := by
  obtain ⟨⟨a, b, c'⟩, ⟨d', e⟩, f, _, _⟩ := h
  unfold mv at hx hy
  split at hx
  · cases hx
    split at hy
    · cases hy; exact hcd
    · split at hy
      · cases hy; omega
      · cases hy
  · split at hx
    · cases hx
      split at hy
      · omega
      · split at hy
        · cases hy; omega
        · cases hy
    · cases hx
theorem carK_bd {len : Nat → Int} {f : Nat → Sw} {n : Nat} (h : ∀ j, j < n → swOk (len j) (len (j + 1)) (f j)) {c : Int} (h0 : 0 ≤ c) (h1 : c ≤ len 0) : ∀ k, k ≤ n → ∀ d, carK f c k = some d → 0 ≤ d ∧ d ≤ len k
  | 0, _, d, hd => by cases hd; exact ⟨h0, h1⟩
  | k + 1, hk, d, hd => by
    rw [carK] at hd
    cases hc : carK f c k with
    | none => rw [hc] at hd; cases hd
    | some x =>
      rw [hc] at hd
      have ih := carK_bd h h0 h1 k (by omega) x hc
      exact mv_bd (h k (by omega)) ih.1 ih.2 hd
theorem carK_mono {len : Nat → Int} {f : Nat → Sw} {n : Nat} (h : ∀ j, j < n → swOk (len j) (len (j + 1)) (f j)) {c d : Int} (hcd : c ≤ d) : ∀ k, k ≤ n → ∀ x y, carK f c k = some x → carK f d k = some y → x ≤ y
  | 0, _, x, y, hx, hy => by cases hx; cases hy; exact hcd
  | k + 1, hk, x, y, hx, hy => by
    rw [carK] at hx hy
    cases hc : carK f c k with
    | none => rw [hc] at hx; cases hx
    | some p =>
      cases hd : carK f d k with
      | none => rw [hd] at hy; cases hy
      | some q =>
        rw [hc] at hx; rw [hd] at hy
        exact mv_mono (h k (by omega)) hx hy (carK_mono h hcd k (by omega) p q hc hd)
theorem carK_none {f : Nat → Sw} {c : Int} {k : Nat} (h : carK f c k = none) : ∀ n, k ≤ n → carK f c n = none
  | 0, hn => by obtain rfl : k = 0 := by omega
                exact h
  | n + 1, hn => by
    by_cases e : k = n + 1
    · subst e; exact h
    · rw [carK, carK_none h n (by omega)]; rfl
end Go.Proofs.YthiaefhejdfobaaGreat
