/-
  Plain mathematics of cutting pieces one after the other: the state (rolls begun, room taken of the last one), and which state is no worse. By an AI agent.
-/
namespace Go.Proofs.Ytmeoekcajmgiaaa
set_option linter.unusedVariables false
set_option linter.unusedSimpArgs false
/-- The state after one more piece. -/
def withS (f : Int × Int) (size room : Int) : Int × Int := if f.2 + size ≤ room then (f.1, f.2 + size) else (f.1 + 1, size)
/-- No worse: fewer rolls, or as many and no more taken. -/
def leS (a b : Int × Int) : Prop := a.1 < b.1 ∨ (a.1 = b.1 ∧ a.2 ≤ b.2)
theorem leS_refl (a : Int × Int) : leS a a := .inr ⟨rfl, Int.le_refl _⟩
theorem leS_trans {a b c : Int × Int} (h : leS a b) (g : leS b c) : leS a c := by unfold leS at *; omega
theorem leS_total (a b : Int × Int) : leS a b ∨ leS b a := by unfold leS; omega
theorem leS_rolls {a b : Int × Int} (h : leS a b) : a.1 ≤ b.1 := by unfold leS at h; omega
/-- A better state stays better behind a piece that is no longer, in a roll with no less room behind it. -/
theorem withS_mono {a b : Int × Int} {s s' m m' : Int} (h : leS a b) (h0 : 0 ≤ b.2) (hs : s ≤ s') (hm : m' - s' ≤ m - s) : leS (withS a s m) (withS b s' m') := by
  unfold leS withS at *
  by_cases h1 : a.2 + s ≤ m
  · rw [if_pos h1]
    by_cases h2 : b.2 + s' ≤ m'
    · rw [if_pos h2]; simp only []; omega
    · rw [if_neg h2]; simp only []; omega
  · rw [if_neg h1]
    by_cases h2 : b.2 + s' ≤ m'
    · rw [if_pos h2]; simp only []; omega
    · rw [if_neg h2]; simp only []; omega
/-- A piece more never makes a state better. -/
theorem withS_more (a : Int × Int) {s m : Int} (hs : 0 ≤ s) : leS a (withS a s m) := by
  unfold leS withS
  by_cases h : a.2 + s ≤ m
  · rw [if_pos h]; right; exact ⟨rfl, by show a.2 ≤ a.2 + s; omega⟩
  · rw [if_neg h]; left; show a.1 < a.1 + 1; omega
theorem withS_pos {a : Int × Int} {s m : Int} (hs : 0 ≤ s) (h : 0 ≤ a.2) : 0 ≤ (withS a s m).2 := by
  unfold withS
  by_cases g : a.2 + s ≤ m
  · rw [if_pos g]; show 0 ≤ a.2 + s; omega
  · rw [if_neg g]; exact hs
/-- All pieces, one after the other. -/
def runS (m : Int) (a : Int × Int) : List Int → Int × Int
  | [] => a
  | s :: l => runS m (withS a s m) l
theorem runS_app (m : Int) : ∀ (l l' : List Int) (a : Int × Int), runS m a (l ++ l') = runS m (runS m a l) l'
  | [], l', a => rfl
  | s :: l, l', a => by rw [List.cons_append, runS, runS, runS_app m l l']
theorem runS_pos {m : Int} : ∀ (l : List Int) (a : Int × Int), (∀ s, s ∈ l → 0 ≤ s) → 0 ≤ a.2 → 0 ≤ (runS m a l).2
  | [], a, _, h => h
  | s :: l, a, hl, h => by rw [runS]; exact runS_pos l _ (fun x hx => hl x (List.mem_cons_of_mem _ hx)) (withS_pos (hl s List.mem_cons_self) h)
theorem runS_mono {m : Int} : ∀ (l : List Int) {a b : Int × Int}, (∀ s, s ∈ l → 0 ≤ s) → 0 ≤ b.2 → leS a b → leS (runS m a l) (runS m b l)
  | [], a, b, _, _, h => h
  | s :: l, a, b, hl, h0, h => by
    rw [runS, runS]
    exact runS_mono l (fun x hx => hl x (List.mem_cons_of_mem _ hx)) (withS_pos (hl s List.mem_cons_self) h0) (withS_mono h h0 (Int.le_refl _) (Int.le_refl _))
/-- The same pieces by other measures: each no longer, with no less room behind it. -/
theorem runS_other {α : Type} {f f' : α → Int} {m m' : Int} : ∀ (l : List α) {a b : Int × Int}, (∀ x, x ∈ l → 0 ≤ f' x ∧ f x ≤ f' x ∧ m' - f' x ≤ m - f x) → 0 ≤ b.2 → leS a b → leS (runS m a (l.map f)) (runS m' b (l.map f'))
  | [], a, b, _, _, h => h
  | x :: l, a, b, hl, h0, h => by
    rw [List.map_cons, List.map_cons, runS, runS]
    have hx := hl x List.mem_cons_self
    exact runS_other l (fun y hy => hl y (List.mem_cons_of_mem _ hy)) (withS_pos hx.1 h0) (withS_mono h h0 hx.2.1 hx.2.2)
/-- Fewer pieces, in the same order. -/
theorem runS_sub {m : Int} : ∀ {l l' : List Int}, l'.Sublist l → (∀ s, s ∈ l → 0 ≤ s) → ∀ {a b : Int × Int}, 0 ≤ b.2 → leS a b → leS (runS m a l') (runS m b l)
  | _, _, .slnil, _, a, b, _, h => h
  | _, _, .cons s (l₂ := l) hs, hl, a, b, h0, h => by
    rw [runS]
    exact runS_sub hs (fun x hx => hl x (List.mem_cons_of_mem _ hx)) (withS_pos (hl s List.mem_cons_self) h0) (leS_trans h (withS_more b (hl s List.mem_cons_self)))
  | _, _, .cons_cons s (l₂ := l) hs, hl, a, b, h0, h => by
    rw [runS, runS]
    exact runS_sub hs (fun x hx => hl x (List.mem_cons_of_mem _ hx)) (withS_pos (hl s List.mem_cons_self) h0) (withS_mono h h0 (Int.le_refl _) (Int.le_refl _))
/-- A sublist of one order is, up to its own order, a sublist of any other. -/
theorem sub_perm {α : Type} {l l2 : List α} (h : l.Perm l2) : ∀ {k : List α}, k.Sublist l → ∃ k2 : List α, k2.Perm k ∧ k2.Sublist l2 := by
  induction h with
  | nil => intro k hk; exact ⟨k, .refl _, hk⟩
  | cons x _ ih =>
    intro k hk
    cases hk with
    | cons _ h1 => obtain ⟨k2, g1, g2⟩ := ih h1; exact ⟨k2, g1, g2.cons _⟩
    | cons_cons _ h1 => obtain ⟨k2, g1, g2⟩ := ih h1; exact ⟨x :: k2, g1.cons _, g2.cons_cons _⟩
  | swap x y l =>
    intro k hk
    cases hk with
    | cons _ h1 =>
      cases h1 with
      | cons _ h2 => exact ⟨_, .refl _, (h2.cons _).cons _⟩
      | cons_cons _ h2 => exact ⟨_, .refl _, (h2.cons _).cons_cons _⟩
    | cons_cons _ h1 =>
      cases h1 with
      | cons _ h2 => exact ⟨_, .refl _, (h2.cons_cons _).cons _⟩
      | cons_cons _ h2 => exact ⟨_, .swap _ _ _, (h2.cons_cons _).cons_cons _⟩
  | trans _ _ ih1 ih2 =>
    intro k hk
    obtain ⟨k2, g1, g2⟩ := ih1 hk
    obtain ⟨k3, g3, g4⟩ := ih2 g2
    exact ⟨k3, g3.trans g1, g4⟩
end Go.Proofs.Ytmeoekcajmgiaaa
