/-
  Packing pieces into rolls by backtracking finds what some order of the pieces finds: plain mathematics. By an AI agent.
-/
import Derived.Test.YtmeoekcajmgiaaaCutU
namespace Go.Proofs.Ytmeoekcajmgiaaa
set_option linter.unusedVariables false
set_option linter.unusedSimpArgs false
/-- One roll's load changed. -/
def updI (b : Nat → Int) (k : Nat) (x : Int) : Nat → Int := fun i => if i = k then x else b i
theorem updI_same (b : Nat → Int) (k : Nat) (x : Int) : updI b k x k = x := by unfold updI; rw [if_pos rfl]
theorem updI_other (b : Nat → Int) {k i : Nat} (x : Int) (h : i ≠ k) : updI b k x i = b i := by unfold updI; rw [if_neg h]
/-- The search: c rolls are begun, with these loads. -/
def pkF (n : Nat) (m : Int) : List Int → Nat → (Nat → Int) → Bool
  | [], _, _ => true
  | s :: l, c, b => (List.range (min (c + 1) n)).any fun k => decide (b k + s ≤ m) && pkF n m l (if k = c then c + 1 else c) (updI b k (b k + s))
/-- The pieces have a place. -/
def Parts (n : Nat) (m : Int) : List Int → (Nat → Int) → Prop
  | [], b => ∀ i, i < n → b i ≤ m
  | s :: l, b => ∃ a, a < n ∧ Parts n m l (updI b a (b a + s))
theorem parts_fits {n : Nat} {m : Int} : ∀ (l : List Int) (b : Nat → Int), (∀ s, s ∈ l → 0 ≤ s) → Parts n m l b → ∀ i, i < n → b i ≤ m
  | [], b, _, h, i, hi => h i hi
  | s :: l, b, h0, ⟨a, ha, h⟩, i, hi => by
    have ih := parts_fits l _ (fun x hx => h0 x (List.mem_cons_of_mem _ hx)) h i hi
    have hs := h0 s List.mem_cons_self
    by_cases e : i = a
    · subst e; rw [updI_same] at ih; omega
    · rwa [updI_other _ _ e] at ih
theorem updI_swap (b : Nat → Int) (p q : Nat) (x y : Int) : updI (updI b p (b p + x)) q (updI b p (b p + x) q + y) = updI (updI b q (b q + y)) p (updI b q (b q + y) p + x) := by
  funext i
  unfold updI
  by_cases e1 : i = p <;> by_cases e2 : i = q <;> by_cases e3 : p = q <;> simp_all <;> omega
theorem parts_perm {n : Nat} {m : Int} {l l' : List Int} (h : l.Perm l') : ∀ b, Parts n m l b → Parts n m l' b := by
  induction h with
  | nil => intro b h; exact h
  | cons x _ ih => rintro b ⟨a, ha, h⟩; exact ⟨a, ha, ih _ h⟩
  | swap x y l =>
    rintro b ⟨p, hp, q, hq, h⟩
    refine ⟨q, hq, p, hp, ?_⟩
    rw [updI_swap] at h
    exact h
  | trans _ _ ih1 ih2 => intro b h; exact ih2 b (ih1 b h)
/-- Two rolls change their names. -/
def trn (p q i : Nat) : Nat := if i = p then q else if i = q then p else i
theorem trn_lt {p q i n : Nat} (hp : p < n) (hq : q < n) (h : i < n) : trn p q i < n := by unfold trn; split <;> (try split) <;> omega
theorem trn_trn (p q i : Nat) : trn p q (trn p q i) = i := by
  unfold trn
  by_cases e1 : i = p <;> by_cases e2 : i = q <;> by_cases e3 : p = q <;> simp_all
theorem parts_trn {n : Nat} {m : Int} {p q : Nat} (hp : p < n) (hq : q < n) : ∀ (l : List Int) (b : Nat → Int), Parts n m l b → Parts n m l (fun i => b (trn p q i))
  | [], b, h => fun i hi => h _ (trn_lt hp hq hi)
  | s :: l, b, ⟨a, ha, h⟩ => by
    refine ⟨trn p q a, trn_lt hp hq ha, ?_⟩
    have := parts_trn hp hq l _ h
    have e : (fun i => updI b a (b a + s) (trn p q i)) = updI (fun i => b (trn p q i)) (trn p q a) (b (trn p q (trn p q a)) + s) := by
      funext i
      unfold updI
      rw [trn_trn]
      by_cases e : i = trn p q a
      · rw [if_pos e, if_pos (by rw [e, trn_trn])]
      · rw [if_neg e, if_neg (fun g => e (by rw [← g, trn_trn]))]
    rw [e] at this
    exact this
/-- The search finds a place for all pieces just where there is one. -/
theorem pkF_iff {n : Nat} {m : Int} : ∀ (l : List Int) (c : Nat) (b : Nat → Int), (∀ s, s ∈ l → 0 ≤ s) → (∀ i, c ≤ i → b i = 0) → (∀ i, i < n → b i ≤ m) → (pkF n m l c b = true ↔ Parts n m l b)
  | [], c, b, h0, hc, hm => by
    unfold pkF Parts
    exact ⟨fun _ => hm, fun _ => rfl⟩
  | s :: l, c, b, h0, hc, hm => by
    have hl : ∀ x, x ∈ l → 0 ≤ x := fun x hx => h0 x (List.mem_cons_of_mem _ hx)
    have step : ∀ k, k < n → k ≤ c → b k + s ≤ m → (pkF n m l (if k = c then c + 1 else c) (updI b k (b k + s)) = true ↔ Parts n m l (updI b k (b k + s))) := fun k hk hkc hs => by
      refine pkF_iff l _ _ hl (fun i hi => ?_) (fun i hi => ?_)
      · have : i ≠ k := by split at hi <;> omega
        rw [updI_other _ _ this]
        exact hc i (by split at hi <;> omega)
      · by_cases e : i = k
        · subst e; rw [updI_same]; exact hs
        · rw [updI_other _ _ e]; exact hm i hi
    rw [pkF, Parts, List.any_eq_true]
    constructor
    · rintro ⟨k, hk, h⟩
      rw [List.mem_range] at hk
      rw [Bool.and_eq_true, decide_eq_true_eq] at h
      exact ⟨k, by omega, (step k (by omega) (by omega) h.1).1 h.2⟩
    · rintro ⟨a, ha, h⟩
      obtain ⟨k, hk, hkc, hp⟩ : ∃ k, k < n ∧ k ≤ c ∧ Parts n m l (updI b k (b k + s)) := by
        by_cases e : a ≤ c
        · exact ⟨a, ha, e, h⟩
        · refine ⟨c, by omega, by omega, ?_⟩
          have := parts_trn (p := a) (q := c) ha (by omega) l _ h
          have e2 : (fun i => updI b a (b a + s) (trn a c i)) = updI b c (b c + s) := by
            funext i
            have ba := hc a (by omega)
            have bc := hc c (by omega)
            unfold updI trn
            by_cases e1 : i = a <;> by_cases e3 : i = c <;> simp_all <;> omega
          rw [e2] at this
          exact this
      have hfit := parts_fits l _ hl hp k hk
      rw [updI_same] at hfit
      refine ⟨k, by rw [List.mem_range]; omega, ?_⟩
      rw [Bool.and_eq_true, decide_eq_true_eq]
      exact ⟨hfit, (step k hk hkc hfit).2 hp⟩
theorem runS_ge {m : Int} : ∀ (l : List Int) (a : Int × Int), a.1 ≤ (runS m a l).1
  | [], a => Int.le_refl _
  | s :: l, a => by
    rw [runS]
    have ih := runS_ge l (withS a s m) (m := m)
    have : a.1 ≤ (withS a s m).1 := by
      unfold withS
      split
      · exact Int.le_refl _
      · show a.1 ≤ a.1 + 1; omega
    omega
/-- An order that runs into n rolls places all pieces. -/
theorem parts_run {n : Nat} {m : Int} : ∀ (l : List Int) (r : Nat) (t : Int) (b : Nat → Int), (∀ s, s ∈ l → 0 < s ∧ s ≤ m) → (∀ i, r ≤ i → b i = 0) → (∀ i, i < n → b i ≤ m) → (0 < r → b (r - 1) ≤ t) → (r = 0 → t = m) → (runS m ((r : Int), t) l).1 ≤ n → Parts n m l b
  | [], r, t, b, _, _, hm, _, _, _ => hm
  | s :: l, r, t, b, hs, h0, hm, hr, hz, h => by
    obtain ⟨s0, s1⟩ := hs s List.mem_cons_self
    have hl : ∀ x, x ∈ l → 0 < x ∧ x ≤ m := fun x hx => hs x (List.mem_cons_of_mem _ hx)
    have hge := runS_ge l (withS ((r : Int), t) s m) (m := m)
    rw [runS] at h
    by_cases e : t + s ≤ m
    · have hrp : 0 < r := by
        rcases Nat.eq_zero_or_pos r with g | g
        · have := hz g; omega
        · exact g
      have hw : withS ((r : Int), t) s m = ((r : Int), t + s) := by unfold withS; rw [if_pos e]
      rw [hw] at h hge
      simp only [] at hge
      have hrn : r - 1 < n := by omega
      refine ⟨r - 1, hrn, parts_run l r (t + s) _ hl (fun i hi => ?_) (fun i hi => ?_) (fun _ => ?_) (fun g => by omega) h⟩
      · rw [updI_other _ _ (by omega)]; exact h0 i hi
      · by_cases e1 : i = r - 1
        · subst e1; rw [updI_same]; have := hr hrp; omega
        · rw [updI_other _ _ e1]; exact hm i hi
      · rw [updI_same]; have := hr hrp; omega
    · have hw : withS ((r : Int), t) s m = (((r + 1 : Nat) : Int), s) := by unfold withS; rw [if_neg e]; push_cast; rfl
      rw [hw] at h hge
      simp only [] at hge
      have hrn : r < n := by omega
      refine ⟨r, hrn, parts_run l (r + 1) s _ hl (fun i hi => ?_) (fun i hi => ?_) (fun _ => ?_) (fun g => by omega) h⟩
      · rw [updI_other _ _ (by omega)]; exact h0 i (by omega)
      · by_cases e1 : i = r
        · subst e1; rw [updI_same, h0 _ (by omega)]; omega
        · rw [updI_other _ _ e1]; exact hm i hi
      · rw [Nat.add_sub_cancel, updI_same, h0 _ (by omega)]; omega
/-- The pieces of the first n rolls, roll by roll. -/
def catR (R : Nat → List Int) : Nat → List Int
  | 0 => []
  | n + 1 => catR R n ++ R n
def updR (R : Nat → List Int) (k : Nat) (x : List Int) : Nat → List Int := fun i => if i = k then x else R i
theorem catR_out (R : Nat → List Int) (k : Nat) (x : List Int) : ∀ n, n ≤ k → catR (updR R k x) n = catR R n
  | 0, _ => rfl
  | n + 1, h => by
    rw [catR, catR, catR_out R k x n (by omega)]
    show _ ++ updR R k x n = _
    unfold updR; rw [if_neg (by omega)]
theorem catR_in (R : Nat → List Int) (k : Nat) (s : Int) : ∀ n, k < n → (catR (updR R k (s :: R k)) n).Perm (s :: catR R n)
  | 0, h => by omega
  | n + 1, h => by
    rw [catR, catR]
    by_cases e : k = n
    · subst e
      rw [catR_out R k _ k (Nat.le_refl _)]
      have : updR R k (s :: R k) k = s :: R k := by unfold updR; rw [if_pos rfl]
      rw [this]
      exact List.perm_middle
    · have : updR R k (s :: R k) n = R n := by unfold updR; rw [if_neg (by omega)]
      rw [this]
      exact (catR_in R k s n (by omega)).append_right _
theorem groups_of {n : Nat} {m : Int} : ∀ (l : List Int) (b : Nat → Int), Parts n m l b → ∃ R, (catR R n).Perm l ∧ ∀ i, i < n → b i + (R i).sum ≤ m
  | [], b, h => ⟨fun _ => [], by
      have : ∀ n, catR (fun _ => []) n = [] := fun n => by
        induction n with
        | zero => rfl
        | succ n ih => rw [catR, ih]; rfl
      rw [this], fun i hi => by have := h i hi; simpa using this⟩
  | s :: l, b, ⟨a, ha, h⟩ => by
    obtain ⟨R, h1, h2⟩ := groups_of l _ h
    refine ⟨updR R a (s :: R a), (catR_in R a s n ha).trans (h1.cons s), fun i hi => ?_⟩
    have := h2 i hi
    by_cases e : i = a
    · subst e
      rw [updI_same] at this
      have e2 : updR R i (s :: R i) i = s :: R i := by unfold updR; rw [if_pos rfl]
      rw [e2, List.sum_cons]; omega
    · rw [updI_other _ _ e] at this
      have e2 : updR R a (s :: R a) i = R i := by unfold updR; rw [if_neg e]
      rw [e2]; exact this
theorem sum_nn : ∀ (l : List Int), (∀ s, s ∈ l → 0 < s) → 0 ≤ l.sum
  | [], _ => by simp
  | s :: l, h => by
    have := sum_nn l fun x hx => h x (List.mem_cons_of_mem _ hx)
    have := h s List.mem_cons_self
    rw [List.sum_cons]; omega
theorem run_fit {m : Int} : ∀ (l : List Int) (j t : Int), (∀ s, s ∈ l → 0 < s) → t + l.sum ≤ m → runS m (j, t) l = (j, t + l.sum)
  | [], j, t, _, _ => by rw [runS]; simp
  | s :: l, j, t, h, hs => by
    rw [List.sum_cons] at hs ⊢
    have hl : ∀ x, x ∈ l → 0 < x := fun x hx => h x (List.mem_cons_of_mem _ hx)
    have hn := sum_nn l hl
    have hw : withS (j, t) s m = (j, t + s) := by unfold withS; rw [if_pos (by show t + s ≤ m; omega)]
    rw [runS, hw, run_fit l j (t + s) hl (by omega)]
    congr 1; omega
/-- Roll by roll no more rolls are begun than there are. -/
theorem run_cat {m : Int} (hm : 0 ≤ m) (R : Nat → List Int) (n : Nat) (hp : ∀ i, i < n → (R i).sum ≤ m ∧ ∀ s, s ∈ R i → 0 < s) : ∀ j, j ≤ n → leS (runS m (0, m) (catR R j)) ((j : Int), m)
  | 0, _ => leS_refl _
  | j + 1, hj => by
    obtain ⟨h1, h2⟩ := hp j (by omega)
    have ih := run_cat hm R n hp j (by omega)
    rw [catR, runS_app]
    refine leS_trans (runS_mono (R j) (fun s hs => by have := h2 s hs; omega) (by exact hm) ih) ?_
    cases e : R j with
    | nil => rw [runS]; left; show (j : Int) < ((j + 1 : Nat) : Int); omega
    | cons s l =>
      rw [e] at h1 h2
      have s0 := h2 s List.mem_cons_self
      rw [List.sum_cons] at h1
      have hw : withS ((j : Int), m) s m = ((j : Int) + 1, s) := by unfold withS; rw [if_neg (by show ¬ m + s ≤ m; omega)]
      rw [runS, hw, run_fit l _ s (fun x hx => h2 x (List.mem_cons_of_mem _ hx)) h1]
      right
      exact ⟨by push_cast; rfl, h1⟩
theorem mem_catR {R : Nat → List Int} {i : Nat} {s : Int} : ∀ n, i < n → s ∈ R i → s ∈ catR R n
  | 0, h, _ => by omega
  | n + 1, h, hs => by
    rw [catR, List.mem_append]
    by_cases e : i = n
    · subst e; exact .inr hs
    · exact .inl (mem_catR n (by omega) hs)
/-- The pieces have a place in n rolls just where some order of them runs into n. -/
theorem parts_iff {n : Nat} {m : Int} (hm : 0 ≤ m) {l : List Int} (hl : ∀ s, s ∈ l → 0 < s ∧ s ≤ m) : Parts n m l (fun _ => 0) ↔ ∃ l', l'.Perm l ∧ (runS m (0, m) l').1 ≤ n := by
  constructor
  · intro h
    obtain ⟨R, h1, h2⟩ := groups_of l _ h
    refine ⟨catR R n, h1, ?_⟩
    have := run_cat hm R n (fun i hi => ⟨by have := h2 i hi; omega, fun s hs => (hl s (h1.mem_iff.1 (mem_catR n hi hs))).1⟩) n (Nat.le_refl _)
    exact leS_rolls this
  · rintro ⟨l', hp, h⟩
    refine parts_perm hp _ (parts_run l' 0 m _ (fun s hs => hl s (hp.mem_iff.1 hs)) (fun _ _ => rfl) (fun _ _ => hm) (fun g => by omega) (fun _ => rfl) h)
theorem map_perm {f : Nat → Int} {a b : List Int} (h : a.Perm b) : ∀ r : List Nat, a = r.map f → ∃ r' : List Nat, r'.Perm r ∧ b = r'.map f := by
  induction h with
  | nil => intro r hr; exact ⟨r, .refl _, hr⟩
  | cons x _ ih =>
    intro r hr
    cases r with
    | nil => simp at hr
    | cons y r =>
      rw [List.map_cons, List.cons.injEq] at hr
      obtain ⟨r', h1, h2⟩ := ih r hr.2
      exact ⟨y :: r', h1.cons y, by rw [List.map_cons, ← h2, hr.1]⟩
  | swap x y l =>
    intro r hr
    cases r with
    | nil => simp at hr
    | cons p r =>
      cases r with
      | nil => simp at hr
      | cons q r =>
        simp only [List.map_cons, List.cons.injEq] at hr
        exact ⟨q :: p :: r, .swap p q r, by rw [List.map_cons, List.map_cons, ← hr.1, ← hr.2.1, ← hr.2.2]⟩
  | trans _ _ ih1 ih2 =>
    intro r hr
    obtain ⟨r1, h1, h2⟩ := ih1 r hr
    obtain ⟨r2, h3, h4⟩ := ih2 r1 h2
    exact ⟨r2, h3.trans h1, h4⟩
theorem map_gi (q : List Int) : (List.range q.length).map (gi q) = q := by
  refine List.ext_getElem (by simp) fun i h1 h2 => ?_
  rw [List.getElem_map, List.getElem_range]
  unfold gi
  rw [List.getD_eq_getElem?_getD, List.getElem?_eq_getElem h2]; rfl
/-- The search says yes just from the table's number of rolls on. -/
theorem pk_table {q l : List Int} {m : Int} (h10 : q.length ≤ 10) (hm : 0 ≤ m) (hq : ∀ s, s ∈ q → 0 < s ∧ s ≤ m) (hp : l.Perm q) (n : Nat) : pkF n m l 0 (fun _ => 0) = true ↔ (tabS q m (2 ^ q.length - 1) (2 ^ q.length - 1)).1 ≤ n := by
  have hl : ∀ s, s ∈ l → 0 < s ∧ s ≤ m := fun s hs => hq s (hp.mem_iff.1 hs)
  rw [pkF_iff l 0 _ (fun s hs => Int.le_of_lt (hl s hs).1) (fun _ _ => rfl) (fun _ _ => hm), parts_iff hm hl]
  have hS : 2 ^ q.length - 1 < 2 ^ q.length := by have := Nat.two_pow_pos q.length; omega
  constructor
  · rintro ⟨l', h1, h2⟩
    obtain ⟨r, h3, h4⟩ := map_perm (f := gi q) (h1.trans hp).symm (List.range q.length) (map_gi q).symm
    have := tab_least h10 hm (fun j => by
      by_cases e : j < q.length
      · exact Int.le_of_lt (hq _ (by unfold gi; rw [List.getD_eq_getElem?_getD, List.getElem?_eq_getElem e]; exact List.getElem_mem e)).1
      · unfold gi; rw [List.getD_eq_getElem?_getD, List.getElem?_eq_none (by omega)]; exact Int.le_refl _) r.length r rfl _ hS (ordS_full.2 h3)
    rw [← h4] at this
    have := leS_rolls this
    omega
  · intro h
    obtain ⟨r, h1, h2⟩ := tab_order (m := m) h10 _ hS
    refine ⟨r.map (gi q), ?_, by rw [← h2]; exact h⟩
    have := (ordS_full.1 h1).map (gi q)
    rw [map_gi] at this
    exact this.trans hp.symm
end Go.Proofs.Ytmeoekcajmgiaaa
