/-
  Plain mathematics of a road: stretches carried there and back, by steps and at once. By an AI agent.
-/
import Derived.Test.YtdiabpcpcilclaaRoadTm
namespace Go.Proofs.Ytdiabpcpcilclaa
set_option linter.unusedVariables false
set_option linter.unusedSimpArgs false
/-- Stretches on the way from one version to another one. -/
def wayQ (l : List Chg) (q : List Spn) (u w : Nat) : List Spn := keptQ (swK l u w) q (dst u w)
/-- A metre on this way. -/
def wayM (l : List Chg) (m : Int) (u w : Nat) : Option Int := metK (swK l u w) m (dst u w)
theorem sw_nn {N L : Int} {l : List Chg} (h : RoadOk N L l) {u w : Nat} (hu : u ≤ l.length) (hw : w ≤ l.length) : ∀ j, j < dst u w → 0 ≤ (swK l u w j).2.1 ∧ 0 ≤ (swK l u w j).2.2 := fun j hj => by
  obtain ⟨⟨_, a, _⟩, ⟨b, _⟩, _⟩ := sw_ok h hu hw hj
  exact ⟨a, b⟩
theorem way_mv {N L : Int} {l : List Chg} (h : RoadOk N L l) {u w : Nat} (hu : u ≤ l.length) (hw : w ≤ l.length) (q : List Spn) (x : Int) : InL (wayQ l q u w) x ↔ ∃ m, InL q m ∧ wayM l m u w = some x :=
  keptQ_mv q _ (fun j hj => (sw_nn h hu hw j hj).1) x
theorem dst_symm (u w : Nat) : dst w u = dst u w := by unfold dst; omega
theorem way_back {N L : Int} {l : List Chg} (h : RoadOk N L l) {u w : Nat} (hu : u ≤ l.length) (hw : w ≤ l.length) (m x : Int) : wayM l m u w = some x ↔ wayM l x w u = some m := by
  unfold wayM
  rw [dst_symm u w]
  exact metK_inv _ _ _ (sw_nn h hu hw) (fun j hj => sw_back l u w hj) m x
theorem way_split (l : List Chg) {u v w : Nat} (h : (u ≤ v ∧ v ≤ w) ∨ (w ≤ v ∧ v ≤ u)) (m : Int) : wayM l m u w = (wayM l m u v).bind fun x => wayM l x v w := by
  obtain ⟨h1, h2, h3⟩ := sw_split l h
  unfold wayM
  rw [h1, metK_add, metK_congr _ h2]
  cases metK (swK l u v) m (dst u v) with
  | none => rfl
  | some x => exact metK_congr _ h3
theorem car_split (l : List Chg) {u v w : Nat} (h : (u ≤ v ∧ v ≤ w) ∨ (w ≤ v ∧ v ≤ u)) (c : Int) : carK (swK l u w) c (dst u w) = (carK (swK l u v) c (dst u v)).bind fun x => carK (swK l v w) x (dst v w) := by
  obtain ⟨h1, h2, h3⟩ := sw_split l h
  rw [h1, carK_add, carK_cong _ h2]
  cases carK (swK l u v) c (dst u v) with
  | none => rfl
  | some x => exact carK_cong _ h3
theorem keptQ_in {len : Nat → Int} {f : Nat → Sw} {n : Nat} (h : ∀ j, j < n → swOk (len j) (len (j + 1)) (f j)) {q : List Spn} (hp : InV (len 0) q) : ∀ k, k ≤ n → InV (len k) (keptQ f q k)
  | 0, _ => hp
  | k + 1, hk => stepL_in (h k (by omega)) (keptQ_in h hp k (by omega))
theorem way_in {N L : Int} {l : List Chg} (h : RoadOk N L l) {u w : Nat} (hu : u ≤ l.length) (hw : w ≤ l.length) {q : List Spn} (hq : InV (lenK L l u) q) : InV (lenK L l w) (wayQ l q u w) := by
  have := keptQ_in (len := fun j => lenK L l (posK u w j)) (f := swK l u w) (n := dst u w) (fun j hj => sw_ok h hu hw hj) (q := q) (by rw [pos_0]; exact hq) (dst u w) (Nat.le_refl _)
  rw [pos_end] at this
  exact this
theorem way_asc {N L : Int} {l : List Chg} (h : RoadOk N L l) {u w : Nat} (hu : u ≤ l.length) (hw : w ≤ l.length) {q : List Spn} (hq : Asc0 q) : Asc0 (wayQ l q u w) ∧ (wayQ l q u w).length ≤ q.length + dst u w :=
  keptQ_asc hq _ (sw_nn h hu hw)
theorem empty_of {c : List Spn} (hV : AllV c) (h : ∀ m, ¬ InL c m) : c = [] := by
  cases c with
  | nil => rfl
  | cons p c => exact absurd (inL_cons.2 (.inl ⟨Int.le_refl _, hV p (by simp)⟩)) (h p.1)
theorem inV_mono {a b : Int} (h : a ≤ b) {q : List Spn} (hq : InV a q) : InV b q := fun p hp => by have := hq p hp; omega
theorem inL_bd {M : Int} {q : List Spn} (h : InV M q) {m : Int} (hm : InL q m) : 0 ≤ m ∧ m < M := by
  obtain ⟨p, hp, a, b⟩ := hm
  have := h p hp
  omega
/-- The metres of a version that are left. -/
def gS (L : Int) (l : List Chg) (u w : Nat) : Int := if lenK L l u = 0 then 0 else sumL (canL (wayQ l [(0, lenK L l u)] u w))
theorem whole_in {n : Int} (h : 0 ≤ n) : InV n [(0, n)] := fun p hp => by simp at hp; subst hp; simp only []; omega
theorem gS_eq {N L : Int} {l : List Chg} (h : RoadOk N L l) {u w : Nat} (hu : u ≤ l.length) (hw : w ≤ l.length) : gS L l u w = gS L l w u := by
  obtain ⟨u0, u1⟩ := len_bd h u hu
  obtain ⟨w0, w1⟩ := len_bd h w hw
  have iu := way_in h hu hw (whole_in u0)
  have iw := way_in h hw hu (whole_in w0)
  have mu := fun x => way_mv h hu hw [(0, lenK L l u)] x
  have mw := fun x => way_mv h hw hu [(0, lenK L l w)] x
  unfold gS
  by_cases eu : lenK L l u = 0
  · rw [if_pos eu]
    by_cases ew : lenK L l w = 0
    · rw [if_pos ew]
    · rw [if_neg ew]
      have hV := (way_asc h hw hu (asc_one (p := (0, lenK L l w)) (by simp only []; omega))).1.2
      have : wayQ l [(0, lenK L l w)] w u = [] := empty_of hV fun m hm => by have := inL_bd iw hm; omega
      rw [this]; rfl
  · rw [if_neg eu]
    have au := way_asc h hu hw (asc_one (p := (0, lenK L l u)) (by simp only []; omega))
    by_cases ew : lenK L l w = 0
    · rw [if_pos ew]
      have : wayQ l [(0, lenK L l u)] u w = [] := empty_of au.1.2 fun m hm => by have := inL_bd iu hm; omega
      rw [this]; rfl
    · rw [if_neg ew]
      have aw := way_asc h hw hu (asc_one (p := (0, lenK L l w)) (by simp only []; omega))
      -- what came back goes there again without loss
      have hs : ∀ m, InL (wayQ l [(0, lenK L l w)] w u) m → wayM l m u w ≠ none := fun m hm => by
        obtain ⟨x, hx, e⟩ := (mw m).1 hm
        rw [(way_back h hu hw m x).2 e]; simp
      obtain ⟨q1, q2⟩ := keptQ_all aw.1.2 (n := dst u w) hs (dst u w) (Nat.le_refl _) (sw_nn h hu hw)
      have aq := way_asc h hu hw aw.1
      have e : canL (wayQ l [(0, lenK L l u)] u w) = canL (wayQ l (wayQ l [(0, lenK L l w)] w u) u w) := by
        refine canon_unique (canL_ok au.1.2).1 (canL_ok aq.1.2).1 fun x => ?_
        rw [(canL_ok au.1.2).2.1, (canL_ok aq.1.2).2.1, mu, way_mv h hu hw]
        constructor
        · rintro ⟨m, hm, e⟩
          refine ⟨m, (mw m).2 ⟨x, ?_, (way_back h hu hw m x).1 e⟩, e⟩
          have := inL_bd iu ((mu x).2 ⟨m, hm, e⟩)
          exact inL_one.2 ⟨this.1, this.2⟩
        · rintro ⟨m, hm, e⟩
          refine ⟨m, ?_, e⟩
          have := inL_bd iw hm
          exact inL_one.2 ⟨this.1, this.2⟩
      rw [e, can_sum aq.1, can_sum aw.1]
      exact q1
theorem gS_bd {N L : Int} {l : List Chg} (h : RoadOk N L l) {u w : Nat} (hu : u ≤ l.length) (hw : w ≤ l.length) : 0 ≤ gS L l u w ∧ gS L l u w ≤ lenK L l u := by
  obtain ⟨u0, u1⟩ := len_bd h u hu
  unfold gS
  by_cases eu : lenK L l u = 0
  · rw [if_pos eu]; omega
  · rw [if_neg eu]
    have au := way_asc h hu hw (asc_one (p := (0, lenK L l u)) (by simp only []; omega))
    rw [can_sum au.1]
    have h1 := keptK_sum (len := fun j => lenK L l (posK u w j)) (f := swK l u w) (n := dst u w) (fun j hj => sw_ok h hu hw hj) (p := (0, lenK L l u)) (by simp only [pos_0]; omega) (dst u w) (Nat.le_refl _)
    rw [keptK_Q] at h1
    have h2 := sum_nonneg (q := wayQ l [(0, lenK L l u)] u w) fun p hp => Int.le_of_lt (au.1.2 p hp)
    simp only [Int.sub_zero] at h1
    exact ⟨h2, h1⟩

/-- What is left of some stretches, one after the other. -/
def allQ (l : List Chg) (q : List Spn) (u w : Nat) : List Spn := q.flatMap fun p => canL (wayQ l [p] u w)
theorem allQ_ok {N L : Int} {l : List Chg} (h : RoadOk N L l) {u w : Nat} (hu : u ≤ l.length) (hw : w ≤ l.length) : ∀ {q : List Spn}, AllV q → InV (lenK L l u) q → AllV (allQ l q u w) ∧ InV (lenK L l w) (allQ l q u w) ∧ (∀ x, InL (allQ l q u w) x ↔ ∃ m, InL q m ∧ wayM l m u w = some x) ∧ (allQ l q u w).length ≤ q.length * (dst u w + 1)
  | [], _, _ => ⟨(fun p hp => by cases hp), (fun p hp => by cases hp), (fun x => ⟨fun h => absurd h (inL_nil x), fun ⟨m, h, _⟩ => absurd h (inL_nil m)⟩), by simp [allQ]⟩
  | p :: q, hV, hI => by
    obtain ⟨h1, h2, h3, h4⟩ := allQ_ok h hu hw (q := q) (fun r hr => hV r (List.mem_cons_of_mem _ hr)) fun r hr => hI r (List.mem_cons_of_mem _ hr)
    have e : allQ l (p :: q) u w = canL (wayQ l [p] u w) ++ allQ l q u w := by simp [allQ]
    have ap := way_asc h hu hw (asc_one (hV p (by simp)))
    have ip := way_in h hu hw (q := [p]) fun r hr => by simp at hr; subst hr; exact hI _ (by simp)
    obtain ⟨c1, c2, c3⟩ := canL_ok ap.1.2
    rw [e]
    refine ⟨allV_app.2 ⟨c1.2, h1⟩, fun r hr => ?_, fun x => ?_, ?_⟩
    · rcases List.mem_append.1 hr with hr | hr
      · exact inV_canL ip ap.1.2 r hr
      · exact h2 r hr
    · rw [inL_app, c2, way_mv h hu hw, h3]
      constructor
      · rintro (⟨m, a, b⟩ | ⟨m, a, b⟩)
        · exact ⟨m, inL_cons.2 (.inl (inL_one.1 a)), b⟩
        · exact ⟨m, inL_cons.2 (.inr a), b⟩
      · rintro ⟨m, a, b⟩
        rcases inL_cons.1 a with a | a
        · exact .inl ⟨m, inL_one.2 a, b⟩
        · exact .inr ⟨m, a, b⟩
    · have := ap.2
      rw [List.length_append, List.length_cons, Nat.succ_mul]
      simp only [List.length_cons, List.length_nil] at this
      omega
/-- By way of a version between. -/
theorem by_steps {N L : Int} {l : List Chg} (h : RoadOk N L l) {u v w : Nat} (hu : u ≤ l.length) (hv : v ≤ l.length) (hw : w ≤ l.length) (hb : (u ≤ v ∧ v ≤ w) ∨ (w ≤ v ∧ v ≤ u)) {s : Spn} (hs : s.1 < s.2) (hI : 0 ≤ s.1 ∧ s.2 ≤ lenK L l u) : canL (allQ l (canL (wayQ l [s] u v)) v w) = canL (wayQ l [s] u w) := by
  have hi : InV (lenK L l u) [s] := fun r hr => by simp at hr; subst hr; omega
  have av := way_asc h hu hv (asc_one hs)
  have aw := way_asc h hu hw (asc_one hs)
  obtain ⟨c1, c2, c3⟩ := canL_ok av.1.2
  obtain ⟨q1, q2, q3, q4⟩ := allQ_ok h hv hw c1.2 (inV_canL (way_in h hu hv hi) av.1.2)
  refine canon_unique (canL_ok q1).1 (canL_ok aw.1.2).1 fun x => ?_
  rw [(canL_ok q1).2.1, (canL_ok aw.1.2).2.1, q3, way_mv h hu hw]
  constructor
  · rintro ⟨m, hm, e⟩
    rw [c2, way_mv h hu hv] at hm
    obtain ⟨y, hy, e2⟩ := hm
    exact ⟨y, hy, by rw [way_split l hb, e2]; exact e⟩
  · rintro ⟨y, hy, e⟩
    rw [way_split l hb] at e
    cases e2 : wayM l y u v with
    | none => rw [e2] at e; cases e
    | some m =>
      rw [e2] at e
      exact ⟨m, (c2 m).2 ((way_mv h hu hv [s] m).2 ⟨y, hy, e2⟩), e⟩
/-- There and back. -/
theorem there_back {N L : Int} {l : List Chg} (h : RoadOk N L l) {u w : Nat} (hu : u ≤ l.length) (hw : w ≤ l.length) {s : Spn} (hs : s.1 < s.2) (hI : 0 ≤ s.1 ∧ s.2 ≤ lenK L l u) : (∀ m, InL (canL (allQ l (canL (wayQ l [s] u w)) w u)) m → s.1 ≤ m ∧ m < s.2) ∧ sumL (canL (allQ l (canL (wayQ l [s] u w)) w u)) = sumL (canL (wayQ l [s] u w)) ∧ 0 ≤ sumL (canL (wayQ l [s] u w)) ∧ sumL (canL (wayQ l [s] u w)) ≤ s.2 - s.1 := by
  have hi : InV (lenK L l u) [s] := fun r hr => by simp at hr; subst hr; omega
  have aw := way_asc h hu hw (asc_one hs)
  obtain ⟨c1, c2, c3⟩ := canL_ok aw.1.2
  obtain ⟨q1, q2, q3, q4⟩ := allQ_ok h hw hu c1.2 (inV_canL (way_in h hu hw hi) aw.1.2)
  obtain ⟨d1, d2, d3⟩ := canL_ok q1
  have ab := way_asc h hw hu (canon_asc c1)
  have hsv : ∀ m, InL (canL (wayQ l [s] u w)) m → wayM l m w u ≠ none := fun m hm => by
    rw [c2, way_mv h hu hw] at hm
    obtain ⟨y, hy, e⟩ := hm
    rw [(way_back h hu hw y m).1 e]; simp
  obtain ⟨k1, k2⟩ := keptQ_all c1.2 (n := dst w u) hsv (dst w u) (Nat.le_refl _) (sw_nn h hw hu)
  refine ⟨fun m hm => ?_, ?_, ?_, ?_⟩
  · rw [d2, q3] at hm
    obtain ⟨x, hx, e⟩ := hm
    rw [c2, way_mv h hu hw] at hx
    obtain ⟨y, hy, e2⟩ := hx
    rw [(way_back h hu hw y x).1 e2] at e
    cases e
    exact inL_one.1 hy
  · have e : canL (allQ l (canL (wayQ l [s] u w)) w u) = canL (wayQ l (canL (wayQ l [s] u w)) w u) := by
      refine canon_unique d1 (canL_ok ab.1.2).1 fun x => ?_
      rw [d2, (canL_ok ab.1.2).2.1, q3, way_mv h hw hu]
    rw [e, can_sum ab.1]
    exact k1
  · exact sum_nonneg fun p hp => Int.le_of_lt (c1.2 p hp)
  · rw [can_sum aw.1]
    have h1 := keptK_sum (len := fun j => lenK L l (posK u w j)) (f := swK l u w) (n := dst u w) (fun j hj => sw_ok h hu hw hj) (p := s) (by simp only [pos_0]; omega) (dst u w) (Nat.le_refl _)
    rw [keptK_Q] at h1
    exact h1
end Go.Proofs.Ytdiabpcpcilclaa
