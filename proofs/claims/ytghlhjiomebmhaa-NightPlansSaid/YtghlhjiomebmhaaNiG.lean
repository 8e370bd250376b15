/-
  How package night finds a night for a job, as functions over lists: the search by moving others. By an AI agent.
-/
import Derived.Test.YtghlhjiomebmhaaNiF
namespace Go.Proofs.Ytghlhjiomebmhaa
set_option linter.unusedVariables false
set_option linter.unusedSimpArgs false
open Go.RowKit

/-- What a search leaves: whether it found a place, the plan, the nights that were tried. -/
abbrev Srch := Bool × List Int × (Int → Bool)
/-- The jobs from k on (m of them): one of them that has the night n goes elsewhere. -/
def vacL (F : Nat → List Int → (Int → Bool) → Srch) (n : Int) : Nat → Nat → List Int → (Int → Bool) → Srch
  | 0, _, pl, tr => (false, pl, tr)
  | m + 1, k, pl, tr =>
    if gi pl k = n then
      (if (F k pl tr).1 = true then (true, (F k pl tr).2.1, (F k pl tr).2.2) else vacL F n m (k + 1) (F k pl tr).2.1 (F k pl tr).2.2)
    else vacL F n m (k + 1) pl tr
/-- A place in the night n. -/
def vacF (F : Nat → List Int → (Int → Bool) → Srch) (P : List Int) (fr : Nat) (n : Int) (pl : List Int) (tr : Int → Bool) : Srch :=
  if cntN pl n < gi P n.toNat then (true, pl, tr) else vacL F n (pl.length - fr) fr pl tr
/-- The first of some nights in which a job finds a place. -/
def plcL (V : Int → List Int → (Int → Bool) → Srch) (job : Nat) : List Int → List Int → (Int → Bool) → Srch
  | [], pl, tr => (false, pl, tr)
  | n :: r, pl, tr =>
    if tr n = true then plcL V job r pl tr
    else if (V n pl (setAt tr n true)).1 = true then (true, (V n pl (setAt tr n true)).2.1.set job n, (V n pl (setAt tr n true)).2.2)
    else plcL V job r (V n pl (setAt tr n true)).2.1 (V n pl (setAt tr n true)).2.2
/-- The search for a job, d deep at most. -/
def plF (C : List (List Int)) (P : List Int) (fr : Nat) : Nat → Nat → List Int → (Int → Bool) → Srch
  | 0, _, pl, tr => (false, pl, tr)
  | d + 1, job, pl, tr => plcL (vacF (plF C P fr d) P fr) job (gr C job) pl tr

/-- How many of the first N nights were not tried. -/
def untr (tr : Int → Bool) : Nat → Nat
  | 0 => 0
  | k + 1 => untr tr k + (if tr k = true then 0 else 1)
theorem untr_mono {tr tr' : Int → Bool} (h : ∀ x, tr x = true → tr' x = true) : ∀ N, untr tr' N ≤ untr tr N
  | 0 => Nat.le_refl _
  | k + 1 => by
    have := untr_mono h k
    unfold untr
    by_cases e : tr k = true
    · rw [if_pos e, if_pos (h _ e)]; omega
    · rw [if_neg e]; split <;> omega
theorem untr_set_ge {tr : Int → Bool} {n : Nat} : ∀ N, N ≤ n → untr (setAt tr n true) N = untr tr N
  | 0, _ => rfl
  | k + 1, h => by
    have := untr_set_ge (tr := tr) (n := n) k (by omega)
    have e : setAt tr (n : Int) true (k : Int) = tr k := by unfold setAt; rw [if_neg (by omega)]
    unfold untr
    rw [this, e]
theorem untr_set {tr : Int → Bool} {n : Nat} (ht : tr n = false) : ∀ N, n < N → untr (setAt tr n true) N + 1 = untr tr N
  | 0, h => by omega
  | k + 1, h => by
    by_cases e : n = k
    · subst e
      have h1 := untr_set_ge (tr := tr) (n := n) n (Nat.le_refl _)
      have e : setAt tr (n : Int) true (n : Int) = true := by unfold setAt; rw [if_pos rfl]
      unfold untr
      rw [h1, e, ht]
      simp
    · have h1 := untr_set ht k (by omega)
      have e : setAt tr (n : Int) true (k : Int) = tr k := by unfold setAt; rw [if_neg (by omega)]
      unfold untr
      rw [e]
      omega
theorem setAt_mono (tr : Int → Bool) (n : Int) : ∀ x, tr x = true → setAt tr n true x = true := by
  intro x h
  unfold setAt
  split
  · rfl
  · exact h
/-- A search keeps the length of the plan, and what was tried stays so. -/
def Keeps (F : List Int → (Int → Bool) → Srch) : Prop := ∀ pl tr, (F pl tr).2.1.length = pl.length ∧ ∀ x, tr x = true → (F pl tr).2.2 x = true
theorem vacL_keeps {F : Nat → List Int → (Int → Bool) → Srch} (hF : ∀ k, Keeps (F k)) (n : Int) : ∀ m k, Keeps (vacL F n m k)
  | 0, k => fun pl tr => ⟨rfl, fun x h => h⟩
  | m + 1, k => fun pl tr => by
    have h1 := hF k pl tr
    unfold vacL
    by_cases e : gi pl k = n
    · rw [if_pos e]
      by_cases e2 : (F k pl tr).1 = true
      · rw [if_pos e2]; exact h1
      · rw [if_neg e2]
        have h2 := vacL_keeps hF n m (k + 1) (F k pl tr).2.1 (F k pl tr).2.2
        exact ⟨h2.1.trans h1.1, fun x h => h2.2 x (h1.2 x h)⟩
    · rw [if_neg e]; exact vacL_keeps hF n m (k + 1) pl tr
theorem vacF_keeps {F : Nat → List Int → (Int → Bool) → Srch} (hF : ∀ k, Keeps (F k)) (P : List Int) (fr : Nat) (n : Int) : Keeps (vacF F P fr n) := by
  intro pl tr
  unfold vacF
  split
  · exact ⟨rfl, fun x h => h⟩
  · exact vacL_keeps hF n _ _ pl tr
theorem plcL_keeps {V : Int → List Int → (Int → Bool) → Srch} (hV : ∀ n, Keeps (V n)) (job : Nat) : ∀ l, Keeps (plcL V job l)
  | [] => fun pl tr => ⟨rfl, fun x h => h⟩
  | n :: r => fun pl tr => by
    have h1 := hV n pl (setAt tr n true)
    have h0 := setAt_mono tr n
    unfold plcL
    by_cases e : tr n = true
    · rw [if_pos e]; exact plcL_keeps hV job r pl tr
    · rw [if_neg e]
      by_cases e2 : (V n pl (setAt tr n true)).1 = true
      · rw [if_pos e2]; exact ⟨by simp [h1.1], fun x h => h1.2 x (h0 x h)⟩
      · rw [if_neg e2]
        have h2 := plcL_keeps hV job r (V n pl (setAt tr n true)).2.1 (V n pl (setAt tr n true)).2.2
        exact ⟨h2.1.trans h1.1, fun x h => h2.2 x (h1.2 x (h0 x h))⟩
theorem plF_keeps (C : List (List Int)) (P : List Int) (fr : Nat) : ∀ d job, Keeps (plF C P fr d job)
  | 0, job => fun pl tr => ⟨rfl, fun x h => h⟩
  | d + 1, job => fun pl tr => by
    show _ ∧ _
    exact plcL_keeps (fun n => vacF_keeps (fun k => plF_keeps C P fr d k) P fr n) job (gr C job) pl tr

/-- The plan in memory: ints at the head of a block that may be written. -/
def PlanR (w : World) (b : Nat) (pl : List Int) : Prop := (∀ i, i < pl.length → w.cell? ⟨b, i, none⟩ = some (.int .i64 (gi pl i))) ∧ ∀ i, i < pl.length → w.frozen? ⟨b, i, none⟩ = false
theorem gi_set (l : List Int) (j : Nat) (v : Int) (i : Nat) (hj : j < l.length) : gi (l.set j v) i = if i = j then v else gi l i := by
  unfold gi
  rw [List.getD_eq_getElem?_getD, List.getD_eq_getElem?_getD, List.getElem?_set]
  by_cases e : j = i
  · subst e; rw [if_pos rfl, if_pos rfl, if_pos hj]; rfl
  · rw [if_neg e, if_neg (fun h => e h.symm)]
theorem PlanR.ints {w : World} {b : Nat} {pl : List Int} (h : PlanR w b pl) (hn : pl.length ≤ 9223372036854775807) : IntsC w (some ⟨b, 0, none⟩) pl :=
  ⟨hn, b, 0, fun _ => rfl, fun i hi => by rw [Nat.zero_add]; exact h.1 i hi⟩
theorem PlanR.same {w w' : World} {b : Nat} {pl : List Int} (h : PlanR w b pl) (hb : w'.heap[b]? = w.heap[b]?) : PlanR w' b pl :=
  ⟨fun i hi => (World.cell?_of_block (w := w) (w' := w') (a := ⟨b, i, none⟩) hb).trans (h.1 i hi), fun i hi => (World.frozen?_of_block (w := w) (w' := w') (a := ⟨b, i, none⟩) hb).trans (h.2 i hi)⟩
/-- A world that differs from w in two blocks alone, and in new ones. -/
structure Two (bp bt : Nat) (w w' : World) : Prop where
  os : w'.os = w.os
  tape : w'.tape = w.tape
  output : w'.output = w.output
  size : w.heap.size ≤ w'.heap.size
  block : ∀ k, k < w.heap.size → k ≠ bp → k ≠ bt → w'.heap[k]? = w.heap[k]?
theorem Two.refl (bp bt : Nat) (w : World) : Two bp bt w w := ⟨rfl, rfl, rfl, Nat.le_refl _, fun _ _ _ _ => rfl⟩
theorem Two.trans {bp bt : Nat} {a b c : World} (h : Two bp bt a b) (h' : Two bp bt b c) : Two bp bt a c :=
  ⟨h'.os.trans h.os, h'.tape.trans h.tape, h'.output.trans h.output, Nat.le_trans h.size h'.size, fun k hk h1 h2 => (h'.block k (Nat.lt_of_lt_of_le hk h.size) h1 h2).trans (h.block k hk h1 h2)⟩
theorem Two.of {bp bt : Nat} {w w' : World} (h : Below w.heap.size w w') : Two bp bt w w' := ⟨h.os, h.tape, h.output, h.size, fun k hk _ _ => h.block k hk⟩
theorem Two.grown {bp bt : Nat} {w w' : World} (h : w.grownBy w' (some bt)) : Two bp bt w w' :=
  ⟨h.os, h.tape, h.output, h.size, fun k hk _ h2 => h.block k hk (fun e => h2 (by cases e; rfl))⟩
theorem Two.set {bp bt : Nat} (w : World) (i : Nat) (v : Value) : Two bp bt w (w.setCell ⟨bp, i, none⟩ v) :=
  have h := (Below.refl 0 w).setCell (p := ⟨bp, i, none⟩) (Nat.zero_le _) v
  ⟨h.os, h.tape, h.output, h.size, fun k hk h1 _ => Below.heap_setCell w ⟨bp, i, none⟩ v k h1⟩
theorem Two.drew {bp bt : Nat} {w w' : World} (h : Two bp bt w w') : Two bp bt w w'.drew := ⟨h.os, h.tape, h.output, h.size, h.block⟩
theorem Two.alloc {bp bt : Nat} {w w' : World} (h : Two bp bt w w') (o : Obj) : Two bp bt w (w'.alloc o) := h.trans (Two.of ((Below.refl _ _).alloc (Nat.le_refl _) o))
theorem Two.cell {bp bt : Nat} {w w' : World} (h : Two bp bt w w') {b o : Nat} {v : Value} (hc : w.cell? ⟨b, o, none⟩ = some v) (h1 : b ≠ bp) (h2 : b ≠ bt) : w'.cell? ⟨b, o, none⟩ = some v :=
  (World.cell?_of_block (w := w) (w' := w') (a := ⟨b, o, none⟩) (h.block b (block_lt hc) h1 h2)).trans hc
theorem Two.below {bp bt B : Nat} {w w' : World} (h : Two bp bt w w') (h1 : B ≤ bp) (h2 : B ≤ bt) (h3 : B ≤ w.heap.size) : Below B w w' :=
  ⟨h.os, h.tape, h.output, h.size, fun k hk => h.block k (by omega) (by omega) (by omega)⟩
theorem PlanR.store {w : World} {b : Nat} {pl : List Int} (h : PlanR w b pl) {j : Nat} (hj : j < pl.length) (v : Int) : PlanR (w.setCell ⟨b, j, none⟩ (.int .i64 v)) b (pl.set j v) := by
  refine ⟨fun i hi => ?_, fun i hi => ?_⟩
  · rw [List.length_set] at hi
    rw [gi_set pl j v i hj]
    have h1 := h.1 i hi
    have h2 := h.2 j hj
    have h3 := h.1 j hj
    by_cases e : i = j
    · subst e; rw [if_pos rfl]; simp [go_sem, h1]
    · rw [if_neg e]; simp [go_sem, h1, e, h3]
  · rw [List.length_set] at hi
    rw [World.frozen?_setCell]
    exact h.2 i hi
end Go.Proofs.Ytghlhjiomebmhaa
