/-
  A map from ints to bools, and from ints to ints, that the call itself has made, read as a function. By an AI agent.
-/
import Derived.Maps.OwnSet
import Derived.Maps.OwnOps
import Derived.Maps.Views
import Derived.OwnWalk
import Derived.Below
namespace Go.Proofs.Ytghlhjiomebmhaa
set_option linter.unusedVariables false
set_option linter.unusedSimpArgs false
open Go.Maps
open Go.RowKit

/-- f with another value at one place. -/
def setAt {α : Type} (f : Int → α) (x : Int) (v : α) : Int → α := fun y => if y = x then v else f y
/-- Block B is a map from ints to bools that has f x at x (false where nothing is), with at most n entries. -/
def MapB (P : Program) (k e : TypeId) (w : World) (B n : Nat) (f : Int → Bool) : Prop :=
  ∃ D : DataW Unit, w.ownsMap P k (plainElem P e) B n D ∧ IsMap D ∧ ∀ x : Int, D.atKey (.int .i64 x) (.lit (.bool false)) = .lit (.bool (f x))
/-- Block B is a map from ints to ints that has f x at x (0 where nothing is), with at most n entries. -/
def MapI (P : Program) (k e : TypeId) (w : World) (B n : Nat) (f : Int → Int) : Prop :=
  ∃ D : DataW Unit, w.ownsMap P k (plainElem P e) B n D ∧ IsMap D ∧ ∀ x : Int, D.atKey (.int .i64 x) (.lit (.int .i64 0)) = .lit (.int .i64 (f x))

section
variable {P : Program} {k e t : TypeId} {w w' : World} {B n : Nat}
theorem MapB.made (P : Program) (k e : TypeId) (w : World) : MapB P k e (w.alloc (.map #[] 0)) w.heap.size 0 (fun _ => false) :=
  ⟨.map [], World.ownsMap_made _ _ _ _, isMap_empty, fun _ => rfl⟩
theorem MapI.made (P : Program) (k e : TypeId) (w : World) : MapI P k e (w.alloc (.map #[] 0)) w.heap.size 0 (fun _ => 0) :=
  ⟨.map [], World.ownsMap_made _ _ _ _, isMap_empty, fun _ => rfl⟩
theorem owns_same {R : Value → Option (DataW Unit × List MemPlace)} {D : DataW Unit} (h : w.ownsMap P k R B n D) (hb : w'.heap[B]? = w.heap[B]?) : w'.ownsMap P k R B n D := by
  obtain ⟨es, clock, h1, h2⟩ := h
  exact ⟨es, clock, hb.trans h1, h2⟩
theorem MapB.same {f : Int → Bool} (h : MapB P k e w B n f) (hb : w'.heap[B]? = w.heap[B]?) : MapB P k e w' B n f := by
  obtain ⟨D, h1, h2⟩ := h
  exact ⟨D, owns_same h1 hb, h2⟩
theorem MapI.same {f : Int → Int} (h : MapI P k e w B n f) (hb : w'.heap[B]? = w.heap[B]?) : MapI P k e w' B n f := by
  obtain ⟨D, h1, h2⟩ := h
  exact ⟨D, owns_same h1 hb, h2⟩
theorem MapB.lt {f : Int → Bool} (h : MapB P k e w B n f) : B < w.heap.size := by obtain ⟨D, h1, h2⟩ := h; exact h1.lt
theorem MapI.lt {f : Int → Int} (h : MapI P k e w B n f) : B < w.heap.size := by obtain ⟨D, h1, h2⟩ := h; exact h1.lt
theorem MapB.below {f : Int → Bool} {C : Nat} (h : MapB P k e w B n f) (hC : B < C) (hb : Below C w w') : MapB P k e w' B n f := h.same (hb.block B hC)
theorem MapI.below {f : Int → Int} {C : Nat} (h : MapI P k e w B n f) (hC : B < C) (hb : Below C w w') : MapI P k e w' B n f := h.same (hb.block B hC)
theorem MapB.alloc {f : Int → Bool} (h : MapB P k e w B n f) (o : Obj) : MapB P k e (w.alloc o) B n f := h.below h.lt ((Below.refl _ w).alloc (Nat.le_refl _) o)
theorem MapI.alloc {f : Int → Int} (h : MapI P k e w B n f) (o : Obj) : MapI P k e (w.alloc o) B n f := h.below h.lt ((Below.refl _ w).alloc (Nat.le_refl _) o)
theorem MapB.drew {f : Int → Bool} (h : MapB P k e w B n f) : MapB P k e w.drew B n f := h
theorem MapI.drew {f : Int → Int} (h : MapI P k e w B n f) : MapI P k e w.drew B n f := h
theorem MapB.setCell {f : Int → Bool} (h : MapB P k e w B n f) {a : Addr} (ha : B ≠ a.block) (u : Value) : MapB P k e (w.setCell a u) B n f := by
  obtain ⟨D, h1, h2⟩ := h
  exact ⟨D, h1.setCell ha u, h2⟩
theorem MapI.setCell {f : Int → Int} (h : MapI P k e w B n f) {a : Addr} (ha : B ≠ a.block) (u : Value) : MapI P k e (w.setCell a u) B n f := by
  obtain ⟨D, h1, h2⟩ := h
  exact ⟨D, h1.setCell ha u, h2⟩
theorem MapB.mono {f : Int → Bool} {n' : Nat} (h : MapB P k e w B n f) (hn : n ≤ n') : MapB P k e w B n' f := by
  obtain ⟨D, h1, h2⟩ := h
  exact ⟨D, h1.mono hn, h2⟩
theorem MapI.mono {f : Int → Int} {n' : Nat} (h : MapI P k e w B n f) (hn : n ≤ n') : MapI P k e w B n' f := by
  obtain ⟨D, h1, h2⟩ := h
  exact ⟨D, h1.mono hn, h2⟩
theorem MapB.kept {f : Int → Bool} {row : Option Nat} (h : MapB P k e w B n f) (hg : w.grownBy w' row) (hne : some B ≠ row) : MapB P k e w' B n f := h.same (hg.block B h.lt hne)
theorem MapI.kept {f : Int → Int} {row : Option Nat} (h : MapI P k e w B n f) (hg : w.grownBy w' row) (hne : some B ≠ row) : MapI P k e w' B n f := h.same (hg.block B h.lt hne)
theorem plainElem_bool_inv (he : P.underlying e = some .bool) {v : Value} {b : Bool} {ps : List MemPlace} (h : plainElem P e v = some ((.lit (.bool b) : DataW Unit), ps)) : v = .bool b := by
  unfold plainElem at h
  rw [he] at h
  cases v <;> simp at h
  rw [h.1]
/-- A look-up, as an equation. -/
theorem MapB.look {f : Int → Bool} (h : MapB P k e w B n f) (hk : P.underlying k = some (.int .i64)) (ht : P.underlying t = some (.map k e)) (he : P.underlying e = some .bool)
    (hz : (zeroValue e).run P w = .ok (.bool false) w) (x : Int) (hx : (Lit.int .i64 x).wf = true) :
    (Instr.lookup t (.map (some B)) (.int .i64 x) false).run P w = .ok (.bool (f x)) w := by
  obtain ⟨D, h1, h2, h3⟩ := h
  obtain ⟨v, ps, hrun, hv⟩ := h1.lookup (int_keyed hk) ht hz (plainElem_bool he false) (keyOf_int_mk hk hx)
  rw [h3 x] at hv
  rw [plainElem_bool_inv he hv] at hrun
  exact hrun
theorem MapI.look {f : Int → Int} (h : MapI P k e w B n f) (hk : P.underlying k = some (.int .i64)) (ht : P.underlying t = some (.map k e)) (he : P.underlying e = some (.int .i64))
    (hz : (zeroValue e).run P w = .ok (.int .i64 0) w) (x : Int) (hx : (Lit.int .i64 x).wf = true) :
    (Instr.lookup t (.map (some B)) (.int .i64 x) false).run P w = .ok (.int .i64 (f x)) w := by
  obtain ⟨D, h1, h2, h3⟩ := h
  obtain ⟨c, hrun, hat, _⟩ := h1.lookup_int (int_keyed hk) ht he hz (keyOf_int_mk hk hx)
  rw [h3 x] at hat
  simp only [DataW.lit.injEq, Lit.int.injEq, true_and] at hat
  rw [← hat] at hrun
  exact hrun
end

theorem wpList_lookB {P : Program} (w : World) {ops : Array Oper} {rest : List Oper} {o : Oper} {a : Act} {Q : Exit → Act → World → Prop}
    (hg : o.guard = none) (m x : Operand) (t : TypeId) (hop : o.op = Op.lookup t m x false)
    (k e : TypeId) (B n : Nat) (f : Int → Bool) (hm : a.eval m = .map (some B)) (h : MapB P k e w B n f) (hk : P.underlying k = some (.int .i64)) (ht : P.underlying t = some (.map k e)) (he : P.underlying e = some .bool)
    (hz : (zeroValue e).run P w = .ok (.bool false) w) (y : Int) (hx : a.eval x = .int .i64 y) (hy : (Lit.int .i64 y).wf = true)
    (hK : wpList P ops Q rest (a.put o.dst (.bool (f y))) w) :
    wpList P ops Q (o :: rest) a w := by
  refine wpList_plain hg fun K' hK' => ?_
  have hrun := h.look hk ht he hz y hy
  unfold Oper.wp
  simp [execOp, hop, hm, hx, hrun, Result.andThen]
  exact hK' _ _ hK
theorem wpList_lookI {P : Program} (w : World) {ops : Array Oper} {rest : List Oper} {o : Oper} {a : Act} {Q : Exit → Act → World → Prop}
    (hg : o.guard = none) (m x : Operand) (t : TypeId) (hop : o.op = Op.lookup t m x false)
    (k e : TypeId) (B n : Nat) (f : Int → Int) (hm : a.eval m = .map (some B)) (h : MapI P k e w B n f) (hk : P.underlying k = some (.int .i64)) (ht : P.underlying t = some (.map k e)) (he : P.underlying e = some (.int .i64))
    (hz : (zeroValue e).run P w = .ok (.int .i64 0) w) (y : Int) (hx : a.eval x = .int .i64 y) (hy : (Lit.int .i64 y).wf = true)
    (hK : wpList P ops Q rest (a.put o.dst (.int .i64 (f y))) w) :
    wpList P ops Q (o :: rest) a w := by
  refine wpList_plain hg fun K' hK' => ?_
  have hrun := h.look hk ht he hz y hy
  unfold Oper.wp
  simp [execOp, hop, hm, hx, hrun, Result.andThen]
  exact hK' _ _ hK
theorem wpList_putB {P : Program} (w : World) {ops : Array Oper} {rest : List Oper} {o : Oper} {a : Act} {Q : Exit → Act → World → Prop}
    (hg : o.guard = none) (m x v : Operand) (t : TypeId) (hop : o.op = Op.mapUpdate t m x v)
    (k e : TypeId) (B n : Nat) (f : Int → Bool) (hm : a.eval m = .map (some B)) (h : MapB P k e w B n f) (hk : P.underlying k = some (.int .i64)) (ht : P.underlying t = some (.map k e)) (he : P.underlying e = some .bool)
    (y : Int) (b : Bool) (hx : a.eval x = .int .i64 y) (hv : a.eval v = .bool b) (hy : (Lit.int .i64 y).wf = true) (hn : n < maxLen)
    (hK : ∀ w', MapB P k e w' B (n + 1) (setAt f y b) → w.grownBy w' (some B) → wpList P ops Q rest (a.put o.dst undef) w') :
    wpList P ops Q (o :: rest) a w := by
  obtain ⟨D, h1, h2, h3⟩ := h
  refine wpList_mapUpdate_own w hg m x v t hop k e (int_keyed hk) ht (plainElem P e) B n D hm h1 hn _ _ _ hx hv (keyOf_int_mk hk hy) _ _ (plainElem_bool he b) ?_
  intro w' ho hg'
  refine hK w' ⟨_, ho, h2.put _ _, fun z => ?_⟩ hg'
  unfold setAt
  by_cases e1 : z = y
  · subst e1
    rw [if_pos rfl]
    exact atKey_put_same h2 ((int_keyed hk).key (keyOf_int_mk hk hy)) _ _
  · rw [if_neg e1, ← h3 z]
    exact atKey_put_other (fun e2 => e1 (by cases e2; rfl)) _ _
theorem wpList_putI {P : Program} (w : World) {ops : Array Oper} {rest : List Oper} {o : Oper} {a : Act} {Q : Exit → Act → World → Prop}
    (hg : o.guard = none) (m x v : Operand) (t : TypeId) (hop : o.op = Op.mapUpdate t m x v)
    (k e : TypeId) (B n : Nat) (f : Int → Int) (hm : a.eval m = .map (some B)) (h : MapI P k e w B n f) (hk : P.underlying k = some (.int .i64)) (ht : P.underlying t = some (.map k e)) (he : P.underlying e = some (.int .i64))
    (y : Int) (b : Int) (hx : a.eval x = .int .i64 y) (hv : a.eval v = .int .i64 b) (hy : (Lit.int .i64 y).wf = true) (hb : (Lit.int .i64 b).wf = true) (hn : n < maxLen)
    (hK : ∀ w', MapI P k e w' B (n + 1) (setAt f y b) → w.grownBy w' (some B) → wpList P ops Q rest (a.put o.dst undef) w') :
    wpList P ops Q (o :: rest) a w := by
  obtain ⟨D, h1, h2, h3⟩ := h
  refine wpList_mapUpdate_own w hg m x v t hop k e (int_keyed hk) ht (plainElem P e) B n D hm h1 hn _ _ _ hx hv (keyOf_int_mk hk hy) _ _ (plainElem_int he hb) ?_
  intro w' ho hg'
  refine hK w' ⟨_, ho, h2.put _ _, fun z => ?_⟩ hg'
  unfold setAt
  by_cases e1 : z = y
  · subst e1
    rw [if_pos rfl]
    exact atKey_put_same h2 ((int_keyed hk).key (keyOf_int_mk hk hy)) _ _
  · rw [if_neg e1, ← h3 z]
    exact atKey_put_other (fun e2 => e1 (by cases e2; rfl)) _ _
end Go.Proofs.Ytghlhjiomebmhaa
