/-
  A map from ints to bools, and from ints to ints, that the call itself has made, read as a function. By an AI agent.; Jobs and nights in memory; jobsValid and listsError of package night. By an AI agent.; ContainsFunc over nights; listsError of package night. By an AI agent.; indexes, count and done of package night. By an AI agent.
-/
import Derived.Test.YtghlhjiomebmhaaMgNightRight2
import Derived.Maps.OwnSet
import Derived.Maps.OwnOps
import Derived.Maps.Views
import Derived.OwnWalk
import Derived.Below
import Derived.Deep.RegionHeld3
import Derived.BigQuiet
import Derived.Carry
import Derived.Deep.AppendLies

namespace Go.Proofs.Ytghlhjiomebmhaa
set_option linter.unusedVariables false
set_option linter.unusedSimpArgs false
open Go.Maps
open Go.RowKit

/-- f with another value at one place. -/
def setAt {α : Type} (f : Int → α) (x : Int) (v : α) : Int → α := fun y => if y = x then v else f y
/-- Block B is a map from ints to bools that has f x at x (false where nothing is), with at most n entries. -/
def MapB (P : Program) (k e : TypeId) (w : World) (B n : Nat) (f : Int → Bool) : Prop :=
  ∃ D : DataW Unit, w.ownsMap P k (plainElem P e) B n D ∧ IsMap D ∧ ∀ x : Int, D.atKey (.int .i64 x) (.lit (.bool false)) = .lit (.bool (f x))
/-- Block B is a map from ints to ints that has f x at x (0 where nothing is), with at most n entries. -/
def MapI (P : Program) (k e : TypeId) (w : World) (B n : Nat) (f : Int → Int) : Prop :=
  ∃ D : DataW Unit, w.ownsMap P k (plainElem P e) B n D ∧ IsMap D ∧ ∀ x : Int, D.atKey (.int .i64 x) (.lit (.int .i64 0)) = .lit (.int .i64 (f x))

section
variable {P : Program} {k e t : TypeId} {w w' : World} {B n : Nat}
theorem MapB.made (P : Program) (k e : TypeId) (w : World) : MapB P k e (w.alloc (.map #[] 0)) w.heap.size 0 (fun _ => false) :=
  ⟨.map [], World.ownsMap_made _ _ _ _, isMap_empty, fun _ => rfl⟩
theorem MapI.made (P : Program) (k e : TypeId) (w : World) : MapI P k e (w.alloc (.map #[] 0)) w.heap.size 0 (fun _ => 0) :=
  ⟨.map [], World.ownsMap_made _ _ _ _, isMap_empty, fun _ => rfl⟩
theorem owns_same {R : Value → Option (DataW Unit × List MemPlace)} {D : DataW Unit} (h : w.ownsMap P k R B n D) (hb : w'.heap[B]? = w.heap[B]?) : w'.ownsMap P k R B n D := by
  obtain ⟨es, clock, h1, h2⟩ := h
  exact ⟨es, clock, hb.trans h1, h2⟩
theorem MapB.same {f : Int → Bool} (h : MapB P k e w B n f) (hb : w'.heap[B]? = w.heap[B]?) : MapB P k e w' B n f := by
  obtain ⟨D, h1, h2⟩ := h
  exact ⟨D, owns_same h1 hb, h2⟩
theorem MapI.same {f : Int → Int} (h : MapI P k e w B n f) (hb : w'.heap[B]? = w.heap[B]?) : MapI P k e w' B n f := by
  obtain ⟨D, h1, h2⟩ := h
  exact ⟨D, owns_same h1 hb, h2⟩
theorem MapB.lt {f : Int → Bool} (h : MapB P k e w B n f) : B < w.heap.size := by obtain ⟨D, h1, h2⟩ := h; exact h1.lt
theorem MapI.lt {f : Int → Int} (h : MapI P k e w B n f) : B < w.heap.size := by obtain ⟨D, h1, h2⟩ := h; exact h1.lt
theorem MapB.below {f : Int → Bool} {C : Nat} (h : MapB P k e w B n f) (hC : B < C) (hb : Below C w w') : MapB P k e w' B n f := h.same (hb.block B hC)
theorem MapI.below {f : Int → Int} {C : Nat} (h : MapI P k e w B n f) (hC : B < C) (hb : Below C w w') : MapI P k e w' B n f := h.same (hb.block B hC)
theorem MapB.alloc {f : Int → Bool} (h : MapB P k e w B n f) (o : Obj) : MapB P k e (w.alloc o) B n f := h.below h.lt ((Below.refl _ w).alloc (Nat.le_refl _) o)
theorem MapI.alloc {f : Int → Int} (h : MapI P k e w B n f) (o : Obj) : MapI P k e (w.alloc o) B n f := h.below h.lt ((Below.refl _ w).alloc (Nat.le_refl _) o)
theorem MapB.drew {f : Int → Bool} (h : MapB P k e w B n f) : MapB P k e w.drew B n f := h
theorem MapI.drew {f : Int → Int} (h : MapI P k e w B n f) : MapI P k e w.drew B n f := h
theorem MapB.setCell {f : Int → Bool} (h : MapB P k e w B n f) {a : Addr} (ha : B ≠ a.block) (u : Value) : MapB P k e (w.setCell a u) B n f := by
  obtain ⟨D, h1, h2⟩ := h
  exact ⟨D, h1.setCell ha u, h2⟩
theorem MapI.setCell {f : Int → Int} (h : MapI P k e w B n f) {a : Addr} (ha : B ≠ a.block) (u : Value) : MapI P k e (w.setCell a u) B n f := by
  obtain ⟨D, h1, h2⟩ := h
  exact ⟨D, h1.setCell ha u, h2⟩
theorem MapB.mono {f : Int → Bool} {n' : Nat} (h : MapB P k e w B n f) (hn : n ≤ n') : MapB P k e w B n' f := by
  obtain ⟨D, h1, h2⟩ := h
  exact ⟨D, h1.mono hn, h2⟩
theorem MapI.mono {f : Int → Int} {n' : Nat} (h : MapI P k e w B n f) (hn : n ≤ n') : MapI P k e w B n' f := by
  obtain ⟨D, h1, h2⟩ := h
  exact ⟨D, h1.mono hn, h2⟩
theorem MapB.kept {f : Int → Bool} {row : Option Nat} (h : MapB P k e w B n f) (hg : w.grownBy w' row) (hne : some B ≠ row) : MapB P k e w' B n f := h.same (hg.block B h.lt hne)
theorem MapI.kept {f : Int → Int} {row : Option Nat} (h : MapI P k e w B n f) (hg : w.grownBy w' row) (hne : some B ≠ row) : MapI P k e w' B n f := h.same (hg.block B h.lt hne)
theorem plainElem_bool_inv (he : P.underlying e = some .bool) {v : Value} {b : Bool} {ps : List MemPlace} (h : plainElem P e v = some ((.lit (.bool b) : DataW Unit), ps)) : v = .bool b := by
  unfold plainElem at h
  rw [he] at h
  cases v <;> simp at h
  rw [h.1]
/-- A look-up, as an equation. -/
theorem MapB.look {f : Int → Bool} (h : MapB P k e w B n f) (hk : P.underlying k = some (.int .i64)) (ht : P.underlying t = some (.map k e)) (he : P.underlying e = some .bool)
    (hz : (zeroValue e).run P w = .ok (.bool false) w) (x : Int) (hx : (Lit.int .i64 x).wf = true) :
    (Instr.lookup t (.map (some B)) (.int .i64 x) false).run P w = .ok (.bool (f x)) w := by
  obtain ⟨D, h1, h2, h3⟩ := h
  obtain ⟨v, ps, hrun, hv⟩ := h1.lookup (int_keyed hk) ht hz (plainElem_bool he false) (keyOf_int_mk hk hx)
  rw [h3 x] at hv
  rw [plainElem_bool_inv he hv] at hrun
  exact hrun
theorem MapI.look {f : Int → Int} (h : MapI P k e w B n f) (hk : P.underlying k = some (.int .i64)) (ht : P.underlying t = some (.map k e)) (he : P.underlying e = some (.int .i64))
    (hz : (zeroValue e).run P w = .ok (.int .i64 0) w) (x : Int) (hx : (Lit.int .i64 x).wf = true) :
    (Instr.lookup t (.map (some B)) (.int .i64 x) false).run P w = .ok (.int .i64 (f x)) w := by
  obtain ⟨D, h1, h2, h3⟩ := h
  obtain ⟨c, hrun, hat, _⟩ := h1.lookup_int (int_keyed hk) ht he hz (keyOf_int_mk hk hx)
  rw [h3 x] at hat
  simp only [DataW.lit.injEq, Lit.int.injEq, true_and] at hat
  rw [← hat] at hrun
  exact hrun
end

theorem wpList_lookB {P : Program} (w : World) {ops : Array Oper} {rest : List Oper} {o : Oper} {a : Act} {Q : Exit → Act → World → Prop}
    (hg : o.guard = none) (m x : Operand) (t : TypeId) (hop : o.op = Op.lookup t m x false)
    (k e : TypeId) (B n : Nat) (f : Int → Bool) (hm : a.eval m = .map (some B)) (h : MapB P k e w B n f) (hk : P.underlying k = some (.int .i64)) (ht : P.underlying t = some (.map k e)) (he : P.underlying e = some .bool)
    (hz : (zeroValue e).run P w = .ok (.bool false) w) (y : Int) (hx : a.eval x = .int .i64 y) (hy : (Lit.int .i64 y).wf = true)
    (hK : wpList P ops Q rest (a.put o.dst (.bool (f y))) w) :
    wpList P ops Q (o :: rest) a w := by
  refine wpList_plain hg fun K' hK' => ?_
  have hrun := h.look hk ht he hz y hy
  unfold Oper.wp
  simp [execOp, hop, hm, hx, hrun, Result.andThen]
  exact hK' _ _ hK
theorem wpList_lookI {P : Program} (w : World) {ops : Array Oper} {rest : List Oper} {o : Oper} {a : Act} {Q : Exit → Act → World → Prop}
    (hg : o.guard = none) (m x : Operand) (t : TypeId) (hop : o.op = Op.lookup t m x false)
    (k e : TypeId) (B n : Nat) (f : Int → Int) (hm : a.eval m = .map (some B)) (h : MapI P k e w B n f) (hk : P.underlying k = some (.int .i64)) (ht : P.underlying t = some (.map k e)) (he : P.underlying e = some (.int .i64))
    (hz : (zeroValue e).run P w = .ok (.int .i64 0) w) (y : Int) (hx : a.eval x = .int .i64 y) (hy : (Lit.int .i64 y).wf = true)
    (hK : wpList P ops Q rest (a.put o.dst (.int .i64 (f y))) w) :
    wpList P ops Q (o :: rest) a w := by
  refine wpList_plain hg fun K' hK' => ?_
  have hrun := h.look hk ht he hz y hy
  unfold Oper.wp
  simp [execOp, hop, hm, hx, hrun, Result.andThen]
  exact hK' _ _ hK
theorem wpList_putB {P : Program} (w : World) {ops : Array Oper} {rest : List Oper} {o : Oper} {a : Act} {Q : Exit → Act → World → Prop}
    (hg : o.guard = none) (m x v : Operand) (t : TypeId) (hop : o.op = Op.mapUpdate t m x v)
    (k e : TypeId) (B n : Nat) (f : Int → Bool) (hm : a.eval m = .map (some B)) (h : MapB P k e w B n f) (hk : P.underlying k = some (.int .i64)) (ht : P.underlying t = some (.map k e)) (he : P.underlying e = some .bool)
    (y : Int) (b : Bool) (hx : a.eval x = .int .i64 y) (hv : a.eval v = .bool b) (hy : (Lit.int .i64 y).wf = true) (hn : n < maxLen)
    (hK : ∀ w', MapB P k e w' B (n + 1) (setAt f y b) → w.grownBy w' (some B) → wpList P ops Q rest (a.put o.dst undef) w') :
    wpList P ops Q (o :: rest) a w := by
  obtain ⟨D, h1, h2, h3⟩ := h
  refine wpList_mapUpdate_own w hg m x v t hop k e (int_keyed hk) ht (plainElem P e) B n D hm h1 hn _ _ _ hx hv (keyOf_int_mk hk hy) _ _ (plainElem_bool he b) ?_
  intro w' ho hg'
  refine hK w' ⟨_, ho, h2.put _ _, fun z => ?_⟩ hg'
  unfold setAt
  by_cases e1 : z = y
  · subst e1
    rw [if_pos rfl]
    exact atKey_put_same h2 ((int_keyed hk).key (keyOf_int_mk hk hy)) _ _
  · rw [if_neg e1, ← h3 z]
    exact atKey_put_other (fun e2 => e1 (by cases e2; rfl)) _ _
theorem wpList_putI {P : Program} (w : World) {ops : Array Oper} {rest : List Oper} {o : Oper} {a : Act} {Q : Exit → Act → World → Prop}
    (hg : o.guard = none) (m x v : Operand) (t : TypeId) (hop : o.op = Op.mapUpdate t m x v)
    (k e : TypeId) (B n : Nat) (f : Int → Int) (hm : a.eval m = .map (some B)) (h : MapI P k e w B n f) (hk : P.underlying k = some (.int .i64)) (ht : P.underlying t = some (.map k e)) (he : P.underlying e = some (.int .i64))
    (y : Int) (b : Int) (hx : a.eval x = .int .i64 y) (hv : a.eval v = .int .i64 b) (hy : (Lit.int .i64 y).wf = true) (hb : (Lit.int .i64 b).wf = true) (hn : n < maxLen)
    (hK : ∀ w', MapI P k e w' B (n + 1) (setAt f y b) → w.grownBy w' (some B) → wpList P ops Q rest (a.put o.dst undef) w') :
    wpList P ops Q (o :: rest) a w := by
  obtain ⟨D, h1, h2, h3⟩ := h
  refine wpList_mapUpdate_own w hg m x v t hop k e (int_keyed hk) ht (plainElem P e) B n D hm h1 hn _ _ _ hx hv (keyOf_int_mk hk hy) _ _ (plainElem_int he hb) ?_
  intro w' ho hg'
  refine hK w' ⟨_, ho, h2.put _ _, fun z => ?_⟩ hg'
  unfold setAt
  by_cases e1 : z = y
  · subst e1
    rw [if_pos rfl]
    exact atKey_put_same h2 ((int_keyed hk).key (keyOf_int_mk hk hy)) _ _
  · rw [if_neg e1, ← h3 z]
    exact atKey_put_other (fun e2 => e1 (by cases e2; rfl)) _ _
end Go.Proofs.Ytghlhjiomebmhaa

namespace Go.Proofs.Ytghlhjiomebmhaa
set_option linter.unusedVariables false
set_option linter.unusedSimpArgs false
open Go.RowKit

def JobsS (w : World) (a : Option Addr) (l : List Jo) : Prop :=
  l.length ≤ 9223372036854775807 ∧ ∃ blk off, (l ≠ [] → a = some ⟨blk, off, none⟩) ∧ ∀ i, i < l.length → w.cell? ⟨blk, off + i * 8, none⟩ = some (.int .i64 (gj l i).n) ∧ w.cell? ⟨blk, off + i * 8 + 1, none⟩ = some (.int .i64 (gj l i).r) ∧ w.cell? ⟨blk, off + i * 8 + 2, none⟩ = some (.int .i64 (gj l i).c) ∧ w.cell? ⟨blk, off + i * 8 + 3, none⟩ = some (.int .i64 (gj l i).f) ∧ w.cell? ⟨blk, off + i * 8 + 4, none⟩ = some (.int .i64 (gj l i).l) ∧ w.cell? ⟨blk, off + i * 8 + 5, none⟩ = some (.int .i64 (gj l i).w) ∧ w.cell? ⟨blk, off + i * 8 + 6, none⟩ = some (.bool (gj l i).dy) ∧ w.cell? ⟨blk, off + i * 8 + 7, none⟩ = some (.bool (gj l i).wm)
theorem JobsS.below {w w' : World} {a : Option Addr} {l : List Jo} (h : JobsS w a l) (hb : Below w.heap.size w w') : JobsS w' a l := by
  obtain ⟨h0, blk, off, h2, h3⟩ := h
  exact ⟨h0, blk, off, h2, fun i hi => by
    have hx := h3 i hi
    exact ⟨cell_below hx.1 hb, cell_below hx.2.1 hb, cell_below hx.2.2.1 hb, cell_below hx.2.2.2.1 hb, cell_below hx.2.2.2.2.1 hb, cell_below hx.2.2.2.2.2.1 hb, cell_below hx.2.2.2.2.2.2.1 hb, cell_below hx.2.2.2.2.2.2.2 hb⟩⟩
def NightsS (w : World) (a : Option Addr) (l : List Ni) : Prop :=
  l.length ≤ 9223372036854775807 ∧ ∃ blk off, (l ≠ [] → a = some ⟨blk, off, none⟩) ∧ ∀ i, i < l.length → w.cell? ⟨blk, off + i * 8, none⟩ = some (.int .i64 (gn l i).d) ∧ w.cell? ⟨blk, off + i * 8 + 1, none⟩ = some (.int .i64 (gn l i).r) ∧ w.cell? ⟨blk, off + i * 8 + 2, none⟩ = some (.int .i64 (gn l i).f) ∧ w.cell? ⟨blk, off + i * 8 + 3, none⟩ = some (.int .i64 (gn l i).t) ∧ w.cell? ⟨blk, off + i * 8 + 4, none⟩ = some (.int .i64 (gn l i).w) ∧ w.cell? ⟨blk, off + i * 8 + 5, none⟩ = some (.int .i64 (gn l i).p) ∧ w.cell? ⟨blk, off + i * 8 + 6, none⟩ = some (.bool (gn l i).rn) ∧ w.cell? ⟨blk, off + i * 8 + 7, none⟩ = some (.bool (gn l i).fr)
theorem NightsS.below {w w' : World} {a : Option Addr} {l : List Ni} (h : NightsS w a l) (hb : Below w.heap.size w w') : NightsS w' a l := by
  obtain ⟨h0, blk, off, h2, h3⟩ := h
  exact ⟨h0, blk, off, h2, fun i hi => by
    have hx := h3 i hi
    exact ⟨cell_below hx.1 hb, cell_below hx.2.1 hb, cell_below hx.2.2.1 hb, cell_below hx.2.2.2.1 hb, cell_below hx.2.2.2.2.1 hb, cell_below hx.2.2.2.2.2.1 hb, cell_below hx.2.2.2.2.2.2.1 hb, cell_below hx.2.2.2.2.2.2.2 hb⟩⟩
theorem underMB : Try.prog.underlying 84 = some (.map 3 4) := by kernel_rfl
theorem underMI : Try.prog.underlying 75 = some (.map 3 3) := by kernel_rfl
theorem underI : Try.prog.underlying 3 = some (.int .i64) := by kernel_rfl
theorem underB : Try.prog.underlying 4 = some .bool := by kernel_rfl
theorem zeroB (w : World) : (zeroValue 4).run Try.prog w = .ok (.bool false) w := by kernel_rfl
theorem zeroI (w : World) : (zeroValue 3).run Try.prog w = .ok (.int .i64 0) w := by kernel_rfl
theorem wf64 {x : Int} (h1 : -9223372036854775808 ≤ x) (h2 : x ≤ 9223372036854775807) : (Lit.int .i64 x).wf = true := by
  exact WalkArith.wf_i64 ⟨h1, h2⟩
/-- Are the first k jobs right, with different numbers? -/
def jokK (l : List Jo) : Nat → Bool
  | 0 => true
  | k + 1 => jokK l k && (jobB (gj l k) && !(anyK (fun m => (gj l m).n == (gj l k).n) k))
theorem jokK_false {l : List Jo} {k : Nat} (h : jokK l (k + 1) = false) : ∀ n, k < n → jokK l n = false
  | 0, hn => by omega
  | n + 1, hn => by
    by_cases e : n = k
    · subst e; exact h
    · have := jokK_false h n (by omega)
      simp [jokK, this]
/-- Are jobs right? -/
def jobsB (l : List Jo) : Bool := decide (l.length ≤ 60) && jokK l l.length
/-- Are nights right? -/
def nightsB (l : List Ni) : Bool := decide (l.length ≤ 60) && !(anyK (fun k => !(nightB (gn l k))) l.length)
/-- The first error of jobs and nights. -/
def errL (js : List Jo) (ns : List Ni) : Int := if jobsB js = true then (if nightsB ns = true then 0 else 81) else 80
/-- Whether a number is among those of the first k jobs. -/
def numsK (l : List Jo) (k : Nat) : Int → Bool := fun x => anyK (fun m => (gj l m).n == x) k
theorem nums_step (l : List Jo) (k : Nat) : setAt (numsK l k) (gj l k).n true = numsK l (k + 1) := by
  funext x
  unfold setAt numsK
  rw [show anyK (fun m => (gj l m).n == x) (k + 1) = (anyK (fun m => (gj l m).n == x) k || (gj l k).n == x) from by first | rfl | simp [anyK, Bool.or_comm]]
  by_cases e : x = (gj l k).n
  · rw [if_pos e, e]; simp
  · rw [if_neg e, show ((gj l k).n == x) = false from beq_false_of_ne (fun h => e h.symm)]; simp
theorem jobB_n {s : Jo} (h : jobB s = true) : 1 ≤ s.n ∧ s.n ≤ 1000000000 := by
  unfold jobB at h
  rw [Bool.and_eq_true] at h
  exact (btw_iff _ _ _).1 h.1
set_option maxRecDepth 100000 in
set_option maxHeartbeats 2000000 in
theorem jobsValid_r (a : Option Addr) (l : List Jo) (ca : Nat) (w : World) (hA : JobsS w a l) :
    Calls Try.prog 49 #[.slice a l.length ca] w fun e w' => e = .returned (.bool (jobsB l)) ∧ Below w.heap.size w w' := by
  obtain ⟨hlen, blk, off, hadr, hc⟩ := hA
  have HC := Lib.hid hc
  have HL : Hid (0 < l.length → a = some ⟨blk, off, none⟩) := Lib.hid fun h => hadr (pos_ne (n := 0) h)
  have HX : Hid (jobsB l = (decide (l.length ≤ 60) && jokK l l.length)) := Lib.hid rfl
  clear hc hadr
  by_cases h60 : l.length ≤ 60
  · have d60 : decide ((60 : Int) < l.length) = false := decide_eq_false (by omega)
    have HX : Hid (jobsB l = jokK l l.length) := Lib.hid (by rw [HX.out, decide_eq_true h60]; rfl)
    have hmm := @run_makeMap Try.prog
    go_enter Try.func49, Try.ntmps49
    go_wp2_with fail
    go_loopw [12] (fun i wr => ∃ k : Nat, k ≤ l.length ∧ i = .int .i64 k ∧ Below w.heap.size w wr ∧ MapB Try.prog 3 4 wr w.heap.size k (numsK l k) ∧ Hid (jokK l k = true)) (fun i _ => l.length - (intOf i).toNat)
    case atStart => exact ⟨0, Nat.zero_le _, rfl, (Below.refl _ _).alloc (Nat.le_refl _) _, (MapB.made _ _ _ _), Lib.hid rfl⟩
    case round =>
      obtain ⟨k, hk, rfl, hb, hM, hJ⟩ := hrel
      by_cases hlt : k < l.length
      · obtain rfl := HL.out (by omega)
        obtain ⟨c0, c1, c2, c3, c4, c5, c6, c7⟩ := HC.out k hlt
        have c0 := cell_below c0 hb
        have c1 := cell_below c1 hb
        have c2 := cell_below c2 hb
        have c3 := cell_below c3 hb
        have c4 := cell_below c4 hb
        have c5 := cell_below c5 hb
        have c6 := cell_below c6 hb
        have c7 := cell_below c7 hb
        have hst := Lib.hid (nums_step l k)
        have hwK : w.heap.size < wr.heap.size := hM.lt
        have hJ1 : Hid (jokK l (k + 1) = (jobB (gj l k) && !(numsK l k (gj l k).n))) := Lib.hid (by
          show (jokK l k && (jobB (gj l k) && !(anyK (fun m => (gj l m).n == (gj l k).n) k))) = _
          rw [hJ.out]; rfl)
        have hJ2 := Lib.hid (fun h => jokK_false (l := l) (k := k) h l.length hlt)
        generalize hf : numsK l k = f at *
        clear hf HC HL
        generalize gj l k = s at *
        have HV := Lib.hid (fun W => jobValid_r s W)
        have hn := Lib.hid (fun h => jobB_n (s := s) h)

        cases hjb : jobB s with
        | false =>
          rw [hjb] at HV hJ1
          have hR := Lib.hid (HX.out.trans (hJ2.out (by rw [hJ1.out]; rfl)))
          clear HX hJ1 hJ2 hst hn hjb
          go_wp2_with fail
          obtain ⟨wB, hwB⟩ : ∃ wB, wr.alloc (.cells #[.int .i64 s.n, .int .i64 s.r, .int .i64 s.c, .int .i64 s.f, .int .i64 s.l, .int .i64 s.w, .bool s.dy, .bool s.wm] 43) = wB := ⟨_, rfl⟩
          have hbB : Below w.heap.size w wB := by rw [← hwB]; exact hb.alloc hb.size _
          have hzB : wr.heap.size < wB.heap.size := by rw [← hwB]; simp
          have p0 : wB.cell? ⟨wr.heap.size, 0, none⟩ = some (.int .i64 s.n) := by rw [← hwB]; simp [go_sem]
          have hMB : MapB Try.prog 3 4 wB w.heap.size k f := by rw [← hwB]; exact hM.alloc _
          rw [hwB]
          clear hwB hM hb
          refine (HV.out _).mono ?_
          rintro e w1 ⟨rfl, hb1⟩
          have hb2 := below_onN hbB hb1 hbB.size
          have p0 := cell_below p0 hb1
          have hM := hMB.below hMB.lt hb1
          have hz1 := hb1.size
          clear hMB hbB hb1

          go_wp2_with fail
          go_ret
          exact ⟨by rw [hR.out]; rfl, hb2⟩
        | true =>
          rw [hjb] at HV hJ1
          obtain ⟨n1, n2⟩ := hn.out hjb
          clear hjb hn
          go_wp2_with fail
          obtain ⟨wB, hwB⟩ : ∃ wB, wr.alloc (.cells #[.int .i64 s.n, .int .i64 s.r, .int .i64 s.c, .int .i64 s.f, .int .i64 s.l, .int .i64 s.w, .bool s.dy, .bool s.wm] 43) = wB := ⟨_, rfl⟩
          have hbB : Below w.heap.size w wB := by rw [← hwB]; exact hb.alloc hb.size _
          have hzB : wr.heap.size < wB.heap.size := by rw [← hwB]; simp
          have p0 : wB.cell? ⟨wr.heap.size, 0, none⟩ = some (.int .i64 s.n) := by rw [← hwB]; simp [go_sem]
          have hMB : MapB Try.prog 3 4 wB w.heap.size k f := by rw [← hwB]; exact hM.alloc _
          rw [hwB]
          clear hwB hM hb
          refine (HV.out _).mono ?_
          rintro e w1 ⟨rfl, hb1⟩
          have hb2 := below_onN hbB hb1 hbB.size
          have p0 := cell_below p0 hb1
          have hM := hMB.below hMB.lt hb1
          have hz1 := hb1.size
          clear hMB hbB hb1

          cases hfn : f s.n with
          | true =>
            rw [hfn] at hJ1
            have hR := Lib.hid (HX.out.trans (hJ2.out (by rw [hJ1.out]; rfl)))
            clear HX hJ1 hJ2 hst
            have hlk := hM.look (t := 84) underI underMB underB (zeroB _) s.n (wf64 (by omega) (by omega))
            rw [hfn] at hlk
            go_wp2_with fail
            go_ret
            exact ⟨by rw [hR.out]; rfl, hb2⟩
          | false =>
            rw [hfn] at hJ1
            have hR := Lib.hid (hJ1.out.trans rfl)
            clear hJ1 hJ2
            have hlk := hM.look (t := 84) underI underMB underB (zeroB _) s.n (wf64 (by omega) (by omega))
            rw [hfn] at hlk
            clear hfn
            go_wp2_with (first | (at_mapUpdate; refine wpList_putB _ rfl _ _ _ 84 rfl 3 4 _ _ _ rfl hM underI underMB underB _ _ rfl rfl (wf64 (by omega) (by omega)) (by unfold maxLen; omega) ?_; intro w3 hM3 hg3))
            go_roundw
            case rel => exact ⟨k + 1, by omega, by go_num, hb2.grown hg3 hb2.size (fun j hj => by cases hj; exact Nat.le_refl _), hst.out ▸ hM3, hR⟩
            case measure => simp [intOf]; omega
      · obtain rfl : k = l.length := by omega
        have hR := Lib.hid (HX.out.trans hJ.out)
        clear hM
        go_wp2_with fail
        go_ret
        exact ⟨by rw [hR.out]; rfl, hb⟩
  · have d60 : decide ((60 : Int) < l.length) = true := decide_eq_true (by omega)
    have hR : Hid (jobsB l = false) := Lib.hid (by rw [HX.out, decide_eq_false h60]; rfl)
    go_enter Try.func49, Try.ntmps49
    go_wp2_with fail
    go_ret
    exact ⟨by rw [hR.out]; rfl, Below.refl _ _⟩
end Go.Proofs.Ytghlhjiomebmhaa

namespace Go.Proofs.Ytghlhjiomebmhaa
set_option linter.unusedVariables false
set_option linter.unusedSimpArgs false
open Go.RowKit

set_option maxRecDepth 100000 in
set_option maxHeartbeats 1000000 in
theorem idxNi_any (aa : Option Addr) (l : List Ni) (ca : Nat) (lb : Array Value) (p : Nat → Bool) (w : World) (hA : NightsS w aa l)
    (hp : ∀ j W, j < l.length → Below w.heap.size w W → Calls Try.prog 51 (#[.agg #[.int .i64 (gn l j).d, .int .i64 (gn l j).r, .int .i64 (gn l j).f, .int .i64 (gn l j).t, .int .i64 (gn l j).w, .int .i64 (gn l j).p, .bool (gn l j).rn, .bool (gn l j).fr]] ++ lb) W fun e w' => e = .returned (.bool (p j)) ∧ Below W.heap.size W w') :
    Calls Try.prog 68 #[.slice aa l.length ca, .func (.func 51) #[] lb] w fun e w' => e = .returned (.int .i64 (idxK p l.length)) ∧ Below w.heap.size w w' := by
  obtain ⟨hlen, blk, off, hadr, hc⟩ := hA
  have HP := Lib.hid hp
  have HC := Lib.hid hc
  have HH : Hid (∀ k, k < l.length → p k = true → (∀ j, j < k → p j = false) → idxK p l.length = k) := Lib.hid fun k hk h hb => idxK_hit h hb _ hk
  have HM : Hid ((∀ j, j < l.length → p j = false) → idxK p l.length = -1) := Lib.hid fun h => idxK_miss _ h
  have HL : Hid (0 < l.length → aa = some ⟨blk, off, none⟩) := Lib.hid fun h => hadr (pos_ne (n := 0) h)
  generalize idxK p l.length = R at *
  clear hp hc hadr
  go_enter Try.func68, Try.ntmps68
  go_wp2_with fail
  go_loopw [8] (fun i wr => ∃ k : Nat, k ≤ l.length ∧ i = .int .i64 k ∧ Below w.heap.size w wr ∧ Hid (∀ j, j < k → p j = false)) (fun i _ => l.length - (intOf i).toNat)
  case atStart => exact ⟨0, Nat.zero_le _, rfl, Below.refl _ _, Lib.hid fun j hj => absurd hj (Nat.not_lt_zero _)⟩
  case round =>
    obtain ⟨k, hk, rfl, hb, HA⟩ := hrel
    by_cases hlt : k < l.length
    · obtain rfl := HL.out (by omega)
      obtain ⟨c0, c1, c2, c3, c4, c5, c6, c7⟩ := HC.out k hlt
      have c0 := cell_below c0 hb
      have c1 := cell_below c1 hb
      have c2 := cell_below c2 hb
      have c3 := cell_below c3 hb
      have c4 := cell_below c4 hb
      have c5 := cell_below c5 hb
      have c6 := cell_below c6 hb
      have c7 := cell_below c7 hb
      have HK := Lib.hid (fun W hW => HP.out k W hlt hW)
      have HHk := Lib.hid (HH.out k hlt)
      have HN : Hid (p k = false → ∀ j, j < k + 1 → p j = false) := Lib.hid fun h j hj => by
        by_cases e : j = k
        · subst e; exact h
        · exact HA.out j (by omega)
      clear HP HC HM HL HH
      generalize gn l k = s at *
      cases hpk : p k with
      | true =>
        have HR := Lib.hid (HHk.out hpk HA.out)
        rw [hpk] at HK
        clear hpk HHk HN
        go_wp2_with fail
        refine (HK.out _ hb).mono ?_
        rintro e w1 ⟨rfl, hb1⟩
        go_wp2_with fail
        go_ret
        rw [HR.out]
        exact ⟨rfl, hb.trans (hb1.mono hb.size)⟩
      | false =>
        have HR := Lib.hid (HN.out hpk)
        rw [hpk] at HK
        clear hpk HHk HN
        go_wp2_with fail
        refine (HK.out _ hb).mono ?_
        rintro e w1 ⟨rfl, hb1⟩
        go_wp2_with fail
        go_roundw
        case rel => exact ⟨k + 1, by omega, by go_num, hb.trans (hb1.mono hb.size), HR⟩
        case measure => simp [intOf]; omega
    · obtain rfl : k = l.length := by omega
      have HR := Lib.hid (HM.out HA.out)
      go_wp2_with fail
      go_ret
      rw [HR.out]
      exact ⟨rfl, hb⟩
set_option maxRecDepth 100000 in
theorem containsNi_any (aa : Option Addr) (l : List Ni) (ca : Nat) (lb : Array Value) (p : Nat → Bool) (w : World) (hA : NightsS w aa l)
    (hp : ∀ j W, j < l.length → Below w.heap.size w W → Calls Try.prog 51 (#[.agg #[.int .i64 (gn l j).d, .int .i64 (gn l j).r, .int .i64 (gn l j).f, .int .i64 (gn l j).t, .int .i64 (gn l j).w, .int .i64 (gn l j).p, .bool (gn l j).rn, .bool (gn l j).fr]] ++ lb) W fun e w' => e = .returned (.bool (p j)) ∧ Below W.heap.size W w') :
    Calls Try.prog 50 #[.slice aa l.length ca, .func (.func 51) #[] lb] w fun e w' => e = .returned (.bool (anyK p l.length)) ∧ Below w.heap.size w w' := by
  have H := Lib.hid (idxNi_any aa l ca lb p w hA hp)
  have hq := Lib.hid (idxK_any p l.length)
  clear hp hA
  generalize idxK p l.length = R at *
  generalize anyK p l.length = B at *
  have hq := hq.out
  subst hq
  go_enter Try.func50, Try.ntmps50
  go_wp2_with fail
  refine H.out.mono ?_
  rintro e w1 ⟨rfl, hb1⟩
  go_wp2_with fail
  all_goals
    go_ret
    exact ⟨by simp_all, hb1⟩
set_option maxRecDepth 100000 in
set_option maxHeartbeats 1000000 in
theorem listsError_r (a : Option Addr) (js : List Jo) (ca : Nat) (b : Option Addr) (ns : List Ni) (cb : Nat) (w : World) (hA : JobsS w a js) (hB : NightsS w b ns) :
    Calls Try.prog 25 #[.slice a js.length ca, .slice b ns.length cb] w fun e w' => e = .returned (.int .i64 (errL js ns)) ∧ Below w.heap.size w w' := by
  have H1 := Lib.hid (jobsValid_r a js ca w hA)
  have H2 := Lib.hid (fun W (hW : Below w.heap.size w W) => containsNi_any b ns cb #[] (fun j => !(nightB (gn ns j))) W (hB.below hW) (fun j W' hj hW' => wrongN_r (gn ns j) W'))
  have HX : Hid (errL js ns = if jobsB js = true then (if (decide (ns.length ≤ 60) && !(anyK (fun k => !(nightB (gn ns k))) ns.length)) = true then 0 else 81) else 80) := Lib.hid rfl
  have hlen := hB.1
  clear hA hB
  generalize anyK (fun k => !(nightB (gn ns k))) ns.length = A at *
  cases g : jobsB js with
  | false =>
    rw [g] at H1 HX
    have HR : Hid (errL js ns = 80) := Lib.hid (HX.out.trans rfl)
    clear HX H2 g
    go_enter Try.func25, Try.ntmps25
    go_wp2_with fail
    refine H1.out.mono ?_
    rintro e w1 ⟨rfl, hb1⟩
    go_wp2_with fail
    go_ret
    exact ⟨by rw [HR.out]; rfl, hb1⟩
  | true =>
    rw [g] at H1 HX
    clear g
    by_cases h60 : ns.length ≤ 60
    · have d60 : decide ((60 : Int) < ns.length) = false := decide_eq_false (by omega)
      have HX : Hid (errL js ns = if (!A) = true then 0 else 81) := Lib.hid (by rw [HX.out, decide_eq_true h60]; rfl)
      cases A with
      | true =>
        have HR : Hid (errL js ns = 81) := Lib.hid (HX.out.trans rfl)
        clear HX
        go_enter Try.func25, Try.ntmps25
        go_wp2_with fail
        refine H1.out.mono ?_
        rintro e w1 ⟨rfl, hb1⟩
        go_wp2_with fail
        refine (H2.out _ hb1).mono ?_
        rintro e w2 ⟨rfl, hb2⟩
        go_wp2_with fail
        go_ret
        exact ⟨by rw [HR.out]; rfl, below_onN hb1 hb2 hb1.size⟩
      | false =>
        have HR : Hid (errL js ns = 0) := Lib.hid (HX.out.trans rfl)
        clear HX
        go_enter Try.func25, Try.ntmps25
        go_wp2_with fail
        refine H1.out.mono ?_
        rintro e w1 ⟨rfl, hb1⟩
        go_wp2_with fail
        refine (H2.out _ hb1).mono ?_
        rintro e w2 ⟨rfl, hb2⟩
        go_wp2_with fail
        go_ret
        exact ⟨by rw [HR.out]; rfl, below_onN hb1 hb2 hb1.size⟩
    · have d60 : decide ((60 : Int) < ns.length) = true := decide_eq_true (by omega)
      have HR : Hid (errL js ns = 81) := Lib.hid (by rw [HX.out, decide_eq_false h60]; rfl)
      clear HX H2
      go_enter Try.func25, Try.ntmps25
      go_wp2_with fail
      refine H1.out.mono ?_
      rintro e w1 ⟨rfl, hb1⟩
      go_wp2_with fail
      go_ret
      exact ⟨by rw [HR.out]; rfl, hb1⟩
end Go.Proofs.Ytghlhjiomebmhaa

namespace Go.Proofs.Ytghlhjiomebmhaa
set_option linter.unusedVariables false
set_option linter.unusedSimpArgs false
open Go.RowKit

/-- The cells of ints. -/
def clI (zs : List Int) : List Value := zs.map (Value.int .i64)
theorem clI_len (zs : List Int) : (clI zs).length = zs.length := by simp [clI]
theorem clI_app (zs : List Int) (x : Int) : clI (zs ++ [x]) = clI zs ++ [.int .i64 x] := by simp [clI]
theorem clI_get (zs : List Int) {i : Nat} (hi : i < zs.length) : (clI zs)[i]? = some (.int .i64 (gi zs i)) := by simp [clI, gi, hi]
theorem ints_nil (w : World) (a : Option Addr) : IntsS w a [] := ⟨by simp, fun i hi => absurd hi (Nat.not_lt_zero _), 0, 0, (fun h => absurd rfl h), fun i hi => absurd hi (Nat.not_lt_zero _)⟩
theorem ints_own {w : World} {base c : Nat} {a : Option Addr} {zs : List Int} {T : TypeId} (h : w.ownsRow base T 1 (.slice a zs.length c) zs.length (clI zs)) (hn : zs.length ≤ 9223372036854775807) (hf : ∀ j, j < zs.length → I64 (gi zs j)) : IntsS w a zs := by
  refine ⟨hn, hf, ?_⟩
  rcases h.2 with ⟨h1, h2⟩ | ⟨g2, c2, cur, h1, _⟩
  · exact ⟨0, 0, (fun hne => absurd (List.eq_nil_of_length_eq_zero h2) hne), fun i hi => by omega⟩
  · obtain ⟨rfl, rfl⟩ : a = some ⟨g2, 0, none⟩ ∧ c = c2 := by simpa using h1
    refine ⟨g2, 0, fun _ => rfl, fun i hi => ?_⟩
    rw [Nat.zero_add, World.ownsRow.cellAt h i (by omega)]; exact clI_get zs hi
theorem owns_belowI {w w' : World} {base : Nat} {e : TypeId} {size : Nat} {v : Value} {n : Nat} {xs : List Value} (h : w.ownsRow base e size v n xs) (hb : Below w.heap.size w w') : w'.ownsRow base e size v n xs := by
  refine ⟨h.1, ?_⟩
  rcases h.2 with h2 | ⟨g, cap, cur, h1, h2, h3, h4⟩
  · exact .inl h2
  · have hg : g < w.heap.size := (Array.getElem?_eq_some_iff.1 h3).1
    exact .inr ⟨g, cap, cur, h1, h2, by rw [hb.block g hg]; exact h3, h4⟩
theorem owns_baseI {w : World} {base base' : Nat} {e : TypeId} {size : Nat} {v : Value} {n : Nat} {xs : List Value} (h : w.ownsRow base e size v n xs) (hb : base' ≤ base) : w.ownsRow base' e size v n xs := by
  refine ⟨h.1, ?_⟩
  rcases h.2 with h2 | ⟨g, cap, cur, h1, h2, h3, h4⟩
  · exact .inl h2
  · exact .inr ⟨g, cap, cur, h1, Nat.le_trans hb h2, h3, h4⟩
theorem owns_blockI {w : World} {base : Nat} {e : TypeId} {size : Nat} {v : Value} {n : Nat} {xs : List Value} (h : w.ownsRow base e size v n xs) {z : Nat} (hz : v.ownBlock = some z) : base ≤ z := by
  rcases h.2 with ⟨h1, _⟩ | ⟨g2, c3, cur, h1, h2, _⟩
  · rw [h1] at hz; simp [Value.ownBlock] at hz
  · rw [h1] at hz; simp [Value.ownBlock] at hz; omega
theorem infoInt : (Try.prog.info? 3).map (fun i => (i.zero, i.size, i.bytes)) = some (some (.int .i64 0), 1, 8) := by kernel_rfl
theorem infoRow : (Try.prog.info? 26).map (fun i => (i.zero, i.size, i.bytes)) = some (some (.slice none 0 0), 1, 24) := by kernel_rfl
theorem undRow : Try.prog.underlying 26 = some (.slice 3) := by kernel_rfl
theorem undRows : Try.prog.underlying 62 = some (.slice 26) := by kernel_rfl
/-- append of one int to a row of one's own. -/
theorem app_int {w : World} {ops : Array Oper} {rest : List Oper} {o : Oper} {a : Act} {Q : Exit → Act → World → Prop} (hgd : o.guard = none) (s x : Operand)
    (ho : o.op = .call { callee := .builtin .append, args := #[s, x], argTypes := #[26, 26] })
    (base n c : Nat) (b : Option Addr) (xs : List Value) (hs : a.eval s = .slice b n c) (hown : w.ownsRow base 3 1 (.slice b n c) n xs)
    (B : Nat) (u : Value) (hx : a.eval x = .slice (some ⟨B, 0, none⟩) 1 1) (hc : w.cell? ⟨B, 0, none⟩ = some u) (hu : u.oneCell' = true) (hn : n ≤ 1000000) (hbase : base ≤ w.heap.size)
    (h : ∀ g c' w', w'.ownsRow base 3 1 (.slice (some ⟨g, 0, none⟩) (n + 1) c') (n + 1) (xs ++ [u]) → Below base w w' → wpList Try.prog ops Q rest (a.put o.dst (.slice (some ⟨g, 0, none⟩) (n + 1) c')) w') : wpList Try.prog ops Q (o :: rest) a w := by
  obtain ⟨i0, hi, hz0, hz1, hz2⟩ := info_parts infoInt
  refine wpList_append_lies w hgd s x 26 ho base 3 i0 _ 1 8 undRow hi hz0 hz1 hz2 rfl (by decide) (.slice b n c) n xs hs hown ⟨B, 0, none⟩ 1 1 [u] hx rfl ?_ ?_ (by decide) (by unfold maxLen; omega) (by omega) hbase _ rfl ?_
  · intro j v hj
    match j, hj with
    | 0, hj => simp at hj; subst hj; exact hc
  · intro v hv; simp at hv; subst hv; exact hu
  · intro g c' w' h1 h2 h3 h4
    exact h g c' w' h1 ((Below.refl base w).grown h2 hbase (fun k hk => owns_blockI hown hk)) 
/-- Those of the numbers below n that are such. -/
def selK (p : Nat → Bool) : Nat → List Int
  | 0 => []
  | k + 1 => if p k = true then selK p k ++ [(k : Int)] else selK p k
theorem selK_len (p : Nat → Bool) : ∀ k, (selK p k).length ≤ k
  | 0 => by simp [selK]
  | k + 1 => by
    have := selK_len p k
    unfold selK
    split
    · rw [List.length_append]; simp; omega
    · omega
/-- A list of ints of one's own comes back. -/
def IdxE (w : World) (l : List Int) (e : Ending) (w' : World) : Prop :=
  ∃ a c, e = .returned (.slice a l.length c) ∧ w'.ownsRow w.heap.size 3 1 (.slice a l.length c) l.length (clI l) ∧ Below w.heap.size w w'
set_option maxRecDepth 100000 in
set_option maxHeartbeats 2000000 in
theorem indexes_ct (n : Nat) (hn : n ≤ 100000) (lb : Array Value) (p : Nat → Bool) (w : World)
    (hp : ∀ j W, j < n → Below w.heap.size w W → Calls Try.prog 70 (#[.int .i64 j] ++ lb) W fun e w' => e = .returned (.bool (p j)) ∧ Below W.heap.size W w') :
    Calls Try.prog 36 #[.int .i64 n, .func (.func 70) #[] lb] w fun e w' => IdxE w (selK p n) e w' := by
  have HP := Lib.hid hp
  have HS : Hid (∀ k, selK p (k + 1) = if p k = true then selK p k ++ [(k : Int)] else selK p k) := Lib.hid fun k => rfl
  have HN : Hid (∀ k, (selK p k).length ≤ k) := Lib.hid (selK_len p)
  have H0 : Hid (selK p 0 = []) := Lib.hid rfl
  clear hp
  go_enter Try.func36, Try.ntmps36
  go_wp2_with fail
  go_loopw [5, 8] (fun v i wr => ∃ k : Nat, k ≤ n ∧ i = .int .i64 k ∧ (∃ a c, v = .slice a (selK p k).length c) ∧ Hid (wr.ownsRow w.heap.size 3 1 v (selK p k).length (clI (selK p k))) ∧ Below w.heap.size w wr) (fun _ i _ => n - (intOf i).toNat)
  case atStart => exact ⟨0, Nat.zero_le _, rfl, ⟨none, 0, by rw [H0.out]; rfl⟩, Lib.hid (by rw [H0.out]; exact ⟨rfl, .inl ⟨rfl, rfl⟩⟩), Below.refl _ _⟩
  case round =>
    obtain ⟨k, hk, rfl, ⟨av, cv, rfl⟩, HRow, hb⟩ := hrel
    by_cases hlt : k < n
    · have HK := Lib.hid (fun W hW => HP.out k W hlt hW)
      have HSk := Lib.hid (HS.out k)
      have hNk := HN.out k
      clear HP HS H0 HN
      cases hpk : p k with
      | false =>
        rw [hpk] at HK HSk
        have HS1 : Hid (selK p (k + 1) = selK p k) := Lib.hid (HSk.out.trans (if_neg (by decide)))
        clear hpk HSk
        generalize hX : selK p k = X at *
        clear hX
        go_wp2_with fail
        refine (HK.out _ hb).mono ?_
        rintro e w1 ⟨rfl, hb1⟩
        have HRow := Lib.hid (owns_belowI HRow.out hb1)
        have hb := below_onN hb hb1 hb.size
        clear hb1
        go_wp2_with fail
        go_roundw
        case rel => exact ⟨k + 1, by omega, by go_num, ⟨av, cv, by rw [HS1.out]⟩, by rw [HS1.out]; exact HRow, hb⟩
        case measure => simp [intOf]; omega
      | true =>
        rw [hpk] at HK HSk
        have HS1 : Hid (selK p (k + 1) = selK p k ++ [(k : Int)]) := Lib.hid (HSk.out.trans (if_pos rfl))
        clear hpk HSk
        generalize hX : selK p k = X at *
        clear hX
        go_wp2_with fail
        refine (HK.out _ hb).mono ?_
        rintro e w1 ⟨rfl, hb1⟩
        have HRow := Lib.hid (owns_belowI HRow.out hb1)
        have hb := below_onN hb hb1 hb.size
        have hbs := hb.size
        clear hb1 HK
        obtain ⟨m, hm⟩ : ∃ m, X.length = m := ⟨_, rfl⟩
        have HM := Lib.hid hm
        rw [hm] at HRow hNk
        rw [hm]
        clear hm
        have hown := Lib.hid (HRow.out.alloc (.cells #[.int .i64 k] 3))
        go_wp2_with (first | (at_builtin; go_loud (refine app_int rfl _ _ rfl w.heap.size m cv av _ rfl hown.out w1.heap.size (.int .i64 k) rfl ?d1 (by rfl) (by omega) ?d2 ?_)))
        case d1 => simp [go_sem]
        case d2 => first | (simp; omega) | omega
        intro g6 c6 w6 hown6 hb6
        have hb6 : Below w.heap.size w w6 := (hb.alloc hbs _).trans hb6
        have hrow6 : Hid (w6.ownsRow w.heap.size 3 1 (.slice (some ⟨g6, 0, none⟩) (m + 1) c6) (m + 1) (clI (X ++ [(k : Int)]))) := Lib.hid (by rw [clI_app]; exact hown6)
        clear hown6 hown HRow
        go_wp2_with fail
        go_roundw
        case rel => exact ⟨k + 1, by omega, by go_num, ⟨_, c6, by rw [HS1.out, List.length_append, HM.out]; rfl⟩, by rw [HS1.out, List.length_append, HM.out]; exact hrow6, hb6⟩
        case measure => simp [intOf]; omega
    · obtain rfl : k = n := by omega
      clear HP HS HN H0
      go_wp2_with fail
      go_ret
      exact ⟨av, cv, rfl, HRow.out, hb⟩
set_option maxRecDepth 100000 in
theorem cnt1_r (l : List Int) (x : Int) (a : Option Addr) (ca Bl Be k : Nat) (hk : k < l.length) (w : World) (hI : IntsC w a l) (c0 : w.cell? ⟨Bl, 0, none⟩ = some (.slice a l.length ca)) (c1 : w.cell? ⟨Be, 0, none⟩ = some (.int .i64 x)) :
    Calls Try.prog 70 (#[.int .i64 k] ++ #[.pointer (some ⟨Bl, 0, none⟩), .pointer (some ⟨Be, 0, none⟩)]) w fun e w' => e = .returned (.bool (gi l k == x)) ∧ Below w.heap.size w w' := by
  obtain ⟨hlen, blk, off, hadr, hc⟩ := hI
  obtain rfl := hadr (pos_ne (n := 0) hk)
  have cc := hc k hk
  clear hc hadr
  generalize gi l k = y at *
  have hk1 : decide ((0 : Int) ≤ k) = true := decide_eq_true (by omega)
  have hk2 : decide ((k : Int) < l.length) = true := decide_eq_true (by omega)
  cases hxy : (y == x) with
  | true =>
    go_enter Try.func70, Try.ntmps70
    go_wp2_with fail
    go_quiet (fail)
    go_wp2_with fail
    go_ret
    exact ⟨by simp_all, below_drewN (Below.refl _ _) _⟩
  | false =>
    go_enter Try.func70, Try.ntmps70
    go_wp2_with fail
    go_quiet (fail)
    go_wp2_with fail
    go_ret
    exact ⟨by simp_all, below_drewN (Below.refl _ _) _⟩
/-- How often x is in a list. -/
def cntN (l : List Int) (x : Int) : Int := ((selK (fun k => gi l k == x) l.length).length : Nat)
set_option maxRecDepth 100000 in
set_option maxHeartbeats 1000000 in
theorem count_r (a : Option Addr) (l : List Int) (ca : Nat) (x : Int) (w : World) (hI : IntsC w a l) (hn : l.length ≤ 100000) :
    Calls Try.prog 57 #[.slice a l.length ca, .int .i64 x] w fun e w' => e = .returned (.int .i64 (cntN l x)) ∧ Below w.heap.size w w' := by
  obtain ⟨wB, hwB⟩ : ∃ wB, (w.alloc (.cells #[.slice a l.length ca] 26)).alloc (.cells #[.int .i64 x] 3) = wB := ⟨_, rfl⟩
  have hb : Below w.heap.size w wB := by rw [← hwB]; exact ((Below.refl _ _).alloc (by simp) _).alloc (by simp) _
  have p0 : wB.cell? ⟨w.heap.size, 0, none⟩ = some (.slice a l.length ca) := by rw [← hwB]; simp [go_sem]
  have p1 : wB.cell? ⟨w.heap.size + 1, 0, none⟩ = some (.int .i64 x) := by rw [← hwB]; simp [go_sem]
  have hi := hI.below hb
  have HC := Lib.hid (indexes_ct l.length hn #[.pointer (some ⟨w.heap.size, 0, none⟩), .pointer (some ⟨w.heap.size + 1, 0, none⟩)] (fun k => gi l k == x) wB (fun j W hj hW => cnt1_r l x a ca w.heap.size (w.heap.size + 1) j hj W (hi.below hW) (cell_below p0 hW) (cell_below p1 hW)))
  have HE : Hid (cntN l x = ((selK (fun k => gi l k == x) l.length).length : Nat)) := Lib.hid rfl
  clear hi hI p1
  generalize selK (fun k => gi l k == x) l.length = X at *
  go_enter Try.func57, Try.ntmps57
  go_wp2_with fail
  refine HC.out.mono ?_
  rintro e w1 ⟨aX, cX, rfl, hrow, hb1⟩
  clear hrow
  go_wp2_with fail
  go_ret
  exact ⟨by rw [HE.out]; rfl, below_onN hb hb1 hb.size⟩
end Go.Proofs.Ytghlhjiomebmhaa
