/-
  Maps whose entries are known one by one: look-up, store and range as equations on the block. By an AI agent.
-/
import Derived.Maps.RangeRun
import Derived.Maps.OwnSet
import Derived.OwnWalk
import Derived.Below
import Derived.Carry
namespace Go.Proofs.YthiaefhejdfobaaGreat
set_option linter.unusedVariables false
set_option linter.unusedSimpArgs false
open Go.ChangeMaps (setBlock)
open Go.MapKept
open Go.RowKit

section
variable {P : Program} {t k e : TypeId} {w : World} {B : Nat} {es : Array MapEntry} {clock : Nat} {key : Value}
theorem ck_int (hk : P.underlying k = some (.int .i64)) (y : Int) (em : Bool) (w : World) : (Instr.checkKey em 10000 k (.int .i64 y)).run P w = .ok () w := run_checkKey hk (by simp [IsKey]) em 9999
theorem fk_int (hk : P.underlying k = some (.int .i64)) (y : Int) {l : List MapEntry} {r : Option (Nat × Value)} (h : Instr.findNow (.int .i64) (.int .i64 y) l 0 = some r) (w : World) : (Instr.findKey k (.int .i64 y) l).run P w = .ok r w := run_findKey hk h
/-- A look-up. -/
theorem raw_look (hb : w.heap[B]? = some (.map es clock)) (ht : P.underlying t = some (.map k e)) (hck : (Instr.checkKey es.isEmpty 10000 k key).run P w = .ok () w) (r : Option (Nat × Value))
    (hf : (Instr.findKey k key es.toList).run P w = .ok r w) (z : Value) (hz : (zeroValue e).run P w = .ok z w) :
    (Instr.lookup t (.map (some B)) key false).run P w = .ok ((r.map (·.2)).getD z) w := by
  generalize hn : (10000 : Nat) = n at hck
  cases r with
  | none => simp only [Instr.lookup, run_underlying ht, getObj, hb, Sem.run_bind, Sem.run, Result.andThen]; rw [hn]; simp [hck, hf, hz, Sem.run_bind, Sem.run, Result.andThen]
  | some r => simp only [Instr.lookup, run_underlying ht, getObj, hb, Sem.run_bind, Sem.run, Result.andThen]; rw [hn]; simp [hck, hf, hz, Sem.run_bind, Sem.run, Result.andThen]
theorem raw_look_ok (hb : w.heap[B]? = some (.map es clock)) (ht : P.underlying t = some (.map k e)) (hck : (Instr.checkKey es.isEmpty 10000 k key).run P w = .ok () w) (r : Option (Nat × Value))
    (hf : (Instr.findKey k key es.toList).run P w = .ok r w) (z : Value) (hz : (zeroValue e).run P w = .ok z w) :
    (Instr.lookup t (.map (some B)) key true).run P w = .ok (.tuple #[(r.map (·.2)).getD z, .bool r.isSome]) w := by
  generalize hn : (10000 : Nat) = n at hck
  cases r with
  | none => simp only [Instr.lookup, run_underlying ht, getObj, hb, Sem.run_bind, Sem.run, Result.andThen]; rw [hn]; simp [hck, hf, hz, Sem.run_bind, Sem.run, Result.andThen]
  | some r => simp only [Instr.lookup, run_underlying ht, getObj, hb, Sem.run_bind, Sem.run, Result.andThen]; rw [hn]; simp [hck, hf, hz, Sem.run_bind, Sem.run, Result.andThen]
/-- A store at a key that is not there. -/
theorem raw_put (hb : w.heap[B]? = some (.map es clock)) (ht : P.underlying t = some (.map k e)) (hck : (Instr.checkKey false 10000 k key).run P w = .ok () w) (v : Value)
    (hf : (Instr.findKey k key es.toList).run P w = .ok none w) :
    (Instr.mapUpdate t (.map (some B)) key v).run P w = .ok () (setBlock w B (.map (es.push { key := key, val := v, born := clock }) (clock + 1))) := by
  generalize hn : (10000 : Nat) = n at hck
  simp only [Instr.mapUpdate, run_underlying ht, getObj, hb, Sem.run_bind, Sem.run, Result.andThen]; rw [hn]; simp [hck, hf, setObj, hb, Sem.run_bind, Sem.run, Result.andThen, setBlock]
theorem setBlock_at (hb : w.heap[B]? = some (.map es clock)) (o : Obj) : (setBlock w B o).heap[B]? = some o := (heap_set hb).1
theorem setBlock_grown (w : World) (B : Nat) (o : Obj) : w.grownBy (setBlock w B o) (some B) :=
  ⟨rfl, rfl, rfl, by simp [setBlock], fun i hi hne => by
    have : i ≠ B := fun h => hne (by rw [h])
    simp [setBlock, Ne.symm this]⟩
end
theorem left_one (k v : Value) : leftOf #[(⟨k, v, 0⟩ : MapEntry)] #[] = #[⟨k, v, 0⟩] := by simp [leftOf]
theorem left_done (k v : Value) : leftOf #[(⟨k, v, 0⟩ : MapEntry)] #[0] = #[] := by simp [leftOf]
theorem left_nil (s : Array Nat) : leftOf #[] s = #[] := by simp [leftOf]
section
variable {P : Program} (w : World) {ops : Array Oper} {rest : List Oper} {o : Oper} {a : Act} {Q : Exit → Act → World → Prop}
/-- A store at a key that is not there, at the operation. -/
theorem wpList_put_raw (hg : o.guard = none) (m x v : Operand) (t : TypeId) (hop : o.op = Op.mapUpdate t m x v) (k e : TypeId) (B : Nat) (es : Array MapEntry) (clock : Nat) (key val : Value)
    (hm : a.eval m = .map (some B)) (hb : w.heap[B]? = some (.map es clock)) (ht : P.underlying t = some (.map k e)) (hx : a.eval x = key) (hv : a.eval v = val)
    (hck : (Instr.checkKey false 10000 k key).run P w = .ok () w) (hf : (Instr.findKey k key es.toList).run P w = .ok none w)
    (hK : ∀ w', w'.heap[B]? = some (.map (es.push { key := key, val := val, born := clock }) (clock + 1)) → w.grownBy w' (some B) → wpList P ops Q rest (a.put o.dst undef) w') :
    wpList P ops Q (o :: rest) a w := by
  refine wpList_plain hg fun K' hK' => ?_
  have hrun := raw_put hb ht hck val hf
  unfold Oper.wp
  simp [execOp, hop, hm, hx, hv, hrun, Result.andThen]
  exact hK' _ _ (hK _ (setBlock_at hb _) (setBlock_grown _ _ _))
/-- A range over a map. -/
theorem wpList_range_raw (hg : o.guard = none) (m : Operand) (t : TypeId) (hop : o.op = Op.range t m) (k e : TypeId) (B : Nat) (es : Array MapEntry) (clock : Nat)
    (hm : a.eval m = .map (some B)) (hb : w.heap[B]? = some (.map es clock)) (ht : P.underlying t = some (.map k e))
    (hK : wpList P ops Q rest (a.put o.dst (.pointer (some ⟨w.heap.size, 0, none⟩))) (w.alloc (.mapIter (some B) clock #[] clock))) :
    wpList P ops Q (o :: rest) a w := by
  refine wpList_plain hg fun K' hK' => ?_
  have hrun := run_range_map w t k e B es clock ht hb
  unfold Oper.wp
  simp [execOp, hop, hm, hrun, Result.andThen]
  exact hK' _ _ hK
/-- A step of the range, nothing is left. -/
theorem wpList_next_over (hg : o.guard = none) (it : Operand) (hop : o.op = Op.next it false) (B r since c0 : Nat) (seen : Array Nat) (es : Array MapEntry) (clock : Nat)
    (hit : a.eval it = .pointer (some ⟨r, 0, none⟩)) (hr : w.heap[r]? = some (.mapIter (some B) since seen c0)) (hb : w.heap[B]? = some (.map es clock)) (hold : ∀ x ∈ es.toList, x.born < since) (hsc : since ≤ c0)
    (h0 : leftOf es seen = #[])
    (hK : wpList P ops Q rest (a.put o.dst (.tuple #[.bool false])) w) :
    wpList P ops Q (o :: rest) a w := by
  refine wpList_plain hg fun K' hK' => ?_
  rcases run_next_at (P := P) w o.type r B since c0 seen es clock hr hb hold hsc with ⟨_, hrun⟩ | ⟨e, he, _⟩
  · unfold Oper.wp
    simp [execOp, hop, hit, hrun, Result.andThen]
    exact hK' _ _ hK
  · rw [h0] at he; simp at he
/-- A step of the range, one entry is left. -/
theorem wpList_next_one (hg : o.guard = none) (it : Operand) (hop : o.op = Op.next it false) (B r since c0 : Nat) (seen : Array Nat) (es : Array MapEntry) (clock : Nat) (e : MapEntry)
    (hit : a.eval it = .pointer (some ⟨r, 0, none⟩)) (hr : w.heap[r]? = some (.mapIter (some B) since seen c0)) (hb : w.heap[B]? = some (.map es clock)) (hold : ∀ x ∈ es.toList, x.born < since) (hsc : since ≤ c0)
    (h0 : leftOf es seen = #[e]) (hn : (es.toList.map (·.born)).Nodup)
    (hK : ∀ w', w'.heap[r]? = some (.mapIter (some B) since (seen.push e.born) clock) → w.grownBy w' (some r) →
      (Instr.entry (.pointer (some ⟨r, 0, none⟩))).run P w' = .ok (.tuple #[e.key, e.val]) w' → wpList P ops Q rest (a.put o.dst (.tuple #[.bool true, e.key, e.val])) w') :
    wpList P ops Q (o :: rest) a w := by
  refine wpList_plain hg fun K' hK' => ?_
  have hrb : r ≠ B := by intro h; rw [h, hb] at hr; cases hr
  have hlt : r < w.heap.size := (Array.getElem?_eq_some_iff.1 hr).1
  rcases run_next_at (P := P) w o.type r B since c0 seen es clock hr hb hold hsc with ⟨h1, _⟩ | ⟨x, hx, w1, hw1, hrun⟩
  · rw [h0] at h1; simp at h1
  · have hmem : x ∈ es.toList := by unfold leftOf at hx; simp at hx ⊢; exact hx.1
    rw [h0] at hx
    have hx : x = e := by simpa using hx
    subst hx
    unfold Oper.wp
    simp [execOp, hop, hit, hrun, Result.andThen]
    have hr1 : w1.heap[r]? = some (.mapIter (some B) since seen c0) := by rcases hw1 with rfl | rfl <;> exact hr
    have g : w.grownBy (setBlock w1 r (.mapIter (some B) since (seen.push x.born) clock)) (some r) := by
      rcases hw1 with rfl | rfl
      · exact setBlock_grown _ _ _
      · have k := setBlock_grown w.drew r (.mapIter (some B) since (seen.push x.born) clock)
        exact ⟨k.os, k.tape, k.output, k.size, k.block⟩
    have hs : (setBlock w1 r (.mapIter (some B) since (seen.push x.born) clock)).heap.size = w.heap.size := by rcases hw1 with rfl | rfl <;> simp [setBlock]
    have h1 := (heap_set (o' := Obj.mapIter (some B) since (seen.push x.born) clock) hr1).1
    have hb1 : (setBlock w1 r (.mapIter (some B) since (seen.push x.born) clock)).heap[B]? = some (.map es clock) := (g.block B (Array.getElem?_eq_some_iff.1 hb).1 (by simp; exact fun h => hrb h.symm)).trans hb
    exact hK' _ _ (hK _ h1 g (run_entry_at _ r B since seen es clock x h1 hb1 hmem hn))
end
end Go.Proofs.YthiaefhejdfobaaGreat
