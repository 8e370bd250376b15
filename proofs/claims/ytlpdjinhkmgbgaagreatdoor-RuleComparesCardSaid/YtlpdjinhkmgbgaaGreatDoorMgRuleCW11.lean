/-
  From the rows' lists to the table of ways (package rule). By an AI agent.
-/
import Derived.Test.YtlpdjinhkmgbgaaGreatDoorMgRuleCW10
import Derived.Test.YtlpdjinhkmgbgaaGreatDoorRows
import Derived.ProofKit
import Derived.OpenShut
import Derived.LaidMore
import Derived.Lib.LaidTab
import Derived.Stop.LaidErr
import Derived.ChangeAgain
import Derived.Stop.Joined

namespace Go.Proofs.YtlpdjinhkmgbgaaGreatDoor
set_option linter.unusedVariables false
set_option linter.unusedSimpArgs false
open Go.RowKit Go.ChangeShapes Go.WideShapes Go.ChangeAt

section
variable {P : Program} {W : World}
theorem laid_hereU {name : String} {d : DataW Unit} {rest : List (String × DataW Unit)} {g : Nat} {t : TypeId} (hg : P.globalNamed name = some g) (hty : (P.globals[g]?).map (·.type) = some t)
    (h : laidMet P ((name, d) :: rest) W) : ∃ cs fuel p, W.var? P name = some cs ∧ DataW.trod (fun _ => ()) P W 0 (fun _ => true) false fuel t cs.toList = some (d, p) := by
  obtain ⟨ps, ⟨g', t', cs, fuel, p, q, hg', ht', hvar, hd, _, _⟩, _⟩ := h
  obtain rfl := Option.some.inj (hg.symm.trans hg')
  obtain rfl := Option.some.inj (hty.symm.trans ht')
  exact ⟨cs, fuel, p, hvar, hd⟩
theorem laid_memU {name : String} {d : DataW Unit} {g : Nat} {t : TypeId} (hg : P.globalNamed name = some g) (hty : (P.globals[g]?).map (·.type) = some t) :
    ∀ {l : List (String × DataW Unit)}, laidMet P l W → (name, d) ∈ l → ∃ cs fuel p, W.var? P name = some cs ∧ DataW.trod (fun _ => ()) P W 0 (fun _ => true) false fuel t cs.toList = some (d, p)
  | [], _, hm => by cases hm
  | x :: r, h, hm => by
    rcases List.mem_cons.1 hm with rfl | hm
    · exact laid_hereU hg hty h
    · exact laid_memU hg hty h.tail hm
theorem take_oneU {l : List Value} {a : Nat} {v : Value} (h : (l.drop a).take 1 = [v]) : l[a]? = some v := by
  have h0 : ((l.drop a).take 1)[0]? = some v := by rw [h]; rfl
  simpa using h0
theorem take_partU {l : List Value} {a b c : Nat} {v : Value} (hc : c < b) (h : ((((l.drop a).take b)).drop c).take 1 = [v]) : l[a + c]? = some v := by
  have h0 : ((((l.drop a).take b).drop c).take 1)[0]? = some v := by rw [h]; rfl
  simp [hc] at h0
  exact h0
variable {H : Type} {enc : TypeId × Value → H} {base : Nat} {sp : Nat → Bool} {held : Bool} {fuel : Nat}
theorem pairs_of_trodU {t e : TypeId} {n : Nat} {f0 f1 : Field} {k : IntKind} {cs : List Value} {p : List MemPlace} {ks : List (Int × Int)} (ht : P.underlying t = some (.array n e)) (he : P.underlying e = some (.struct #[f0, f1])) (hce : P.cellsOf e = 2) (hn : ks.length = n)
    (o0 : f0.offset = 0) (o1 : f1.offset = 1) (c0 : P.cellsOf f0.type = 1) (c1 : P.cellsOf f1.type = 1)
    (t0 : P.underlying f0.type = some (.int k)) (t1 : P.underlying f1.type = some (.int k))
    (h : DataW.trod enc P W base sp held fuel t cs = some (.agg (ks.map fun x => .agg [.lit (.int k x.1), .lit (.int k x.2)]), p)) (i : Nat) (hi : i < ks.length) :
    cs[i * 2]? = some (.int k ks[i].1) ∧ cs[i * 2 + 1]? = some (.int k ks[i].2) := by
  obtain ⟨xs, m, _, ex, _, hl, hel⟩ := DataW.trod_array ht h
  have hE := hel i (by omega)
  rw [hce, List.getElem?_eq_getElem (by omega)] at hE
  have e3 := (DataW.agg.inj (Prod.mk.inj ex).1).symm
  have e4 := congrArg (·[i]?) e3
  simp only [List.getElem?_map, List.getElem?_eq_getElem (by omega : i < xs.length), List.getElem?_eq_getElem hi, Option.map_some, Option.some.injEq] at e4
  obtain ⟨ys, n', _, ey, _, hyl, hf⟩ := DataW.trod_struct he hE
  have g0 := hf 0 f0 rfl
  have g1 := hf 1 f1 rfl
  rw [o0, c0] at g0
  rw [o1, c1] at g1
  match ys, hyl with
  | [y0, y1], _ =>
    simp only [List.getElem?_cons_zero, List.getElem?_cons_succ] at g0 g1
    obtain ⟨z, a0, b0, _⟩ := DataW.trod_int t0 g0
    obtain ⟨z1, a1, b1, _⟩ := DataW.trod_int t1 g1
    rw [ey] at e4
    subst b0 b1
    simp only [List.map_cons, List.map_nil, DataW.agg.injEq, List.cons.injEq, DataW.lit.injEq, Lit.int.injEq, and_true, true_and] at e4
    obtain ⟨q0, q1⟩ := e4
    have r0 := take_partU (by decide) a0
    have r1 := take_partU (by decide) a1
    rw [q0] at r0
    rw [q1] at r1
    exact ⟨r0, r1⟩
theorem low_leU (h : W.ShapedOpen P) (hg : P.globals.size < P.low) : P.low ≤ W.heap.size := by
  obtain ⟨o, _, ho, _⟩ := h.2 (P.low - 1) (by omega) (by show P.low - 1 < P.low; omega)
  have : P.low - 1 < W.heap.size := by
    apply Nat.lt_of_not_le
    intro hle
    rw [Array.getElem?_eq_none hle] at ho
    cases ho
  omega
end
theorem gWays : Tryz.prog.globalNamed "blazon/rule.ways" = some 0 := by kernel_rfl
theorem yWays : (Tryz.prog.globals[0]?).map (·.type) = some 74 := by kernel_rfl
theorem cWay : Tryz.prog.cellsOf 73 = 2 := by kernel_rfl
theorem cIntU : Tryz.prog.cellsOf 3 = 1 := by kernel_rfl
theorem lowPU : (decide (0 < Tryz.prog.low)) = true := by kernel_rfl
def wRows : List (Int × Int) := [(1, 1), (1, -1), (2, 1), (2, -1)]
theorem tabs_ofU {W : World} {l : List (String × DataW Unit)} (h : laidMet Tryz.prog l W) (hsh : W.ShapedOpen Tryz.prog)
    (m0 : ("blazon/rule.ways", Rows.laid_blazon_rule_ways) ∈ l) : WayTab W := by
  have hlow : 0 < W.heap.size := by
    have h1 := of_decide_eq_true lowPU
    have h2 := low_leU hsh (of_decide_eq_true (by kernel_rfl))
    omega
  obtain ⟨cs0, f0, p0, v0, d0⟩ := laid_memU gWays yWays h m0
  have hp := pairs_of_trodU (ks := wRows) Tryz.underlying74 Tryz.underlying73 cWay rfl rfl rfl cIntU cIntU Tryz.underlying3 Tryz.underlying3 d0
  have e0 := hp 0 (by decide)
  have e1 := hp 1 (by decide)
  have e2 := hp 2 (by decide)
  have e3 := hp 3 (by decide)
  simp only [Array.getElem?_toList] at e0 e1 e2 e3
  refine ⟨hlow, ?_, ?_, ?_, ?_, ?_, ?_, ?_, ?_⟩ <;> rw [World.var?_cell gWays v0]
  · exact e0.1
  · exact e0.2
  · exact e1.1
  · exact e1.2
  · exact e2.1
  · exact e2.2
  · exact e3.1
  · exact e3.2
end Go.Proofs.YtlpdjinhkmgbgaaGreatDoor
