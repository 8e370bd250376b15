/-
  From the rows' lists to what the walks ask of the variables: Tabs. By an AI agent.
-/
import Derived.Test.YtbogmdelceikgaaGreatDoorRows
import Derived.Test.YtbogmdelceikgaaGreatDoorFaceJ
import Derived.ProofKit
import Derived.OpenShut
import Derived.LaidMore
import Derived.Lib.LaidTab
import Derived.Stop.LaidErr
import Derived.ChangeAgain
import Derived.Stop.Joined
namespace Go.Proofs.YtbogmdelceikgaaGreatDoor
open Go.RowKit Go.ChangeShapes Go.WideShapes Go.ChangeAt

section
variable {P : Program} {W : World}
theorem laid_here {name : String} {d : DataW Unit} {rest : List (String × DataW Unit)} {g : Nat} {t : TypeId} (hg : P.globalNamed name = some g) (hty : (P.globals[g]?).map (·.type) = some t)
    (h : laidMet P ((name, d) :: rest) W) : ∃ cs fuel p, W.var? P name = some cs ∧ DataW.trod (fun _ => ()) P W 0 (fun _ => true) false fuel t cs.toList = some (d, p) := by
  obtain ⟨ps, ⟨g', t', cs, fuel, p, q, hg', ht', hvar, hd, _, _⟩, _⟩ := h
  obtain rfl := Option.some.inj (hg.symm.trans hg')
  obtain rfl := Option.some.inj (hty.symm.trans ht')
  exact ⟨cs, fuel, p, hvar, hd⟩
theorem take_one {l : List Value} {a : Nat} {v : Value} (h : (l.drop a).take 1 = [v]) : l[a]? = some v := by
  have h0 : ((l.drop a).take 1)[0]? = some v := by rw [h]; rfl
  simpa using h0
theorem take_part {l : List Value} {a b c : Nat} {v : Value} (hc : c < b) (h : ((((l.drop a).take b)).drop c).take 1 = [v]) : l[a + c]? = some v := by
  have h0 : ((((l.drop a).take b).drop c).take 1)[0]? = some v := by rw [h]; rfl
  simp [hc] at h0
  exact h0
theorem bytes_of {s : ByteArray} {l : List UInt8} (h : s.data.toList = l) : s = ⟨l.toArray⟩ := by
  cases s; subst h; rfl
variable {H : Type} {enc : TypeId × Value → H} {base : Nat} {sp : Nat → Bool} {held : Bool} {fuel : Nat}
theorem strs_of_trod {t e : TypeId} {n : Nat} {cs : List Value} {p : List MemPlace} {ss : List (List UInt8)} (ht : P.underlying t = some (.array n e)) (he : P.underlying e = some .string) (hce : P.cellsOf e = 1) (hn : ss.length = n)
    (h : DataW.trod enc P W base sp held fuel t cs = some (.agg (ss.map fun s => .lit (.string s)), p)) (i : Nat) (hi : i < n) : cs[i]? = some (.string ⟨(ss.getD i []).toArray⟩) := by
  obtain ⟨xs, m, _, ex, _, hl, hel⟩ := DataW.trod_array ht h
  have hE := hel i hi
  rw [hce, Nat.mul_one, List.getElem?_eq_getElem (by omega)] at hE
  obtain ⟨s, e1, e2, _⟩ := DataW.trod_string he hE
  have e3 : (xs.map (·.1)) = ss.map fun s => .lit (.string s) := (DataW.agg.inj (Prod.mk.inj ex).1).symm
  have e4 : (xs.map (·.1))[i]? = (ss.map fun s => (DataW.lit (.string s) : DataW H))[i]? := by rw [e3]
  rw [List.getElem?_map, List.getElem?_map, List.getElem?_eq_getElem (by omega : i < xs.length), List.getElem?_eq_getElem (by omega : i < ss.length), e2] at e4
  simp only [Option.map_some, Option.some.injEq, DataW.lit.injEq, Lit.string.injEq] at e4
  rw [take_one e1, bytes_of e4, List.getD, List.getElem?_eq_getElem (by omega : i < ss.length)]
  rfl
theorem rows_of_trod {t e : TypeId} {n : Nat} {f0 f1 f2 f3 : Field} {k : IntKind} {cs : List Value} {p : List MemPlace} {ks : List (List UInt8 × Int × Bool × Bool)} (ht : P.underlying t = some (.array n e)) (he : P.underlying e = some (.struct #[f0, f1, f2, f3])) (hce : P.cellsOf e = 4) (hn : ks.length = n)
    (o0 : f0.offset = 0) (o1 : f1.offset = 1) (o2 : f2.offset = 2) (o3 : f3.offset = 3) (c0 : P.cellsOf f0.type = 1) (c1 : P.cellsOf f1.type = 1) (c2 : P.cellsOf f2.type = 1) (c3 : P.cellsOf f3.type = 1)
    (t0 : P.underlying f0.type = some .string) (t1 : P.underlying f1.type = some (.int k)) (t2 : P.underlying f2.type = some .bool) (t3 : P.underlying f3.type = some .bool)
    (h : DataW.trod enc P W base sp held fuel t cs = some (.agg (ks.map fun x => .agg [.lit (.string x.1), .lit (.int k x.2.1), .lit (.bool x.2.2.1), .lit (.bool x.2.2.2)]), p)) (i : Nat) (hi : i < ks.length) :
    cs[i * 4]? = some (.string ⟨ks[i].1.toArray⟩) ∧ cs[i * 4 + 1]? = some (.int k ks[i].2.1) ∧ cs[i * 4 + 2]? = some (.bool ks[i].2.2.1) ∧ cs[i * 4 + 3]? = some (.bool ks[i].2.2.2) := by
  obtain ⟨xs, m, _, ex, _, hl, hel⟩ := DataW.trod_array ht h
  have hE := hel i (by omega)
  rw [hce, List.getElem?_eq_getElem (by omega)] at hE
  have e3 := (DataW.agg.inj (Prod.mk.inj ex).1).symm
  have e4 := congrArg (·[i]?) e3
  simp only [List.getElem?_map, List.getElem?_eq_getElem (by omega : i < xs.length), List.getElem?_eq_getElem hi, Option.map_some, Option.some.injEq] at e4
  obtain ⟨ys, n', _, ey, _, hyl, hf⟩ := DataW.trod_struct he hE
  have g0 := hf 0 f0 rfl
  have g1 := hf 1 f1 rfl
  have g2 := hf 2 f2 rfl
  have g3 := hf 3 f3 rfl
  rw [o0, c0] at g0
  rw [o1, c1] at g1
  rw [o2, c2] at g2
  rw [o3, c3] at g3
  match ys, hyl with
  | [y0, y1, y2, y3], _ =>
    simp only [List.getElem?_cons_zero, List.getElem?_cons_succ] at g0 g1 g2 g3
    obtain ⟨s, a0, b0, _⟩ := DataW.trod_string t0 g0
    obtain ⟨z, a1, b1, _⟩ := DataW.trod_int t1 g1
    obtain ⟨u, a2, b2⟩ := DataW.trod_bool t2 g2
    obtain ⟨v, a3, b3⟩ := DataW.trod_bool t3 g3
    rw [ey] at e4
    subst b0 b1 b2 b3
    simp only [List.map_cons, List.map_nil, DataW.agg.injEq, List.cons.injEq, DataW.lit.injEq, Lit.string.injEq, Lit.int.injEq, Lit.bool.injEq, and_true, true_and] at e4
    obtain ⟨q0, q1, q2, q3⟩ := e4
    have r0 := take_part (by decide) a0
    have r1 := take_part (by decide) a1
    have r2 := take_part (by decide) a2
    have r3 := take_part (by decide) a3
    rw [bytes_of q0] at r0
    rw [q1] at r1
    rw [q2] at r2
    rw [q3] at r3
    exact ⟨r0, r1, r2, r3⟩
end

theorem gLetters : Tryz.prog.globalNamed "blazon/face.letters" = some 1 := by kernel_rfl
theorem gShapes : Tryz.prog.globalNamed "blazon/face.shapeNames" = some 2 := by kernel_rfl
theorem gColours : Tryz.prog.globalNamed "blazon/face.colourNames" = some 3 := by kernel_rfl
theorem gKinds : Tryz.prog.globalNamed "blazon/face.kinds" = some 0 := by kernel_rfl
theorem yLetters : (Tryz.prog.globals[1]?).map (·.type) = some 78 := by kernel_rfl
theorem yShapes : (Tryz.prog.globals[2]?).map (·.type) = some 80 := by kernel_rfl
theorem yColours : (Tryz.prog.globals[3]?).map (·.type) = some 88 := by kernel_rfl
theorem yKinds : (Tryz.prog.globals[0]?).map (·.type) = some 67 := by kernel_rfl
theorem cStr : Tryz.prog.cellsOf 9 = 1 := by kernel_rfl
theorem cU64 : Tryz.prog.cellsOf 57 = 1 := by kernel_rfl
theorem cLet : Tryz.prog.cellsOf 78 = 36 := by kernel_rfl
theorem cKind : Tryz.prog.cellsOf 66 = 4 := by kernel_rfl
theorem cInt : Tryz.prog.cellsOf 3 = 1 := by kernel_rfl
theorem cBool : Tryz.prog.cellsOf 4 = 1 := by kernel_rfl
theorem lowP : (decide (12 ≤ Tryz.prog.low)) = true := by kernel_rfl

theorem low_le {P : Program} {W : World} (h : W.ShapedOpen P) (hg : P.globals.size < P.low) : P.low ≤ W.heap.size := by
  obtain ⟨o, _, ho, _⟩ := h.2 (P.low - 1) (by omega) (by show P.low - 1 < P.low; omega)
  have : P.low - 1 < W.heap.size := by
    apply Nat.lt_of_not_le
    intro hle
    rw [Array.getElem?_eq_none hle] at ho
    cases ho
  omega
theorem laid_mem {P : Program} {W : World} {name : String} {d : DataW Unit} {g : Nat} {t : TypeId} (hg : P.globalNamed name = some g) (hty : (P.globals[g]?).map (·.type) = some t) :
    ∀ {l : List (String × DataW Unit)}, laidMet P l W → (name, d) ∈ l → ∃ cs fuel p, W.var? P name = some cs ∧ DataW.trod (fun _ => ()) P W 0 (fun _ => true) false fuel t cs.toList = some (d, p)
  | [], _, hm => by cases hm
  | x :: r, h, hm => by
    rcases List.mem_cons.1 hm with rfl | hm
    · exact laid_here hg hty h
    · exact laid_mem hg hty h.tail hm

def kRows : List (List UInt8 × Int × Bool × Bool) := [([], 0, false, false), ([102, 105, 101, 108, 100], 0, false, false), ([114, 105, 109], 1, false, false), ([98, 111, 120], 2, false, true), ([100, 105, 115, 99], 1, false, true), ([115, 108, 97, 115, 104], 1, false, false), ([116, 101, 120, 116], 1, true, true)]

theorem tabs_of {W : World} {l : List (String × DataW Unit)} (_hh : (l.all fun x => x.2.handleName?.isNone) = true) (h : laidMet Tryz.prog l W) (hsh : W.ShapedOpen Tryz.prog)
    (m0 : ("blazon/face.letters", Rows.laid_blazon_face_letters) ∈ l) (m1 : ("blazon/face.shapeNames", Rows.laid_blazon_face_shapeNames) ∈ l) (m2 : ("blazon/face.colourNames", Rows.laid_blazon_face_colourNames) ∈ l) (m3 : ("blazon/face.kinds", Rows.laid_blazon_face_kinds) ∈ l) : Tabs W := by
  have hlow : 12 ≤ W.heap.size := by
    have h1 := of_decide_eq_true lowP
    have h2 := low_le hsh (of_decide_eq_true (by kernel_rfl))
    omega
  obtain ⟨cs0, f0, p0, v0, d0⟩ := laid_mem gLetters yLetters h m0
  obtain ⟨cs1, f1, p1, v1, d1⟩ := laid_mem gShapes yShapes h m1
  obtain ⟨cs2, f2, p2, v2, d2⟩ := laid_mem gColours yColours h m2
  obtain ⟨cs3, f3, p3, v3, d3⟩ := laid_mem gKinds yKinds h m3
  refine ⟨⟨hlow, fun i hi => ?_⟩, ⟨hlow, fun k hk => ?_⟩, fun k hk => ?_, fun k hk => ?_, ?_⟩
  · have := Lib.cells_of_tab (zs := lets) Tryz.underlying78 Tryz.underlying57 cU64 cLet d0
    rw [World.var?_cell gLetters v0 i]
    have h2 : cs0.toList[i]? = some (.int .u64 (lets.getD i 0)) := by
      rw [this, List.getElem?_map, List.getElem?_eq_getElem (show i < lets.length from hi), List.getD, List.getElem?_eq_getElem (show i < lets.length from hi)]
      rfl
    simpa using h2
  · have := rows_of_trod (ks := kRows) Tryz.underlying67 Tryz.underlying66 cKind rfl rfl rfl rfl rfl cStr cInt cBool cBool Tryz.underlying9 Tryz.underlying3 Tryz.underlying4 Tryz.underlying4 d3 k hk
    rw [World.var?_cell gKinds v3, World.var?_cell gKinds v3, World.var?_cell gKinds v3, World.var?_cell gKinds v3, Nat.mul_comm 4 k]
    have hk' : k = 0 ∨ k = 1 ∨ k = 2 ∨ k = 3 ∨ k = 4 ∨ k = 5 ∨ k = 6 := by omega
    simp only [Array.getElem?_toList] at this
    rcases hk' with rfl | rfl | rfl | rfl | rfl | rfl | rfl <;> exact this
  · rw [World.var?_cell gShapes v1]
    have := strs_of_trod (ss := sNames) Tryz.underlying80 Tryz.underlying9 cStr rfl d1 k hk
    simpa using this
  · rw [World.var?_cell gColours v2]
    have := strs_of_trod (ss := cNames) Tryz.underlying88 Tryz.underlying9 cStr rfl d2 k hk
    simpa using this
  · exact Go.Proofs.cell_of_shapedOpen_int (zero := #[.int .i64 0]) (t := 3) hsh (of_decide_eq_true (by kernel_rfl)) (by kernel_rfl) rfl (by kernel_rfl) (by kernel_rfl) Tryz.underlying3
end Go.Proofs.YtbogmdelceikgaaGreatDoor
