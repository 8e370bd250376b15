/-
  Steps of a region that draws its order, one by one: an operation whose guard is false; one that yields its value in every world at hand. By an AI agent.; The walk of clashes of a placed step. By an AI agent.; The walks of Bound of both. By an AI agent.; No right plan ends ahead of the bound: plain mathematics. By an AI agent.
-/
import Derived.Test.YtgphkfonjfdifaaMgShopOrders5
import Derived.Test.YtgphkfonjfdifaaMgShopOrders6
import Derived.Deep.RegionHeld3
import Derived.BigRegion

namespace Go.Proofs.Ytgphkfonjfdifaa
set_option linter.unusedVariables false
set_option linter.unusedSimpArgs false

section
variable {P : Program} {ops : Array Oper} {Q : Exit → Act → World → Prop} {md : Region.Mode} {S : World → Prop}
/-- An operation that is not wanted leaves nothing. -/
theorem skipU {i : Nat} (d : Option Nat) {fuel : Nat} {listed : Array Bool} {a : Act} {w : World} (hs : Region.noSelect ops = true) (hf : Region.free md ops listed i = true) (hr : (Region.ready md ops listed).contains i = true)
    (hd : (ops[i]?).map (·.dst) = some d) (hu : ((ops[i]?).map fun o => Region.wanted o (yielded ops a.tmps)) = some false) (hQ : ∀ c a w, Q (.panic c) (a.put d undef) w → Q (.panic c) a w) (hS : S w)
    (h : wpAnyH P md ops Q S fuel (listed.setIfInBounds i true) (a.put d undef) w) : wpAnyH P md ops Q S (fuel + 1) listed a w := by
  cases ho : ops[i]? with
  | none => rw [ho] at hd; cases hd
  | some o =>
    rw [ho] at hd hu
    simp only [Option.map_some, Option.some.injEq] at hd hu
    subst hd
    exact wpAnyH_take ho hs hf hr hQ (.inr ⟨hu, rfl⟩) hS h
/-- An operation that yields its value in every world. -/
theorem takeU {i : Nat} (d : Option Nat) (v : Value) {fuel : Nat} {listed : Array Bool} {a : Act} {w : World} (hs : Region.noSelect ops = true) (hf : Region.free md ops listed i = true) (hr : (Region.ready md ops listed).contains i = true)
    (hd : (ops[i]?).map (·.dst) = some d) (hu : ((ops[i]?).map fun o => Region.wanted o (yielded ops a.tmps)) = some true) (hv : ∀ w, ((ops[i]?).map fun o => (execOp a.eval o).run P w) = some (.ok (.value v) w)) (hQ : ∀ c a w, Q (.panic c) (a.put d v) w → Q (.panic c) a w) (hS : S w)
    (h : wpAnyH P md ops Q S fuel (listed.setIfInBounds i true) (a.put d v) w) : wpAnyH P md ops Q S (fuel + 1) listed a w := by
  cases ho : ops[i]? with
  | none => rw [ho] at hd; cases hd
  | some o =>
    rw [ho] at hd hu hv
    simp only [Option.map_some, Option.some.injEq] at hd hu hv
    subst hd
    exact wpAnyH_take ho hs hf hr hQ (.inl ⟨hu, fun w _ => hv w⟩) hS h
end
end Go.Proofs.Ytgphkfonjfdifaa

namespace Go.Proofs.Ytgphkfonjfdifaa
set_option linter.unusedVariables false
set_option linter.unusedSimpArgs false
open Go.RowKit

/-- Two steps with their starts clash. -/
def clB (S : List Int) (a : Stp) (t : Int) (b : Stp) (u : Int) : Bool := decide (a.1 = b.1) && (decide (u < t + a.2.1 + waitV S a b) && decide (t < u + b.2.1 + waitV S b a))
theorem wait_bd {s : Sh} (hM : (s.S.length : Int) = s.M) (hS : ∀ j, j < s.S.length → setAt s.S j) (a b : Stp) (h1 : 0 ≤ a.1) (h2 : a.1 < s.M) : 0 ≤ waitV s.S a b ∧ waitV s.S a b ≤ 100000 := by
  unfold waitV
  split
  · omega
  · have := hS a.1.toNat (by omega)
    unfold setAt at this
    omega
set_option maxRecDepth 100000 in
set_option maxHeartbeats 4000000 in
theorem clashes_pl (s : Sh) (x0 x1 x2 x3 x4 x5 x6 y0 y1 y2 y3 y4 y5 y6 : Int) (w : World) (hI : IntsS w s.aS s.S) (hM : (s.S.length : Int) = s.M) (hS : ∀ j, j < s.S.length → setAt s.S j) (a0 : 0 ≤ x0 ∧ x0 < s.M) (b0 : 0 ≤ y0 ∧ y0 < s.M) (a1 : 0 ≤ x1 ∧ x1 ≤ 100000) (a6 : 0 ≤ x6 ∧ x6 ≤ 10000000000) (b1 : 0 ≤ y1 ∧ y1 ≤ 100000) (b6 : 0 ≤ y6 ∧ y6 ≤ 10000000000) :
    Calls Try.prog 45 #[.agg #[.int .i64 x0, .int .i64 x1, .int .i64 x2, .int .i64 x3, .int .i64 x4, .int .i64 x5, .int .i64 x6], .agg #[.int .i64 y0, .int .i64 y1, .int .i64 y2, .int .i64 y3, .int .i64 y4, .int .i64 y5, .int .i64 y6], .agg #[.int .i64 s.O, .int .i64 s.C, .slice s.aH s.H.length s.cH, .int .i64 s.M, .slice s.aS s.S.length s.cS, .slice s.aJ s.J.length s.cJ]] w fun e w' => e = .returned (.bool (clB s.S (x0, x1, x2, x3) x6 (y0, y1, y2, y3) y6)) ∧ Below w.heap.size w w' := by
  have HX := Lib.hid (fun W (hW : Below w.heap.size w W) => ready_pl s x0 x1 x2 x3 x4 x5 x6 y0 y1 y2 y3 W (hI.below hW) hM a0 (wait_bd hM hS _ _ a0.1 a0.2) a1 a6)
  have HY := Lib.hid (fun W (hW : Below w.heap.size w W) => ready_pl s y0 y1 y2 y3 y4 y5 y6 x0 x1 x2 x3 W (hI.below hW) hM b0 (wait_bd hM hS _ _ b0.1 b0.2) b1 b6)
  have hR : clB s.S (x0, x1, x2, x3) x6 (y0, y1, y2, y3) y6 = (decide (x0 = y0) && (decide (y6 < x6 + x1 + waitV s.S (x0, x1, x2, x3) (y0, y1, y2, y3)) && decide (x6 < y6 + y1 + waitV s.S (y0, y1, y2, y3) (x0, x1, x2, x3)))) := rfl
  rw [hR]
  clear hR hS hI hM a0 b0 a1 b1 a6 b6
  generalize x6 + x1 + waitV s.S (x0, x1, x2, x3) (y0, y1, y2, y3) = g at *
  generalize y6 + y1 + waitV s.S (y0, y1, y2, y3) (x0, x1, x2, x3) = h at *
  have HBw : Hid (∀ O1 O2 O3, Below w.heap.size w (((w.alloc O1).alloc O2).alloc O3)) := Lib.hid fun O1 O2 O3 => (((Below.refl _ _).alloc (Nat.le_refl _) _ : Below w.heap.size w (w.alloc O1)).alloc (by simp) _).alloc (by simp; omega) _
  by_cases h0 : x0 = y0
  rotate_left
  · rw [decide_eq_false h0, Bool.false_and]
    have e0 : (x0 == y0) = false := by rw [beq_eq_false_iff_ne]; exact h0
    clear h0
    go_enter Try.func45, Try.ntmps45
    go_wp2_with fail
    obtain ⟨wB, hwB⟩ : ∃ wB, ((w.alloc (.cells #[.int .i64 x0, .int .i64 x1, .int .i64 x2, .int .i64 x3, .int .i64 x4, .int .i64 x5, .int .i64 x6] 67)).alloc (.cells #[.int .i64 y0, .int .i64 y1, .int .i64 y2, .int .i64 y3, .int .i64 y4, .int .i64 y5, .int .i64 y6] 67)).alloc (.cells #[.int .i64 s.O, .int .i64 s.C, .slice s.aH s.H.length s.cH, .int .i64 s.M, .slice s.aS s.S.length s.cS, .slice s.aJ s.J.length s.cJ] 25) = wB := ⟨_, rfl⟩
    have hb : Below w.heap.size w wB := by rw [← hwB]; exact HBw.out _ _ _
    have p0 : wB.cell? ⟨w.heap.size, 0, none⟩ = some (.int .i64 x0) := by rw [← hwB]; simp [go_sem]
    have p1 : wB.cell? ⟨w.heap.size, 1, none⟩ = some (.int .i64 x1) := by rw [← hwB]; simp [go_sem]
    have p2 : wB.cell? ⟨w.heap.size, 2, none⟩ = some (.int .i64 x2) := by rw [← hwB]; simp [go_sem]
    have p3 : wB.cell? ⟨w.heap.size, 3, none⟩ = some (.int .i64 x3) := by rw [← hwB]; simp [go_sem]
    have p4 : wB.cell? ⟨w.heap.size, 4, none⟩ = some (.int .i64 x4) := by rw [← hwB]; simp [go_sem]
    have p5 : wB.cell? ⟨w.heap.size, 5, none⟩ = some (.int .i64 x5) := by rw [← hwB]; simp [go_sem]
    have p6 : wB.cell? ⟨w.heap.size, 6, none⟩ = some (.int .i64 x6) := by rw [← hwB]; simp [go_sem]
    have q0 : wB.cell? ⟨w.heap.size + 1, 0, none⟩ = some (.int .i64 y0) := by rw [← hwB]; simp [go_sem]
    have q1 : wB.cell? ⟨w.heap.size + 1, 1, none⟩ = some (.int .i64 y1) := by rw [← hwB]; simp [go_sem]
    have q2 : wB.cell? ⟨w.heap.size + 1, 2, none⟩ = some (.int .i64 y2) := by rw [← hwB]; simp [go_sem]
    have q3 : wB.cell? ⟨w.heap.size + 1, 3, none⟩ = some (.int .i64 y3) := by rw [← hwB]; simp [go_sem]
    have q4 : wB.cell? ⟨w.heap.size + 1, 4, none⟩ = some (.int .i64 y4) := by rw [← hwB]; simp [go_sem]
    have q5 : wB.cell? ⟨w.heap.size + 1, 5, none⟩ = some (.int .i64 y5) := by rw [← hwB]; simp [go_sem]
    have q6 : wB.cell? ⟨w.heap.size + 1, 6, none⟩ = some (.int .i64 y6) := by rw [← hwB]; simp [go_sem]
    have r0 : wB.cell? ⟨w.heap.size + 1 + 1, 0, none⟩ = some (.int .i64 s.O) := by rw [← hwB]; simp [go_sem]
    have r1 : wB.cell? ⟨w.heap.size + 1 + 1, 1, none⟩ = some (.int .i64 s.C) := by rw [← hwB]; simp [go_sem]
    have r2 : wB.cell? ⟨w.heap.size + 1 + 1, 2, none⟩ = some (.slice s.aH s.H.length s.cH) := by rw [← hwB]; simp [go_sem]
    have r3 : wB.cell? ⟨w.heap.size + 1 + 1, 3, none⟩ = some (.int .i64 s.M) := by rw [← hwB]; simp [go_sem]
    have r4 : wB.cell? ⟨w.heap.size + 1 + 1, 4, none⟩ = some (.slice s.aS s.S.length s.cS) := by rw [← hwB]; simp [go_sem]
    have r5 : wB.cell? ⟨w.heap.size + 1 + 1, 5, none⟩ = some (.slice s.aJ s.J.length s.cJ) := by rw [← hwB]; simp [go_sem]
    have hz : w.heap.size + 1 + 1 < wB.heap.size := by rw [← hwB]; simp
    have hz1 : w.heap.size + 1 < wB.heap.size := by omega
    have hz0 : w.heap.size < wB.heap.size := by omega
    rw [hwB]
    clear hwB
    have HB := Lib.hid hb
    clear hb HBw
    refine wp_region_held_drew (S := fun w' => Below wB.heap.size wB w') (by kernel_rfl) ((Below.refl _ _).drew) (fun hHeld => ?_)
    refine takeU (i := 0) (some 7) (.pointer (some ⟨w.heap.size, 0, none⟩)) (by kernel_rfl) (by kernel_rfl) (by kernel_rfl) (by kernel_rfl) (by kernel_rfl) (fun _ => by kernel_rfl) (fun _ _ _ h => h) hHeld ?_
    refine takeU (i := 1) (some 8) (.pointer (some ⟨w.heap.size, 0, none⟩)) (by kernel_rfl) (by kernel_rfl) (by kernel_rfl) (by kernel_rfl) (by kernel_rfl) (fun _ => by kernel_rfl) (fun _ _ _ h => h) hHeld ?_
    refine wpAnyH_take (i := 2) (oi := { dst := some 9, op := Go.Op.load 3 (Go.Operand.tmp 8), type := 3, pos := "plan.go:43", after := #[{ on := 1, ground := Go.Ground.data }], guard := none }) (v := .int .i64 x0) rfl (by kernel_rfl) (by kernel_rfl) (by kernel_rfl) (fun _ _ _ h => h) (.inl ⟨by kernel_rfl, fun w9 h9 => by
      clear hHeld
      have d0 := (h9.cell (p := ⟨w.heap.size, 0, none⟩) hz0).trans p0
      clear h9
      go_simp⟩) hHeld ?_
    refine takeU (i := 3) (some 10) (.pointer (some ⟨w.heap.size + 1, 0, none⟩)) (by kernel_rfl) (by kernel_rfl) (by kernel_rfl) (by kernel_rfl) (by kernel_rfl) (fun _ => by kernel_rfl) (fun _ _ _ h => h) hHeld ?_
    refine takeU (i := 4) (some 11) (.pointer (some ⟨w.heap.size + 1, 0, none⟩)) (by kernel_rfl) (by kernel_rfl) (by kernel_rfl) (by kernel_rfl) (by kernel_rfl) (fun _ => by kernel_rfl) (fun _ _ _ h => h) hHeld ?_
    refine wpAnyH_take (i := 5) (oi := { dst := some 12, op := Go.Op.load 3 (Go.Operand.tmp 11), type := 3, pos := "plan.go:43", after := #[{ on := 4, ground := Go.Ground.data }], guard := none }) (v := .int .i64 y0) rfl (by kernel_rfl) (by kernel_rfl) (by kernel_rfl) (fun _ _ _ h => h) (.inl ⟨by kernel_rfl, fun w9 h9 => by
      clear hHeld
      have d0 := (h9.cell (p := ⟨w.heap.size + 1, 0, none⟩) hz1).trans q0
      clear h9
      go_simp⟩) hHeld ?_
    refine wpAnyH_take (i := 6) (oi := { dst := some 13, op := Go.Op.binOp Go.BinOp.eql 3 (Go.Operand.tmp 9) (Go.Operand.tmp 12) 3, type := 4, pos := "plan.go:43", after := #[{ on := 2, ground := Go.Ground.data }, { on := 5, ground := Go.Ground.data }], guard := none }) (v := .bool false) rfl (by kernel_rfl) (by kernel_rfl) (by kernel_rfl) (fun _ _ _ h => h) (.inl ⟨by kernel_rfl, fun w9 h9 => by
      clear hHeld h9
      go_simp⟩) hHeld ?_
    refine takeU (i := 7) (some 14) (.bool false) (by kernel_rfl) (by kernel_rfl) (by kernel_rfl) (by kernel_rfl) (by kernel_rfl) (fun _ => by kernel_rfl) (fun _ _ _ h => h) hHeld ?_
    refine skipU (i := 8) (some 15) (by kernel_rfl) (by kernel_rfl) (by kernel_rfl) (by kernel_rfl) (by kernel_rfl) (fun _ _ _ h => h) hHeld ?_
    refine skipU (i := 9) (some 16) (by kernel_rfl) (by kernel_rfl) (by kernel_rfl) (by kernel_rfl) (by kernel_rfl) (fun _ _ _ h => h) hHeld ?_
    refine skipU (i := 10) (some 17) (by kernel_rfl) (by kernel_rfl) (by kernel_rfl) (by kernel_rfl) (by kernel_rfl) (fun _ _ _ h => h) hHeld ?_
    refine skipU (i := 11) (some 18) (by kernel_rfl) (by kernel_rfl) (by kernel_rfl) (by kernel_rfl) (by kernel_rfl) (fun _ _ _ h => h) hHeld ?_
    refine skipU (i := 12) (some 19) (by kernel_rfl) (by kernel_rfl) (by kernel_rfl) (by kernel_rfl) (by kernel_rfl) (fun _ _ _ h => h) hHeld ?_
    refine skipU (i := 13) (some 20) (by kernel_rfl) (by kernel_rfl) (by kernel_rfl) (by kernel_rfl) (by kernel_rfl) (fun _ _ _ h => h) hHeld ?_
    refine skipU (i := 14) (some 21) (by kernel_rfl) (by kernel_rfl) (by kernel_rfl) (by kernel_rfl) (by kernel_rfl) (fun _ _ _ h => h) hHeld ?_
    refine skipU (i := 15) (some 22) (by kernel_rfl) (by kernel_rfl) (by kernel_rfl) (by kernel_rfl) (by kernel_rfl) (fun _ _ _ h => h) hHeld ?_
    refine takeU (i := 16) (some 23) (.bool false) (by kernel_rfl) (by kernel_rfl) (by kernel_rfl) (by kernel_rfl) (by kernel_rfl) (fun _ => by kernel_rfl) (fun _ _ _ h => h) hHeld ?_
    refine takeU (i := 17) (some 24) (.bool false) (by kernel_rfl) (by kernel_rfl) (by kernel_rfl) (by kernel_rfl) (by kernel_rfl) (fun _ => by kernel_rfl) (fun _ _ _ h => h) hHeld ?_
    refine skipU (i := 18) (some 25) (by kernel_rfl) (by kernel_rfl) (by kernel_rfl) (by kernel_rfl) (by kernel_rfl) (fun _ _ _ h => h) hHeld ?_
    refine skipU (i := 19) (some 26) (by kernel_rfl) (by kernel_rfl) (by kernel_rfl) (by kernel_rfl) (by kernel_rfl) (fun _ _ _ h => h) hHeld ?_
    refine skipU (i := 20) (some 27) (by kernel_rfl) (by kernel_rfl) (by kernel_rfl) (by kernel_rfl) (by kernel_rfl) (fun _ _ _ h => h) hHeld ?_
    refine skipU (i := 21) (some 28) (by kernel_rfl) (by kernel_rfl) (by kernel_rfl) (by kernel_rfl) (by kernel_rfl) (fun _ _ _ h => h) hHeld ?_
    refine skipU (i := 22) (some 29) (by kernel_rfl) (by kernel_rfl) (by kernel_rfl) (by kernel_rfl) (by kernel_rfl) (fun _ _ _ h => h) hHeld ?_
    refine skipU (i := 23) (some 30) (by kernel_rfl) (by kernel_rfl) (by kernel_rfl) (by kernel_rfl) (by kernel_rfl) (fun _ _ _ h => h) hHeld ?_
    refine skipU (i := 24) (some 31) (by kernel_rfl) (by kernel_rfl) (by kernel_rfl) (by kernel_rfl) (by kernel_rfl) (fun _ _ _ h => h) hHeld ?_
    refine skipU (i := 25) (some 32) (by kernel_rfl) (by kernel_rfl) (by kernel_rfl) (by kernel_rfl) (by kernel_rfl) (fun _ _ _ h => h) hHeld ?_
    refine takeU (i := 26) (some 33) (.bool false) (by kernel_rfl) (by kernel_rfl) (by kernel_rfl) (by kernel_rfl) (by kernel_rfl) (fun _ => by kernel_rfl) (fun _ _ _ h => h) hHeld ?_
    refine takeU (i := 27) (some 6) (.bool false) (by kernel_rfl) (by kernel_rfl) (by kernel_rfl) (by kernel_rfl) (by kernel_rfl) (fun _ => by kernel_rfl) (fun _ _ _ h => h) hHeld ?_
    refine wpAnyH_done (by kernel_rfl) ?_ _
    try simp only [Act.put, List.setIfInBounds_toArray, List.set_cons_zero, List.set_cons_succ]
    go_wp2_with fail
    go_ret
    exact ⟨rfl, HB.out.trans (hHeld.mono HB.out.size)⟩
  rw [decide_eq_true h0, Bool.true_and]
  have e0 : (x0 == y0) = true := by rw [beq_iff_eq]; exact h0
  clear h0
  by_cases h1 : y6 < g
  rotate_left
  · rw [decide_eq_false h1, Bool.false_and]
    have d1 : decide (y6 < g) = false := decide_eq_false h1
    clear h1
    go_enter Try.func45, Try.ntmps45
    go_wp2_with fail
    obtain ⟨wB, hwB⟩ : ∃ wB, ((w.alloc (.cells #[.int .i64 x0, .int .i64 x1, .int .i64 x2, .int .i64 x3, .int .i64 x4, .int .i64 x5, .int .i64 x6] 67)).alloc (.cells #[.int .i64 y0, .int .i64 y1, .int .i64 y2, .int .i64 y3, .int .i64 y4, .int .i64 y5, .int .i64 y6] 67)).alloc (.cells #[.int .i64 s.O, .int .i64 s.C, .slice s.aH s.H.length s.cH, .int .i64 s.M, .slice s.aS s.S.length s.cS, .slice s.aJ s.J.length s.cJ] 25) = wB := ⟨_, rfl⟩
    have hb : Below w.heap.size w wB := by rw [← hwB]; exact HBw.out _ _ _
    have p0 : wB.cell? ⟨w.heap.size, 0, none⟩ = some (.int .i64 x0) := by rw [← hwB]; simp [go_sem]
    have p1 : wB.cell? ⟨w.heap.size, 1, none⟩ = some (.int .i64 x1) := by rw [← hwB]; simp [go_sem]
    have p2 : wB.cell? ⟨w.heap.size, 2, none⟩ = some (.int .i64 x2) := by rw [← hwB]; simp [go_sem]
    have p3 : wB.cell? ⟨w.heap.size, 3, none⟩ = some (.int .i64 x3) := by rw [← hwB]; simp [go_sem]
    have p4 : wB.cell? ⟨w.heap.size, 4, none⟩ = some (.int .i64 x4) := by rw [← hwB]; simp [go_sem]
    have p5 : wB.cell? ⟨w.heap.size, 5, none⟩ = some (.int .i64 x5) := by rw [← hwB]; simp [go_sem]
    have p6 : wB.cell? ⟨w.heap.size, 6, none⟩ = some (.int .i64 x6) := by rw [← hwB]; simp [go_sem]
    have q0 : wB.cell? ⟨w.heap.size + 1, 0, none⟩ = some (.int .i64 y0) := by rw [← hwB]; simp [go_sem]
    have q1 : wB.cell? ⟨w.heap.size + 1, 1, none⟩ = some (.int .i64 y1) := by rw [← hwB]; simp [go_sem]
    have q2 : wB.cell? ⟨w.heap.size + 1, 2, none⟩ = some (.int .i64 y2) := by rw [← hwB]; simp [go_sem]
    have q3 : wB.cell? ⟨w.heap.size + 1, 3, none⟩ = some (.int .i64 y3) := by rw [← hwB]; simp [go_sem]
    have q4 : wB.cell? ⟨w.heap.size + 1, 4, none⟩ = some (.int .i64 y4) := by rw [← hwB]; simp [go_sem]
    have q5 : wB.cell? ⟨w.heap.size + 1, 5, none⟩ = some (.int .i64 y5) := by rw [← hwB]; simp [go_sem]
    have q6 : wB.cell? ⟨w.heap.size + 1, 6, none⟩ = some (.int .i64 y6) := by rw [← hwB]; simp [go_sem]
    have r0 : wB.cell? ⟨w.heap.size + 1 + 1, 0, none⟩ = some (.int .i64 s.O) := by rw [← hwB]; simp [go_sem]
    have r1 : wB.cell? ⟨w.heap.size + 1 + 1, 1, none⟩ = some (.int .i64 s.C) := by rw [← hwB]; simp [go_sem]
    have r2 : wB.cell? ⟨w.heap.size + 1 + 1, 2, none⟩ = some (.slice s.aH s.H.length s.cH) := by rw [← hwB]; simp [go_sem]
    have r3 : wB.cell? ⟨w.heap.size + 1 + 1, 3, none⟩ = some (.int .i64 s.M) := by rw [← hwB]; simp [go_sem]
    have r4 : wB.cell? ⟨w.heap.size + 1 + 1, 4, none⟩ = some (.slice s.aS s.S.length s.cS) := by rw [← hwB]; simp [go_sem]
    have r5 : wB.cell? ⟨w.heap.size + 1 + 1, 5, none⟩ = some (.slice s.aJ s.J.length s.cJ) := by rw [← hwB]; simp [go_sem]
    have hz : w.heap.size + 1 + 1 < wB.heap.size := by rw [← hwB]; simp
    have hz1 : w.heap.size + 1 < wB.heap.size := by omega
    have hz0 : w.heap.size < wB.heap.size := by omega
    rw [hwB]
    clear hwB
    have HB := Lib.hid hb
    clear hb HBw
    refine wp_region_held_drew (S := fun w' => Below wB.heap.size wB w') (by kernel_rfl) ((Below.refl _ _).drew) (fun hHeld => ?_)
    refine takeU (i := 0) (some 7) (.pointer (some ⟨w.heap.size, 0, none⟩)) (by kernel_rfl) (by kernel_rfl) (by kernel_rfl) (by kernel_rfl) (by kernel_rfl) (fun _ => by kernel_rfl) (fun _ _ _ h => h) hHeld ?_
    refine takeU (i := 1) (some 8) (.pointer (some ⟨w.heap.size, 0, none⟩)) (by kernel_rfl) (by kernel_rfl) (by kernel_rfl) (by kernel_rfl) (by kernel_rfl) (fun _ => by kernel_rfl) (fun _ _ _ h => h) hHeld ?_
    refine wpAnyH_take (i := 2) (oi := { dst := some 9, op := Go.Op.load 3 (Go.Operand.tmp 8), type := 3, pos := "plan.go:43", after := #[{ on := 1, ground := Go.Ground.data }], guard := none }) (v := .int .i64 x0) rfl (by kernel_rfl) (by kernel_rfl) (by kernel_rfl) (fun _ _ _ h => h) (.inl ⟨by kernel_rfl, fun w9 h9 => by
      clear hHeld
      have d0 := (h9.cell (p := ⟨w.heap.size, 0, none⟩) hz0).trans p0
      clear h9
      go_simp⟩) hHeld ?_
    refine takeU (i := 3) (some 10) (.pointer (some ⟨w.heap.size + 1, 0, none⟩)) (by kernel_rfl) (by kernel_rfl) (by kernel_rfl) (by kernel_rfl) (by kernel_rfl) (fun _ => by kernel_rfl) (fun _ _ _ h => h) hHeld ?_
    refine takeU (i := 4) (some 11) (.pointer (some ⟨w.heap.size + 1, 0, none⟩)) (by kernel_rfl) (by kernel_rfl) (by kernel_rfl) (by kernel_rfl) (by kernel_rfl) (fun _ => by kernel_rfl) (fun _ _ _ h => h) hHeld ?_
    refine wpAnyH_take (i := 5) (oi := { dst := some 12, op := Go.Op.load 3 (Go.Operand.tmp 11), type := 3, pos := "plan.go:43", after := #[{ on := 4, ground := Go.Ground.data }], guard := none }) (v := .int .i64 y0) rfl (by kernel_rfl) (by kernel_rfl) (by kernel_rfl) (fun _ _ _ h => h) (.inl ⟨by kernel_rfl, fun w9 h9 => by
      clear hHeld
      have d0 := (h9.cell (p := ⟨w.heap.size + 1, 0, none⟩) hz1).trans q0
      clear h9
      go_simp⟩) hHeld ?_
    refine wpAnyH_take (i := 6) (oi := { dst := some 13, op := Go.Op.binOp Go.BinOp.eql 3 (Go.Operand.tmp 9) (Go.Operand.tmp 12) 3, type := 4, pos := "plan.go:43", after := #[{ on := 2, ground := Go.Ground.data }, { on := 5, ground := Go.Ground.data }], guard := none }) (v := .bool true) rfl (by kernel_rfl) (by kernel_rfl) (by kernel_rfl) (fun _ _ _ h => h) (.inl ⟨by kernel_rfl, fun w9 h9 => by
      clear hHeld h9
      go_simp⟩) hHeld ?_
    refine takeU (i := 7) (some 14) (.bool true) (by kernel_rfl) (by kernel_rfl) (by kernel_rfl) (by kernel_rfl) (by kernel_rfl) (fun _ => by kernel_rfl) (fun _ _ _ h => h) hHeld ?_
    refine takeU (i := 8) (some 15) (.pointer (some ⟨w.heap.size + 1, 6, none⟩)) (by kernel_rfl) (by kernel_rfl) (by kernel_rfl) (by kernel_rfl) (by kernel_rfl) (fun _ => by kernel_rfl) (fun _ _ _ h => h) hHeld ?_
    refine wpAnyH_take (i := 9) (oi := { dst := some 16, op := Go.Op.load 3 (Go.Operand.tmp 15), type := 3, pos := "plan.go:43", after := #[{ on := 8, ground := Go.Ground.data }, { on := 7, ground := Go.Ground.guard }], guard := some (7, true) }) (v := .int .i64 y6) rfl (by kernel_rfl) (by kernel_rfl) (by kernel_rfl) (fun _ _ _ h => h) (.inl ⟨by kernel_rfl, fun w9 h9 => by
      clear hHeld
      have d0 := (h9.cell (p := ⟨w.heap.size + 1, 6, none⟩) hz1).trans q6
      clear h9
      go_simp⟩) hHeld ?_
    refine wpAnyH_take (i := 10) (oi := { dst := some 17, op := Go.Op.load 67 (Go.Operand.tmp 3), type := 67, pos := "plan.go:43", after := #[{ on := 7, ground := Go.Ground.guard }], guard := some (7, true) }) (v := .agg #[.int .i64 x0, .int .i64 x1, .int .i64 x2, .int .i64 x3, .int .i64 x4, .int .i64 x5, .int .i64 x6]) rfl (by kernel_rfl) (by kernel_rfl) (by kernel_rfl) (fun _ _ _ h => h) (.inl ⟨by kernel_rfl, fun w9 h9 => by
      clear hHeld
      have d0 := (h9.cell (p := ⟨w.heap.size, 0, none⟩) hz0).trans p0
      have d1 := (h9.cell (p := ⟨w.heap.size, 1, none⟩) hz0).trans p1
      have d2 := (h9.cell (p := ⟨w.heap.size, 2, none⟩) hz0).trans p2
      have d3 := (h9.cell (p := ⟨w.heap.size, 3, none⟩) hz0).trans p3
      have d4 := (h9.cell (p := ⟨w.heap.size, 4, none⟩) hz0).trans p4
      have d5 := (h9.cell (p := ⟨w.heap.size, 5, none⟩) hz0).trans p5
      have d6 := (h9.cell (p := ⟨w.heap.size, 6, none⟩) hz0).trans p6
      clear h9
      go_simp⟩) hHeld ?_
    refine takeU (i := 11) (some 18) (.pointer (some ⟨w.heap.size + 1, 0, none⟩)) (by kernel_rfl) (by kernel_rfl) (by kernel_rfl) (by kernel_rfl) (by kernel_rfl) (fun _ => by kernel_rfl) (fun _ _ _ h => h) hHeld ?_
    refine wpAnyH_take (i := 12) (oi := { dst := some 19, op := Go.Op.load 65 (Go.Operand.tmp 18), type := 65, pos := "plan.go:43", after := #[{ on := 11, ground := Go.Ground.data }, { on := 7, ground := Go.Ground.guard }], guard := some (7, true) }) (v := .agg #[.int .i64 y0, .int .i64 y1, .int .i64 y2, .int .i64 y3]) rfl (by kernel_rfl) (by kernel_rfl) (by kernel_rfl) (fun _ _ _ h => h) (.inl ⟨by kernel_rfl, fun w9 h9 => by
      clear hHeld
      have d0 := (h9.cell (p := ⟨w.heap.size + 1, 0, none⟩) hz1).trans q0
      have d1 := (h9.cell (p := ⟨w.heap.size + 1, 1, none⟩) hz1).trans q1
      have d2 := (h9.cell (p := ⟨w.heap.size + 1, 2, none⟩) hz1).trans q2
      have d3 := (h9.cell (p := ⟨w.heap.size + 1, 3, none⟩) hz1).trans q3
      clear h9
      go_simp⟩) hHeld ?_
    refine wpAnyH_take (i := 13) (oi := { dst := some 20, op := Go.Op.load 25 (Go.Operand.tmp 5), type := 25, pos := "plan.go:43", after := #[{ on := 7, ground := Go.Ground.guard }], guard := some (7, true) }) (v := .agg #[.int .i64 s.O, .int .i64 s.C, .slice s.aH s.H.length s.cH, .int .i64 s.M, .slice s.aS s.S.length s.cS, .slice s.aJ s.J.length s.cJ]) rfl (by kernel_rfl) (by kernel_rfl) (by kernel_rfl) (fun _ _ _ h => h) (.inl ⟨by kernel_rfl, fun w9 h9 => by
      clear hHeld
      have d0 := (h9.cell (p := ⟨w.heap.size + 1 + 1, 0, none⟩) hz).trans r0
      have d1 := (h9.cell (p := ⟨w.heap.size + 1 + 1, 1, none⟩) hz).trans r1
      have d2 := (h9.cell (p := ⟨w.heap.size + 1 + 1, 2, none⟩) hz).trans r2
      have d3 := (h9.cell (p := ⟨w.heap.size + 1 + 1, 3, none⟩) hz).trans r3
      have d4 := (h9.cell (p := ⟨w.heap.size + 1 + 1, 4, none⟩) hz).trans r4
      have d5 := (h9.cell (p := ⟨w.heap.size + 1 + 1, 5, none⟩) hz).trans r5
      clear h9
      go_simp⟩) hHeld ?_
    try simp only [Act.put, List.setIfInBounds_toArray, List.set_cons_zero, List.set_cons_succ]
    refine wpAnyH_ready (rs := [14]) (by kernel_rfl) (by simp) ?_
    refine AllReadyH.cons (o := { dst := some 21, op := Go.Op.call { callee := Go.Callee.value (Go.Operand.func 77), args := #[Go.Operand.tmp 17, Go.Operand.tmp 19, Go.Operand.tmp 20], argTypes := #[67, 65, 25] }, type := 3, pos := "plan.go:43", after := #[{ on := 10, ground := Go.Ground.data }, { on := 12, ground := Go.Ground.data }, { on := 13, ground := Go.Ground.data }, { on := 7, ground := Go.Ground.chain }, { on := 7, ground := Go.Ground.guard }], guard := some (7, true) }) rfl (fun K hK => ?_) AllReadyH.nil
    go_simp
    go_at_call 77
    refine (HX.out _ (HB.out.trans (hHeld.mono HB.out.size))).mono ?_
    rintro e w149 ⟨rfl, hb149⟩
    refine hK.out _ _ (hHeld.trans (hb149.mono hHeld.size)) (fun hHeld => ?_)
    clear hK K hb149
    try simp only [Act.put, List.setIfInBounds_toArray, List.set_cons_zero, List.set_cons_succ]
    refine wpAnyH_take (i := 15) (oi := { dst := some 22, op := Go.Op.binOp Go.BinOp.lss 3 (Go.Operand.tmp 16) (Go.Operand.tmp 21) 3, type := 4, pos := "plan.go:43", after := #[{ on := 9, ground := Go.Ground.data }, { on := 14, ground := Go.Ground.data }, { on := 7, ground := Go.Ground.guard }], guard := some (7, true) }) (v := .bool false) rfl (by kernel_rfl) (by kernel_rfl) (by kernel_rfl) (fun _ _ _ h => h) (.inl ⟨by kernel_rfl, fun w9 h9 => by
      clear hHeld h9
      go_simp⟩) hHeld ?_
    refine takeU (i := 16) (some 23) (.bool false) (by kernel_rfl) (by kernel_rfl) (by kernel_rfl) (by kernel_rfl) (by kernel_rfl) (fun _ => by kernel_rfl) (fun _ _ _ h => h) hHeld ?_
    refine takeU (i := 17) (some 24) (.bool false) (by kernel_rfl) (by kernel_rfl) (by kernel_rfl) (by kernel_rfl) (by kernel_rfl) (fun _ => by kernel_rfl) (fun _ _ _ h => h) hHeld ?_
    refine skipU (i := 18) (some 25) (by kernel_rfl) (by kernel_rfl) (by kernel_rfl) (by kernel_rfl) (by kernel_rfl) (fun _ _ _ h => h) hHeld ?_
    refine skipU (i := 19) (some 26) (by kernel_rfl) (by kernel_rfl) (by kernel_rfl) (by kernel_rfl) (by kernel_rfl) (fun _ _ _ h => h) hHeld ?_
    refine skipU (i := 20) (some 27) (by kernel_rfl) (by kernel_rfl) (by kernel_rfl) (by kernel_rfl) (by kernel_rfl) (fun _ _ _ h => h) hHeld ?_
    refine skipU (i := 21) (some 28) (by kernel_rfl) (by kernel_rfl) (by kernel_rfl) (by kernel_rfl) (by kernel_rfl) (fun _ _ _ h => h) hHeld ?_
    refine skipU (i := 22) (some 29) (by kernel_rfl) (by kernel_rfl) (by kernel_rfl) (by kernel_rfl) (by kernel_rfl) (fun _ _ _ h => h) hHeld ?_
    refine skipU (i := 23) (some 30) (by kernel_rfl) (by kernel_rfl) (by kernel_rfl) (by kernel_rfl) (by kernel_rfl) (fun _ _ _ h => h) hHeld ?_
    refine skipU (i := 24) (some 31) (by kernel_rfl) (by kernel_rfl) (by kernel_rfl) (by kernel_rfl) (by kernel_rfl) (fun _ _ _ h => h) hHeld ?_
    refine skipU (i := 25) (some 32) (by kernel_rfl) (by kernel_rfl) (by kernel_rfl) (by kernel_rfl) (by kernel_rfl) (fun _ _ _ h => h) hHeld ?_
    refine takeU (i := 26) (some 33) (.bool false) (by kernel_rfl) (by kernel_rfl) (by kernel_rfl) (by kernel_rfl) (by kernel_rfl) (fun _ => by kernel_rfl) (fun _ _ _ h => h) hHeld ?_
    refine takeU (i := 27) (some 6) (.bool false) (by kernel_rfl) (by kernel_rfl) (by kernel_rfl) (by kernel_rfl) (by kernel_rfl) (fun _ => by kernel_rfl) (fun _ _ _ h => h) hHeld ?_
    refine wpAnyH_done (by kernel_rfl) ?_ _
    try simp only [Act.put, List.setIfInBounds_toArray, List.set_cons_zero, List.set_cons_succ]
    go_wp2_with fail
    go_ret
    exact ⟨rfl, HB.out.trans (hHeld.mono HB.out.size)⟩
  rw [decide_eq_true h1, Bool.true_and]
  have d1 : decide (y6 < g) = true := decide_eq_true h1
  clear h1
  by_cases h2 : x6 < h
  · rw [decide_eq_true h2]
    have d2 : decide (x6 < h) = true := decide_eq_true h2
    clear h2
    go_enter Try.func45, Try.ntmps45
    go_wp2_with fail
    obtain ⟨wB, hwB⟩ : ∃ wB, ((w.alloc (.cells #[.int .i64 x0, .int .i64 x1, .int .i64 x2, .int .i64 x3, .int .i64 x4, .int .i64 x5, .int .i64 x6] 67)).alloc (.cells #[.int .i64 y0, .int .i64 y1, .int .i64 y2, .int .i64 y3, .int .i64 y4, .int .i64 y5, .int .i64 y6] 67)).alloc (.cells #[.int .i64 s.O, .int .i64 s.C, .slice s.aH s.H.length s.cH, .int .i64 s.M, .slice s.aS s.S.length s.cS, .slice s.aJ s.J.length s.cJ] 25) = wB := ⟨_, rfl⟩
    have hb : Below w.heap.size w wB := by rw [← hwB]; exact HBw.out _ _ _
    have p0 : wB.cell? ⟨w.heap.size, 0, none⟩ = some (.int .i64 x0) := by rw [← hwB]; simp [go_sem]
    have p1 : wB.cell? ⟨w.heap.size, 1, none⟩ = some (.int .i64 x1) := by rw [← hwB]; simp [go_sem]
    have p2 : wB.cell? ⟨w.heap.size, 2, none⟩ = some (.int .i64 x2) := by rw [← hwB]; simp [go_sem]
    have p3 : wB.cell? ⟨w.heap.size, 3, none⟩ = some (.int .i64 x3) := by rw [← hwB]; simp [go_sem]
    have p4 : wB.cell? ⟨w.heap.size, 4, none⟩ = some (.int .i64 x4) := by rw [← hwB]; simp [go_sem]
    have p5 : wB.cell? ⟨w.heap.size, 5, none⟩ = some (.int .i64 x5) := by rw [← hwB]; simp [go_sem]
    have p6 : wB.cell? ⟨w.heap.size, 6, none⟩ = some (.int .i64 x6) := by rw [← hwB]; simp [go_sem]
    have q0 : wB.cell? ⟨w.heap.size + 1, 0, none⟩ = some (.int .i64 y0) := by rw [← hwB]; simp [go_sem]
    have q1 : wB.cell? ⟨w.heap.size + 1, 1, none⟩ = some (.int .i64 y1) := by rw [← hwB]; simp [go_sem]
    have q2 : wB.cell? ⟨w.heap.size + 1, 2, none⟩ = some (.int .i64 y2) := by rw [← hwB]; simp [go_sem]
    have q3 : wB.cell? ⟨w.heap.size + 1, 3, none⟩ = some (.int .i64 y3) := by rw [← hwB]; simp [go_sem]
    have q4 : wB.cell? ⟨w.heap.size + 1, 4, none⟩ = some (.int .i64 y4) := by rw [← hwB]; simp [go_sem]
    have q5 : wB.cell? ⟨w.heap.size + 1, 5, none⟩ = some (.int .i64 y5) := by rw [← hwB]; simp [go_sem]
    have q6 : wB.cell? ⟨w.heap.size + 1, 6, none⟩ = some (.int .i64 y6) := by rw [← hwB]; simp [go_sem]
    have r0 : wB.cell? ⟨w.heap.size + 1 + 1, 0, none⟩ = some (.int .i64 s.O) := by rw [← hwB]; simp [go_sem]
    have r1 : wB.cell? ⟨w.heap.size + 1 + 1, 1, none⟩ = some (.int .i64 s.C) := by rw [← hwB]; simp [go_sem]
    have r2 : wB.cell? ⟨w.heap.size + 1 + 1, 2, none⟩ = some (.slice s.aH s.H.length s.cH) := by rw [← hwB]; simp [go_sem]
    have r3 : wB.cell? ⟨w.heap.size + 1 + 1, 3, none⟩ = some (.int .i64 s.M) := by rw [← hwB]; simp [go_sem]
    have r4 : wB.cell? ⟨w.heap.size + 1 + 1, 4, none⟩ = some (.slice s.aS s.S.length s.cS) := by rw [← hwB]; simp [go_sem]
    have r5 : wB.cell? ⟨w.heap.size + 1 + 1, 5, none⟩ = some (.slice s.aJ s.J.length s.cJ) := by rw [← hwB]; simp [go_sem]
    have hz : w.heap.size + 1 + 1 < wB.heap.size := by rw [← hwB]; simp
    have hz1 : w.heap.size + 1 < wB.heap.size := by omega
    have hz0 : w.heap.size < wB.heap.size := by omega
    rw [hwB]
    clear hwB
    have HB := Lib.hid hb
    clear hb HBw
    refine wp_region_held_drew (S := fun w' => Below wB.heap.size wB w') (by kernel_rfl) ((Below.refl _ _).drew) (fun hHeld => ?_)
    refine takeU (i := 0) (some 7) (.pointer (some ⟨w.heap.size, 0, none⟩)) (by kernel_rfl) (by kernel_rfl) (by kernel_rfl) (by kernel_rfl) (by kernel_rfl) (fun _ => by kernel_rfl) (fun _ _ _ h => h) hHeld ?_
    refine takeU (i := 1) (some 8) (.pointer (some ⟨w.heap.size, 0, none⟩)) (by kernel_rfl) (by kernel_rfl) (by kernel_rfl) (by kernel_rfl) (by kernel_rfl) (fun _ => by kernel_rfl) (fun _ _ _ h => h) hHeld ?_
    refine wpAnyH_take (i := 2) (oi := { dst := some 9, op := Go.Op.load 3 (Go.Operand.tmp 8), type := 3, pos := "plan.go:43", after := #[{ on := 1, ground := Go.Ground.data }], guard := none }) (v := .int .i64 x0) rfl (by kernel_rfl) (by kernel_rfl) (by kernel_rfl) (fun _ _ _ h => h) (.inl ⟨by kernel_rfl, fun w9 h9 => by
      clear hHeld
      have d0 := (h9.cell (p := ⟨w.heap.size, 0, none⟩) hz0).trans p0
      clear h9
      go_simp⟩) hHeld ?_
    refine takeU (i := 3) (some 10) (.pointer (some ⟨w.heap.size + 1, 0, none⟩)) (by kernel_rfl) (by kernel_rfl) (by kernel_rfl) (by kernel_rfl) (by kernel_rfl) (fun _ => by kernel_rfl) (fun _ _ _ h => h) hHeld ?_
    refine takeU (i := 4) (some 11) (.pointer (some ⟨w.heap.size + 1, 0, none⟩)) (by kernel_rfl) (by kernel_rfl) (by kernel_rfl) (by kernel_rfl) (by kernel_rfl) (fun _ => by kernel_rfl) (fun _ _ _ h => h) hHeld ?_
    refine wpAnyH_take (i := 5) (oi := { dst := some 12, op := Go.Op.load 3 (Go.Operand.tmp 11), type := 3, pos := "plan.go:43", after := #[{ on := 4, ground := Go.Ground.data }], guard := none }) (v := .int .i64 y0) rfl (by kernel_rfl) (by kernel_rfl) (by kernel_rfl) (fun _ _ _ h => h) (.inl ⟨by kernel_rfl, fun w9 h9 => by
      clear hHeld
      have d0 := (h9.cell (p := ⟨w.heap.size + 1, 0, none⟩) hz1).trans q0
      clear h9
      go_simp⟩) hHeld ?_
    refine wpAnyH_take (i := 6) (oi := { dst := some 13, op := Go.Op.binOp Go.BinOp.eql 3 (Go.Operand.tmp 9) (Go.Operand.tmp 12) 3, type := 4, pos := "plan.go:43", after := #[{ on := 2, ground := Go.Ground.data }, { on := 5, ground := Go.Ground.data }], guard := none }) (v := .bool true) rfl (by kernel_rfl) (by kernel_rfl) (by kernel_rfl) (fun _ _ _ h => h) (.inl ⟨by kernel_rfl, fun w9 h9 => by
      clear hHeld h9
      go_simp⟩) hHeld ?_
    refine takeU (i := 7) (some 14) (.bool true) (by kernel_rfl) (by kernel_rfl) (by kernel_rfl) (by kernel_rfl) (by kernel_rfl) (fun _ => by kernel_rfl) (fun _ _ _ h => h) hHeld ?_
    refine takeU (i := 8) (some 15) (.pointer (some ⟨w.heap.size + 1, 6, none⟩)) (by kernel_rfl) (by kernel_rfl) (by kernel_rfl) (by kernel_rfl) (by kernel_rfl) (fun _ => by kernel_rfl) (fun _ _ _ h => h) hHeld ?_
    refine wpAnyH_take (i := 9) (oi := { dst := some 16, op := Go.Op.load 3 (Go.Operand.tmp 15), type := 3, pos := "plan.go:43", after := #[{ on := 8, ground := Go.Ground.data }, { on := 7, ground := Go.Ground.guard }], guard := some (7, true) }) (v := .int .i64 y6) rfl (by kernel_rfl) (by kernel_rfl) (by kernel_rfl) (fun _ _ _ h => h) (.inl ⟨by kernel_rfl, fun w9 h9 => by
      clear hHeld
      have d0 := (h9.cell (p := ⟨w.heap.size + 1, 6, none⟩) hz1).trans q6
      clear h9
      go_simp⟩) hHeld ?_
    refine wpAnyH_take (i := 10) (oi := { dst := some 17, op := Go.Op.load 67 (Go.Operand.tmp 3), type := 67, pos := "plan.go:43", after := #[{ on := 7, ground := Go.Ground.guard }], guard := some (7, true) }) (v := .agg #[.int .i64 x0, .int .i64 x1, .int .i64 x2, .int .i64 x3, .int .i64 x4, .int .i64 x5, .int .i64 x6]) rfl (by kernel_rfl) (by kernel_rfl) (by kernel_rfl) (fun _ _ _ h => h) (.inl ⟨by kernel_rfl, fun w9 h9 => by
      clear hHeld
      have d0 := (h9.cell (p := ⟨w.heap.size, 0, none⟩) hz0).trans p0
      have d1 := (h9.cell (p := ⟨w.heap.size, 1, none⟩) hz0).trans p1
      have d2 := (h9.cell (p := ⟨w.heap.size, 2, none⟩) hz0).trans p2
      have d3 := (h9.cell (p := ⟨w.heap.size, 3, none⟩) hz0).trans p3
      have d4 := (h9.cell (p := ⟨w.heap.size, 4, none⟩) hz0).trans p4
      have d5 := (h9.cell (p := ⟨w.heap.size, 5, none⟩) hz0).trans p5
      have d6 := (h9.cell (p := ⟨w.heap.size, 6, none⟩) hz0).trans p6
      clear h9
      go_simp⟩) hHeld ?_
    refine takeU (i := 11) (some 18) (.pointer (some ⟨w.heap.size + 1, 0, none⟩)) (by kernel_rfl) (by kernel_rfl) (by kernel_rfl) (by kernel_rfl) (by kernel_rfl) (fun _ => by kernel_rfl) (fun _ _ _ h => h) hHeld ?_
    refine wpAnyH_take (i := 12) (oi := { dst := some 19, op := Go.Op.load 65 (Go.Operand.tmp 18), type := 65, pos := "plan.go:43", after := #[{ on := 11, ground := Go.Ground.data }, { on := 7, ground := Go.Ground.guard }], guard := some (7, true) }) (v := .agg #[.int .i64 y0, .int .i64 y1, .int .i64 y2, .int .i64 y3]) rfl (by kernel_rfl) (by kernel_rfl) (by kernel_rfl) (fun _ _ _ h => h) (.inl ⟨by kernel_rfl, fun w9 h9 => by
      clear hHeld
      have d0 := (h9.cell (p := ⟨w.heap.size + 1, 0, none⟩) hz1).trans q0
      have d1 := (h9.cell (p := ⟨w.heap.size + 1, 1, none⟩) hz1).trans q1
      have d2 := (h9.cell (p := ⟨w.heap.size + 1, 2, none⟩) hz1).trans q2
      have d3 := (h9.cell (p := ⟨w.heap.size + 1, 3, none⟩) hz1).trans q3
      clear h9
      go_simp⟩) hHeld ?_
    refine wpAnyH_take (i := 13) (oi := { dst := some 20, op := Go.Op.load 25 (Go.Operand.tmp 5), type := 25, pos := "plan.go:43", after := #[{ on := 7, ground := Go.Ground.guard }], guard := some (7, true) }) (v := .agg #[.int .i64 s.O, .int .i64 s.C, .slice s.aH s.H.length s.cH, .int .i64 s.M, .slice s.aS s.S.length s.cS, .slice s.aJ s.J.length s.cJ]) rfl (by kernel_rfl) (by kernel_rfl) (by kernel_rfl) (fun _ _ _ h => h) (.inl ⟨by kernel_rfl, fun w9 h9 => by
      clear hHeld
      have d0 := (h9.cell (p := ⟨w.heap.size + 1 + 1, 0, none⟩) hz).trans r0
      have d1 := (h9.cell (p := ⟨w.heap.size + 1 + 1, 1, none⟩) hz).trans r1
      have d2 := (h9.cell (p := ⟨w.heap.size + 1 + 1, 2, none⟩) hz).trans r2
      have d3 := (h9.cell (p := ⟨w.heap.size + 1 + 1, 3, none⟩) hz).trans r3
      have d4 := (h9.cell (p := ⟨w.heap.size + 1 + 1, 4, none⟩) hz).trans r4
      have d5 := (h9.cell (p := ⟨w.heap.size + 1 + 1, 5, none⟩) hz).trans r5
      clear h9
      go_simp⟩) hHeld ?_
    try simp only [Act.put, List.setIfInBounds_toArray, List.set_cons_zero, List.set_cons_succ]
    refine wpAnyH_ready (rs := [14]) (by kernel_rfl) (by simp) ?_
    refine AllReadyH.cons (o := { dst := some 21, op := Go.Op.call { callee := Go.Callee.value (Go.Operand.func 77), args := #[Go.Operand.tmp 17, Go.Operand.tmp 19, Go.Operand.tmp 20], argTypes := #[67, 65, 25] }, type := 3, pos := "plan.go:43", after := #[{ on := 10, ground := Go.Ground.data }, { on := 12, ground := Go.Ground.data }, { on := 13, ground := Go.Ground.data }, { on := 7, ground := Go.Ground.chain }, { on := 7, ground := Go.Ground.guard }], guard := some (7, true) }) rfl (fun K hK => ?_) AllReadyH.nil
    go_simp
    go_at_call 77
    refine (HX.out _ (HB.out.trans (hHeld.mono HB.out.size))).mono ?_
    rintro e w149 ⟨rfl, hb149⟩
    refine hK.out _ _ (hHeld.trans (hb149.mono hHeld.size)) (fun hHeld => ?_)
    clear hK K hb149
    try simp only [Act.put, List.setIfInBounds_toArray, List.set_cons_zero, List.set_cons_succ]
    refine wpAnyH_take (i := 15) (oi := { dst := some 22, op := Go.Op.binOp Go.BinOp.lss 3 (Go.Operand.tmp 16) (Go.Operand.tmp 21) 3, type := 4, pos := "plan.go:43", after := #[{ on := 9, ground := Go.Ground.data }, { on := 14, ground := Go.Ground.data }, { on := 7, ground := Go.Ground.guard }], guard := some (7, true) }) (v := .bool true) rfl (by kernel_rfl) (by kernel_rfl) (by kernel_rfl) (fun _ _ _ h => h) (.inl ⟨by kernel_rfl, fun w9 h9 => by
      clear hHeld h9
      go_simp⟩) hHeld ?_
    refine takeU (i := 16) (some 23) (.bool true) (by kernel_rfl) (by kernel_rfl) (by kernel_rfl) (by kernel_rfl) (by kernel_rfl) (fun _ => by kernel_rfl) (fun _ _ _ h => h) hHeld ?_
    refine takeU (i := 17) (some 24) (.bool true) (by kernel_rfl) (by kernel_rfl) (by kernel_rfl) (by kernel_rfl) (by kernel_rfl) (fun _ => by kernel_rfl) (fun _ _ _ h => h) hHeld ?_
    refine takeU (i := 18) (some 25) (.pointer (some ⟨w.heap.size, 6, none⟩)) (by kernel_rfl) (by kernel_rfl) (by kernel_rfl) (by kernel_rfl) (by kernel_rfl) (fun _ => by kernel_rfl) (fun _ _ _ h => h) hHeld ?_
    refine wpAnyH_take (i := 19) (oi := { dst := some 26, op := Go.Op.load 3 (Go.Operand.tmp 25), type := 3, pos := "plan.go:43", after := #[{ on := 18, ground := Go.Ground.data }, { on := 17, ground := Go.Ground.guard }], guard := some (17, true) }) (v := .int .i64 x6) rfl (by kernel_rfl) (by kernel_rfl) (by kernel_rfl) (fun _ _ _ h => h) (.inl ⟨by kernel_rfl, fun w9 h9 => by
      clear hHeld
      have d0 := (h9.cell (p := ⟨w.heap.size, 6, none⟩) hz0).trans p6
      clear h9
      go_simp⟩) hHeld ?_
    refine wpAnyH_take (i := 20) (oi := { dst := some 27, op := Go.Op.load 67 (Go.Operand.tmp 4), type := 67, pos := "plan.go:43", after := #[{ on := 17, ground := Go.Ground.guard }], guard := some (17, true) }) (v := .agg #[.int .i64 y0, .int .i64 y1, .int .i64 y2, .int .i64 y3, .int .i64 y4, .int .i64 y5, .int .i64 y6]) rfl (by kernel_rfl) (by kernel_rfl) (by kernel_rfl) (fun _ _ _ h => h) (.inl ⟨by kernel_rfl, fun w9 h9 => by
      clear hHeld
      have d0 := (h9.cell (p := ⟨w.heap.size + 1, 0, none⟩) hz1).trans q0
      have d1 := (h9.cell (p := ⟨w.heap.size + 1, 1, none⟩) hz1).trans q1
      have d2 := (h9.cell (p := ⟨w.heap.size + 1, 2, none⟩) hz1).trans q2
      have d3 := (h9.cell (p := ⟨w.heap.size + 1, 3, none⟩) hz1).trans q3
      have d4 := (h9.cell (p := ⟨w.heap.size + 1, 4, none⟩) hz1).trans q4
      have d5 := (h9.cell (p := ⟨w.heap.size + 1, 5, none⟩) hz1).trans q5
      have d6 := (h9.cell (p := ⟨w.heap.size + 1, 6, none⟩) hz1).trans q6
      clear h9
      go_simp⟩) hHeld ?_
    refine takeU (i := 21) (some 28) (.pointer (some ⟨w.heap.size, 0, none⟩)) (by kernel_rfl) (by kernel_rfl) (by kernel_rfl) (by kernel_rfl) (by kernel_rfl) (fun _ => by kernel_rfl) (fun _ _ _ h => h) hHeld ?_
    refine wpAnyH_take (i := 22) (oi := { dst := some 29, op := Go.Op.load 65 (Go.Operand.tmp 28), type := 65, pos := "plan.go:43", after := #[{ on := 21, ground := Go.Ground.data }, { on := 17, ground := Go.Ground.guard }], guard := some (17, true) }) (v := .agg #[.int .i64 x0, .int .i64 x1, .int .i64 x2, .int .i64 x3]) rfl (by kernel_rfl) (by kernel_rfl) (by kernel_rfl) (fun _ _ _ h => h) (.inl ⟨by kernel_rfl, fun w9 h9 => by
      clear hHeld
      have d0 := (h9.cell (p := ⟨w.heap.size, 0, none⟩) hz0).trans p0
      have d1 := (h9.cell (p := ⟨w.heap.size, 1, none⟩) hz0).trans p1
      have d2 := (h9.cell (p := ⟨w.heap.size, 2, none⟩) hz0).trans p2
      have d3 := (h9.cell (p := ⟨w.heap.size, 3, none⟩) hz0).trans p3
      clear h9
      go_simp⟩) hHeld ?_
    refine wpAnyH_take (i := 23) (oi := { dst := some 30, op := Go.Op.load 25 (Go.Operand.tmp 5), type := 25, pos := "plan.go:43", after := #[{ on := 17, ground := Go.Ground.guard }], guard := some (17, true) }) (v := .agg #[.int .i64 s.O, .int .i64 s.C, .slice s.aH s.H.length s.cH, .int .i64 s.M, .slice s.aS s.S.length s.cS, .slice s.aJ s.J.length s.cJ]) rfl (by kernel_rfl) (by kernel_rfl) (by kernel_rfl) (fun _ _ _ h => h) (.inl ⟨by kernel_rfl, fun w9 h9 => by
      clear hHeld
      have d0 := (h9.cell (p := ⟨w.heap.size + 1 + 1, 0, none⟩) hz).trans r0
      have d1 := (h9.cell (p := ⟨w.heap.size + 1 + 1, 1, none⟩) hz).trans r1
      have d2 := (h9.cell (p := ⟨w.heap.size + 1 + 1, 2, none⟩) hz).trans r2
      have d3 := (h9.cell (p := ⟨w.heap.size + 1 + 1, 3, none⟩) hz).trans r3
      have d4 := (h9.cell (p := ⟨w.heap.size + 1 + 1, 4, none⟩) hz).trans r4
      have d5 := (h9.cell (p := ⟨w.heap.size + 1 + 1, 5, none⟩) hz).trans r5
      clear h9
      go_simp⟩) hHeld ?_
    try simp only [Act.put, List.setIfInBounds_toArray, List.set_cons_zero, List.set_cons_succ]
    refine wpAnyH_ready (rs := [24]) (by kernel_rfl) (by simp) ?_
    refine AllReadyH.cons (o := { dst := some 31, op := Go.Op.call { callee := Go.Callee.value (Go.Operand.func 77), args := #[Go.Operand.tmp 27, Go.Operand.tmp 29, Go.Operand.tmp 30], argTypes := #[67, 65, 25] }, type := 3, pos := "plan.go:43", after := #[{ on := 20, ground := Go.Ground.data }, { on := 22, ground := Go.Ground.data }, { on := 23, ground := Go.Ground.data }, { on := 17, ground := Go.Ground.chain }, { on := 17, ground := Go.Ground.guard }], guard := some (17, true) }) rfl (fun K hK => ?_) AllReadyH.nil
    go_simp
    go_at_call 77
    refine (HY.out _ (HB.out.trans (hHeld.mono HB.out.size))).mono ?_
    rintro e w249 ⟨rfl, hb249⟩
    refine hK.out _ _ (hHeld.trans (hb249.mono hHeld.size)) (fun hHeld => ?_)
    clear hK K hb249
    try simp only [Act.put, List.setIfInBounds_toArray, List.set_cons_zero, List.set_cons_succ]
    refine wpAnyH_take (i := 25) (oi := { dst := some 32, op := Go.Op.binOp Go.BinOp.lss 3 (Go.Operand.tmp 26) (Go.Operand.tmp 31) 3, type := 4, pos := "plan.go:43", after := #[{ on := 19, ground := Go.Ground.data }, { on := 24, ground := Go.Ground.data }, { on := 17, ground := Go.Ground.guard }], guard := some (17, true) }) (v := .bool true) rfl (by kernel_rfl) (by kernel_rfl) (by kernel_rfl) (fun _ _ _ h => h) (.inl ⟨by kernel_rfl, fun w9 h9 => by
      clear hHeld h9
      go_simp⟩) hHeld ?_
    refine takeU (i := 26) (some 33) (.bool true) (by kernel_rfl) (by kernel_rfl) (by kernel_rfl) (by kernel_rfl) (by kernel_rfl) (fun _ => by kernel_rfl) (fun _ _ _ h => h) hHeld ?_
    refine takeU (i := 27) (some 6) (.bool true) (by kernel_rfl) (by kernel_rfl) (by kernel_rfl) (by kernel_rfl) (by kernel_rfl) (fun _ => by kernel_rfl) (fun _ _ _ h => h) hHeld ?_
    refine wpAnyH_done (by kernel_rfl) ?_ _
    try simp only [Act.put, List.setIfInBounds_toArray, List.set_cons_zero, List.set_cons_succ]
    go_wp2_with fail
    go_ret
    exact ⟨rfl, HB.out.trans (hHeld.mono HB.out.size)⟩
  · rw [decide_eq_false h2]
    have d2 : decide (x6 < h) = false := decide_eq_false h2
    clear h2
    go_enter Try.func45, Try.ntmps45
    go_wp2_with fail
    obtain ⟨wB, hwB⟩ : ∃ wB, ((w.alloc (.cells #[.int .i64 x0, .int .i64 x1, .int .i64 x2, .int .i64 x3, .int .i64 x4, .int .i64 x5, .int .i64 x6] 67)).alloc (.cells #[.int .i64 y0, .int .i64 y1, .int .i64 y2, .int .i64 y3, .int .i64 y4, .int .i64 y5, .int .i64 y6] 67)).alloc (.cells #[.int .i64 s.O, .int .i64 s.C, .slice s.aH s.H.length s.cH, .int .i64 s.M, .slice s.aS s.S.length s.cS, .slice s.aJ s.J.length s.cJ] 25) = wB := ⟨_, rfl⟩
    have hb : Below w.heap.size w wB := by rw [← hwB]; exact HBw.out _ _ _
    have p0 : wB.cell? ⟨w.heap.size, 0, none⟩ = some (.int .i64 x0) := by rw [← hwB]; simp [go_sem]
    have p1 : wB.cell? ⟨w.heap.size, 1, none⟩ = some (.int .i64 x1) := by rw [← hwB]; simp [go_sem]
    have p2 : wB.cell? ⟨w.heap.size, 2, none⟩ = some (.int .i64 x2) := by rw [← hwB]; simp [go_sem]
    have p3 : wB.cell? ⟨w.heap.size, 3, none⟩ = some (.int .i64 x3) := by rw [← hwB]; simp [go_sem]
    have p4 : wB.cell? ⟨w.heap.size, 4, none⟩ = some (.int .i64 x4) := by rw [← hwB]; simp [go_sem]
    have p5 : wB.cell? ⟨w.heap.size, 5, none⟩ = some (.int .i64 x5) := by rw [← hwB]; simp [go_sem]
    have p6 : wB.cell? ⟨w.heap.size, 6, none⟩ = some (.int .i64 x6) := by rw [← hwB]; simp [go_sem]
    have q0 : wB.cell? ⟨w.heap.size + 1, 0, none⟩ = some (.int .i64 y0) := by rw [← hwB]; simp [go_sem]
    have q1 : wB.cell? ⟨w.heap.size + 1, 1, none⟩ = some (.int .i64 y1) := by rw [← hwB]; simp [go_sem]
    have q2 : wB.cell? ⟨w.heap.size + 1, 2, none⟩ = some (.int .i64 y2) := by rw [← hwB]; simp [go_sem]
    have q3 : wB.cell? ⟨w.heap.size + 1, 3, none⟩ = some (.int .i64 y3) := by rw [← hwB]; simp [go_sem]
    have q4 : wB.cell? ⟨w.heap.size + 1, 4, none⟩ = some (.int .i64 y4) := by rw [← hwB]; simp [go_sem]
    have q5 : wB.cell? ⟨w.heap.size + 1, 5, none⟩ = some (.int .i64 y5) := by rw [← hwB]; simp [go_sem]
    have q6 : wB.cell? ⟨w.heap.size + 1, 6, none⟩ = some (.int .i64 y6) := by rw [← hwB]; simp [go_sem]
    have r0 : wB.cell? ⟨w.heap.size + 1 + 1, 0, none⟩ = some (.int .i64 s.O) := by rw [← hwB]; simp [go_sem]
    have r1 : wB.cell? ⟨w.heap.size + 1 + 1, 1, none⟩ = some (.int .i64 s.C) := by rw [← hwB]; simp [go_sem]
    have r2 : wB.cell? ⟨w.heap.size + 1 + 1, 2, none⟩ = some (.slice s.aH s.H.length s.cH) := by rw [← hwB]; simp [go_sem]
    have r3 : wB.cell? ⟨w.heap.size + 1 + 1, 3, none⟩ = some (.int .i64 s.M) := by rw [← hwB]; simp [go_sem]
    have r4 : wB.cell? ⟨w.heap.size + 1 + 1, 4, none⟩ = some (.slice s.aS s.S.length s.cS) := by rw [← hwB]; simp [go_sem]
    have r5 : wB.cell? ⟨w.heap.size + 1 + 1, 5, none⟩ = some (.slice s.aJ s.J.length s.cJ) := by rw [← hwB]; simp [go_sem]
    have hz : w.heap.size + 1 + 1 < wB.heap.size := by rw [← hwB]; simp
    have hz1 : w.heap.size + 1 < wB.heap.size := by omega
    have hz0 : w.heap.size < wB.heap.size := by omega
    rw [hwB]
    clear hwB
    have HB := Lib.hid hb
    clear hb HBw
    refine wp_region_held_drew (S := fun w' => Below wB.heap.size wB w') (by kernel_rfl) ((Below.refl _ _).drew) (fun hHeld => ?_)
    refine takeU (i := 0) (some 7) (.pointer (some ⟨w.heap.size, 0, none⟩)) (by kernel_rfl) (by kernel_rfl) (by kernel_rfl) (by kernel_rfl) (by kernel_rfl) (fun _ => by kernel_rfl) (fun _ _ _ h => h) hHeld ?_
    refine takeU (i := 1) (some 8) (.pointer (some ⟨w.heap.size, 0, none⟩)) (by kernel_rfl) (by kernel_rfl) (by kernel_rfl) (by kernel_rfl) (by kernel_rfl) (fun _ => by kernel_rfl) (fun _ _ _ h => h) hHeld ?_
    refine wpAnyH_take (i := 2) (oi := { dst := some 9, op := Go.Op.load 3 (Go.Operand.tmp 8), type := 3, pos := "plan.go:43", after := #[{ on := 1, ground := Go.Ground.data }], guard := none }) (v := .int .i64 x0) rfl (by kernel_rfl) (by kernel_rfl) (by kernel_rfl) (fun _ _ _ h => h) (.inl ⟨by kernel_rfl, fun w9 h9 => by
      clear hHeld
      have d0 := (h9.cell (p := ⟨w.heap.size, 0, none⟩) hz0).trans p0
      clear h9
      go_simp⟩) hHeld ?_
    refine takeU (i := 3) (some 10) (.pointer (some ⟨w.heap.size + 1, 0, none⟩)) (by kernel_rfl) (by kernel_rfl) (by kernel_rfl) (by kernel_rfl) (by kernel_rfl) (fun _ => by kernel_rfl) (fun _ _ _ h => h) hHeld ?_
    refine takeU (i := 4) (some 11) (.pointer (some ⟨w.heap.size + 1, 0, none⟩)) (by kernel_rfl) (by kernel_rfl) (by kernel_rfl) (by kernel_rfl) (by kernel_rfl) (fun _ => by kernel_rfl) (fun _ _ _ h => h) hHeld ?_
    refine wpAnyH_take (i := 5) (oi := { dst := some 12, op := Go.Op.load 3 (Go.Operand.tmp 11), type := 3, pos := "plan.go:43", after := #[{ on := 4, ground := Go.Ground.data }], guard := none }) (v := .int .i64 y0) rfl (by kernel_rfl) (by kernel_rfl) (by kernel_rfl) (fun _ _ _ h => h) (.inl ⟨by kernel_rfl, fun w9 h9 => by
      clear hHeld
      have d0 := (h9.cell (p := ⟨w.heap.size + 1, 0, none⟩) hz1).trans q0
      clear h9
      go_simp⟩) hHeld ?_
    refine wpAnyH_take (i := 6) (oi := { dst := some 13, op := Go.Op.binOp Go.BinOp.eql 3 (Go.Operand.tmp 9) (Go.Operand.tmp 12) 3, type := 4, pos := "plan.go:43", after := #[{ on := 2, ground := Go.Ground.data }, { on := 5, ground := Go.Ground.data }], guard := none }) (v := .bool true) rfl (by kernel_rfl) (by kernel_rfl) (by kernel_rfl) (fun _ _ _ h => h) (.inl ⟨by kernel_rfl, fun w9 h9 => by
      clear hHeld h9
      go_simp⟩) hHeld ?_
    refine takeU (i := 7) (some 14) (.bool true) (by kernel_rfl) (by kernel_rfl) (by kernel_rfl) (by kernel_rfl) (by kernel_rfl) (fun _ => by kernel_rfl) (fun _ _ _ h => h) hHeld ?_
    refine takeU (i := 8) (some 15) (.pointer (some ⟨w.heap.size + 1, 6, none⟩)) (by kernel_rfl) (by kernel_rfl) (by kernel_rfl) (by kernel_rfl) (by kernel_rfl) (fun _ => by kernel_rfl) (fun _ _ _ h => h) hHeld ?_
    refine wpAnyH_take (i := 9) (oi := { dst := some 16, op := Go.Op.load 3 (Go.Operand.tmp 15), type := 3, pos := "plan.go:43", after := #[{ on := 8, ground := Go.Ground.data }, { on := 7, ground := Go.Ground.guard }], guard := some (7, true) }) (v := .int .i64 y6) rfl (by kernel_rfl) (by kernel_rfl) (by kernel_rfl) (fun _ _ _ h => h) (.inl ⟨by kernel_rfl, fun w9 h9 => by
      clear hHeld
      have d0 := (h9.cell (p := ⟨w.heap.size + 1, 6, none⟩) hz1).trans q6
      clear h9
      go_simp⟩) hHeld ?_
    refine wpAnyH_take (i := 10) (oi := { dst := some 17, op := Go.Op.load 67 (Go.Operand.tmp 3), type := 67, pos := "plan.go:43", after := #[{ on := 7, ground := Go.Ground.guard }], guard := some (7, true) }) (v := .agg #[.int .i64 x0, .int .i64 x1, .int .i64 x2, .int .i64 x3, .int .i64 x4, .int .i64 x5, .int .i64 x6]) rfl (by kernel_rfl) (by kernel_rfl) (by kernel_rfl) (fun _ _ _ h => h) (.inl ⟨by kernel_rfl, fun w9 h9 => by
      clear hHeld
      have d0 := (h9.cell (p := ⟨w.heap.size, 0, none⟩) hz0).trans p0
      have d1 := (h9.cell (p := ⟨w.heap.size, 1, none⟩) hz0).trans p1
      have d2 := (h9.cell (p := ⟨w.heap.size, 2, none⟩) hz0).trans p2
      have d3 := (h9.cell (p := ⟨w.heap.size, 3, none⟩) hz0).trans p3
      have d4 := (h9.cell (p := ⟨w.heap.size, 4, none⟩) hz0).trans p4
      have d5 := (h9.cell (p := ⟨w.heap.size, 5, none⟩) hz0).trans p5
      have d6 := (h9.cell (p := ⟨w.heap.size, 6, none⟩) hz0).trans p6
      clear h9
      go_simp⟩) hHeld ?_
    refine takeU (i := 11) (some 18) (.pointer (some ⟨w.heap.size + 1, 0, none⟩)) (by kernel_rfl) (by kernel_rfl) (by kernel_rfl) (by kernel_rfl) (by kernel_rfl) (fun _ => by kernel_rfl) (fun _ _ _ h => h) hHeld ?_
    refine wpAnyH_take (i := 12) (oi := { dst := some 19, op := Go.Op.load 65 (Go.Operand.tmp 18), type := 65, pos := "plan.go:43", after := #[{ on := 11, ground := Go.Ground.data }, { on := 7, ground := Go.Ground.guard }], guard := some (7, true) }) (v := .agg #[.int .i64 y0, .int .i64 y1, .int .i64 y2, .int .i64 y3]) rfl (by kernel_rfl) (by kernel_rfl) (by kernel_rfl) (fun _ _ _ h => h) (.inl ⟨by kernel_rfl, fun w9 h9 => by
      clear hHeld
      have d0 := (h9.cell (p := ⟨w.heap.size + 1, 0, none⟩) hz1).trans q0
      have d1 := (h9.cell (p := ⟨w.heap.size + 1, 1, none⟩) hz1).trans q1
      have d2 := (h9.cell (p := ⟨w.heap.size + 1, 2, none⟩) hz1).trans q2
      have d3 := (h9.cell (p := ⟨w.heap.size + 1, 3, none⟩) hz1).trans q3
      clear h9
      go_simp⟩) hHeld ?_
    refine wpAnyH_take (i := 13) (oi := { dst := some 20, op := Go.Op.load 25 (Go.Operand.tmp 5), type := 25, pos := "plan.go:43", after := #[{ on := 7, ground := Go.Ground.guard }], guard := some (7, true) }) (v := .agg #[.int .i64 s.O, .int .i64 s.C, .slice s.aH s.H.length s.cH, .int .i64 s.M, .slice s.aS s.S.length s.cS, .slice s.aJ s.J.length s.cJ]) rfl (by kernel_rfl) (by kernel_rfl) (by kernel_rfl) (fun _ _ _ h => h) (.inl ⟨by kernel_rfl, fun w9 h9 => by
      clear hHeld
      have d0 := (h9.cell (p := ⟨w.heap.size + 1 + 1, 0, none⟩) hz).trans r0
      have d1 := (h9.cell (p := ⟨w.heap.size + 1 + 1, 1, none⟩) hz).trans r1
      have d2 := (h9.cell (p := ⟨w.heap.size + 1 + 1, 2, none⟩) hz).trans r2
      have d3 := (h9.cell (p := ⟨w.heap.size + 1 + 1, 3, none⟩) hz).trans r3
      have d4 := (h9.cell (p := ⟨w.heap.size + 1 + 1, 4, none⟩) hz).trans r4
      have d5 := (h9.cell (p := ⟨w.heap.size + 1 + 1, 5, none⟩) hz).trans r5
      clear h9
      go_simp⟩) hHeld ?_
    try simp only [Act.put, List.setIfInBounds_toArray, List.set_cons_zero, List.set_cons_succ]
    refine wpAnyH_ready (rs := [14]) (by kernel_rfl) (by simp) ?_
    refine AllReadyH.cons (o := { dst := some 21, op := Go.Op.call { callee := Go.Callee.value (Go.Operand.func 77), args := #[Go.Operand.tmp 17, Go.Operand.tmp 19, Go.Operand.tmp 20], argTypes := #[67, 65, 25] }, type := 3, pos := "plan.go:43", after := #[{ on := 10, ground := Go.Ground.data }, { on := 12, ground := Go.Ground.data }, { on := 13, ground := Go.Ground.data }, { on := 7, ground := Go.Ground.chain }, { on := 7, ground := Go.Ground.guard }], guard := some (7, true) }) rfl (fun K hK => ?_) AllReadyH.nil
    go_simp
    go_at_call 77
    refine (HX.out _ (HB.out.trans (hHeld.mono HB.out.size))).mono ?_
    rintro e w149 ⟨rfl, hb149⟩
    refine hK.out _ _ (hHeld.trans (hb149.mono hHeld.size)) (fun hHeld => ?_)
    clear hK K hb149
    try simp only [Act.put, List.setIfInBounds_toArray, List.set_cons_zero, List.set_cons_succ]
    refine wpAnyH_take (i := 15) (oi := { dst := some 22, op := Go.Op.binOp Go.BinOp.lss 3 (Go.Operand.tmp 16) (Go.Operand.tmp 21) 3, type := 4, pos := "plan.go:43", after := #[{ on := 9, ground := Go.Ground.data }, { on := 14, ground := Go.Ground.data }, { on := 7, ground := Go.Ground.guard }], guard := some (7, true) }) (v := .bool true) rfl (by kernel_rfl) (by kernel_rfl) (by kernel_rfl) (fun _ _ _ h => h) (.inl ⟨by kernel_rfl, fun w9 h9 => by
      clear hHeld h9
      go_simp⟩) hHeld ?_
    refine takeU (i := 16) (some 23) (.bool true) (by kernel_rfl) (by kernel_rfl) (by kernel_rfl) (by kernel_rfl) (by kernel_rfl) (fun _ => by kernel_rfl) (fun _ _ _ h => h) hHeld ?_
    refine takeU (i := 17) (some 24) (.bool true) (by kernel_rfl) (by kernel_rfl) (by kernel_rfl) (by kernel_rfl) (by kernel_rfl) (fun _ => by kernel_rfl) (fun _ _ _ h => h) hHeld ?_
    refine takeU (i := 18) (some 25) (.pointer (some ⟨w.heap.size, 6, none⟩)) (by kernel_rfl) (by kernel_rfl) (by kernel_rfl) (by kernel_rfl) (by kernel_rfl) (fun _ => by kernel_rfl) (fun _ _ _ h => h) hHeld ?_
    refine wpAnyH_take (i := 19) (oi := { dst := some 26, op := Go.Op.load 3 (Go.Operand.tmp 25), type := 3, pos := "plan.go:43", after := #[{ on := 18, ground := Go.Ground.data }, { on := 17, ground := Go.Ground.guard }], guard := some (17, true) }) (v := .int .i64 x6) rfl (by kernel_rfl) (by kernel_rfl) (by kernel_rfl) (fun _ _ _ h => h) (.inl ⟨by kernel_rfl, fun w9 h9 => by
      clear hHeld
      have d0 := (h9.cell (p := ⟨w.heap.size, 6, none⟩) hz0).trans p6
      clear h9
      go_simp⟩) hHeld ?_
    refine wpAnyH_take (i := 20) (oi := { dst := some 27, op := Go.Op.load 67 (Go.Operand.tmp 4), type := 67, pos := "plan.go:43", after := #[{ on := 17, ground := Go.Ground.guard }], guard := some (17, true) }) (v := .agg #[.int .i64 y0, .int .i64 y1, .int .i64 y2, .int .i64 y3, .int .i64 y4, .int .i64 y5, .int .i64 y6]) rfl (by kernel_rfl) (by kernel_rfl) (by kernel_rfl) (fun _ _ _ h => h) (.inl ⟨by kernel_rfl, fun w9 h9 => by
      clear hHeld
      have d0 := (h9.cell (p := ⟨w.heap.size + 1, 0, none⟩) hz1).trans q0
      have d1 := (h9.cell (p := ⟨w.heap.size + 1, 1, none⟩) hz1).trans q1
      have d2 := (h9.cell (p := ⟨w.heap.size + 1, 2, none⟩) hz1).trans q2
      have d3 := (h9.cell (p := ⟨w.heap.size + 1, 3, none⟩) hz1).trans q3
      have d4 := (h9.cell (p := ⟨w.heap.size + 1, 4, none⟩) hz1).trans q4
      have d5 := (h9.cell (p := ⟨w.heap.size + 1, 5, none⟩) hz1).trans q5
      have d6 := (h9.cell (p := ⟨w.heap.size + 1, 6, none⟩) hz1).trans q6
      clear h9
      go_simp⟩) hHeld ?_
    refine takeU (i := 21) (some 28) (.pointer (some ⟨w.heap.size, 0, none⟩)) (by kernel_rfl) (by kernel_rfl) (by kernel_rfl) (by kernel_rfl) (by kernel_rfl) (fun _ => by kernel_rfl) (fun _ _ _ h => h) hHeld ?_
    refine wpAnyH_take (i := 22) (oi := { dst := some 29, op := Go.Op.load 65 (Go.Operand.tmp 28), type := 65, pos := "plan.go:43", after := #[{ on := 21, ground := Go.Ground.data }, { on := 17, ground := Go.Ground.guard }], guard := some (17, true) }) (v := .agg #[.int .i64 x0, .int .i64 x1, .int .i64 x2, .int .i64 x3]) rfl (by kernel_rfl) (by kernel_rfl) (by kernel_rfl) (fun _ _ _ h => h) (.inl ⟨by kernel_rfl, fun w9 h9 => by
      clear hHeld
      have d0 := (h9.cell (p := ⟨w.heap.size, 0, none⟩) hz0).trans p0
      have d1 := (h9.cell (p := ⟨w.heap.size, 1, none⟩) hz0).trans p1
      have d2 := (h9.cell (p := ⟨w.heap.size, 2, none⟩) hz0).trans p2
      have d3 := (h9.cell (p := ⟨w.heap.size, 3, none⟩) hz0).trans p3
      clear h9
      go_simp⟩) hHeld ?_
    refine wpAnyH_take (i := 23) (oi := { dst := some 30, op := Go.Op.load 25 (Go.Operand.tmp 5), type := 25, pos := "plan.go:43", after := #[{ on := 17, ground := Go.Ground.guard }], guard := some (17, true) }) (v := .agg #[.int .i64 s.O, .int .i64 s.C, .slice s.aH s.H.length s.cH, .int .i64 s.M, .slice s.aS s.S.length s.cS, .slice s.aJ s.J.length s.cJ]) rfl (by kernel_rfl) (by kernel_rfl) (by kernel_rfl) (fun _ _ _ h => h) (.inl ⟨by kernel_rfl, fun w9 h9 => by
      clear hHeld
      have d0 := (h9.cell (p := ⟨w.heap.size + 1 + 1, 0, none⟩) hz).trans r0
      have d1 := (h9.cell (p := ⟨w.heap.size + 1 + 1, 1, none⟩) hz).trans r1
      have d2 := (h9.cell (p := ⟨w.heap.size + 1 + 1, 2, none⟩) hz).trans r2
      have d3 := (h9.cell (p := ⟨w.heap.size + 1 + 1, 3, none⟩) hz).trans r3
      have d4 := (h9.cell (p := ⟨w.heap.size + 1 + 1, 4, none⟩) hz).trans r4
      have d5 := (h9.cell (p := ⟨w.heap.size + 1 + 1, 5, none⟩) hz).trans r5
      clear h9
      go_simp⟩) hHeld ?_
    try simp only [Act.put, List.setIfInBounds_toArray, List.set_cons_zero, List.set_cons_succ]
    refine wpAnyH_ready (rs := [24]) (by kernel_rfl) (by simp) ?_
    refine AllReadyH.cons (o := { dst := some 31, op := Go.Op.call { callee := Go.Callee.value (Go.Operand.func 77), args := #[Go.Operand.tmp 27, Go.Operand.tmp 29, Go.Operand.tmp 30], argTypes := #[67, 65, 25] }, type := 3, pos := "plan.go:43", after := #[{ on := 20, ground := Go.Ground.data }, { on := 22, ground := Go.Ground.data }, { on := 23, ground := Go.Ground.data }, { on := 17, ground := Go.Ground.chain }, { on := 17, ground := Go.Ground.guard }], guard := some (17, true) }) rfl (fun K hK => ?_) AllReadyH.nil
    go_simp
    go_at_call 77
    refine (HY.out _ (HB.out.trans (hHeld.mono HB.out.size))).mono ?_
    rintro e w249 ⟨rfl, hb249⟩
    refine hK.out _ _ (hHeld.trans (hb249.mono hHeld.size)) (fun hHeld => ?_)
    clear hK K hb249
    try simp only [Act.put, List.setIfInBounds_toArray, List.set_cons_zero, List.set_cons_succ]
    refine wpAnyH_take (i := 25) (oi := { dst := some 32, op := Go.Op.binOp Go.BinOp.lss 3 (Go.Operand.tmp 26) (Go.Operand.tmp 31) 3, type := 4, pos := "plan.go:43", after := #[{ on := 19, ground := Go.Ground.data }, { on := 24, ground := Go.Ground.data }, { on := 17, ground := Go.Ground.guard }], guard := some (17, true) }) (v := .bool false) rfl (by kernel_rfl) (by kernel_rfl) (by kernel_rfl) (fun _ _ _ h => h) (.inl ⟨by kernel_rfl, fun w9 h9 => by
      clear hHeld h9
      go_simp⟩) hHeld ?_
    refine takeU (i := 26) (some 33) (.bool false) (by kernel_rfl) (by kernel_rfl) (by kernel_rfl) (by kernel_rfl) (by kernel_rfl) (fun _ => by kernel_rfl) (fun _ _ _ h => h) hHeld ?_
    refine takeU (i := 27) (some 6) (.bool false) (by kernel_rfl) (by kernel_rfl) (by kernel_rfl) (by kernel_rfl) (by kernel_rfl) (fun _ => by kernel_rfl) (fun _ _ _ h => h) hHeld ?_
    refine wpAnyH_done (by kernel_rfl) ?_ _
    try simp only [Act.put, List.setIfInBounds_toArray, List.set_cons_zero, List.set_cons_succ]
    go_wp2_with fail
    go_ret
    exact ⟨rfl, HB.out.trans (hHeld.mono HB.out.size)⟩
end Go.Proofs.Ytgphkfonjfdifaa

namespace Go.Proofs.Ytgphkfonjfdifaa
set_option linter.unusedVariables false
set_option linter.unusedSimpArgs false
open Go.RowKit

/-- The greatest chain of the first i jobs. -/
noncomputable def mxC (s : Sh) : Nat → Int
  | 0 => 0
  | i + 1 => max (mxC s i) (chainV s (gj s.J i))
/-- That, or the greatest load of the first m machines. -/
noncomputable def mxL (s : Sh) : Nat → Int
  | 0 => mxC s s.J.length
  | m + 1 => max (mxL s m) (loadV s m)
noncomputable def boundV (s : Sh) : Int := mxL s s.M.toNat

end Go.Proofs.Ytgphkfonjfdifaa

namespace Go.Proofs.Ytgphkfonjfdifaa
set_option linter.unusedVariables false
set_option linter.unusedSimpArgs false
open Go.RowKit

/-- A step of a pair, and its start in a plan. -/
def stpP (s : Sh) (p : Int × Int) : Stp := gs (gj s.J p.1.toNat) p.2.toNat
def sttP (P : List (List Int)) (p : Int × Int) : Int := gi (gr P p.1.toNat) p.2.toNat
/-- A plan is right. -/
structure RightP (s : Sh) (P : List (List Int)) : Prop where
  plan : PlanOk s P
  shift : ∀ i k, i < s.J.length → k < (gj s.J i).length → InSh s.O s.C s.H (gi (gr P i) k) (gs (gj s.J i) k).2.1
  early : ∀ i k, i < s.J.length → k < (gj s.J i).length → rdyV s P i k ≤ gi (gr P i) k
  clash : ∀ n m, n < m → m < (flP s.J).length → (stpP s (gp (flP s.J) n)).1 = (stpP s (gp (flP s.J) m)).1 → apB s.S (stpP s (gp (flP s.J) n)) (sttP P (gp (flP s.J) n)) (stpP s (gp (flP s.J) m)) (sttP P (gp (flP s.J) m)) = true
/-- The greatest end of the first n steps. -/
def endN (s : Sh) (P : List (List Int)) : Nat → Int
  | 0 => 0
  | n + 1 => max (endN s P n) (sttP P (gp (flP s.J) n) + (stpP s (gp (flP s.J) n)).2.1)
def endV (s : Sh) (P : List (List Int)) : Int := endN s P (flP s.J).length
theorem fl_mem {J : List (List Stp)} {a b : Nat} (hb : b < (gj J a).length) : ∀ i, a < i → ((a : Int), (b : Int)) ∈ flI J i
  | i + 1, h => by
    rw [flI, List.mem_append]
    by_cases e : a = i
    · subst e
      right
      unfold rowP
      exact List.mem_map.2 ⟨b, List.mem_range.2 hb, rfl⟩
    · exact .inl (fl_mem hb i (by omega))
theorem fl_ix {J : List (List Stp)} {a b : Nat} (ha : a < J.length) (hb : b < (gj J a).length) : ∃ n, n < (flP J).length ∧ gp (flP J) n = ((a : Int), (b : Int)) := by
  obtain ⟨n, hn, e⟩ := List.getElem_of_mem (fl_mem hb J.length ha)
  exact ⟨n, hn, by unfold gp flP; rw [List.getD_eq_getElem?_getD, List.getElem?_eq_getElem hn]; exact e⟩
section
variable (f : Int → Int) (a b : Int × Int → Int)
/-- What the steps of a list have up to a time. -/
def totE : List (Int × Int) → Int → Int
  | [], _ => 0
  | p :: r, E => (f (min E (b p)) - f (min E (a p))) + totE r E
/-- How many of them are under way. -/
def cntE : List (Int × Int) → Int → Int
  | [], _ => 0
  | p :: r, E => (if a p ≤ E ∧ E < b p then 1 else 0) + cntE r E
end
end Go.Proofs.Ytgphkfonjfdifaa
