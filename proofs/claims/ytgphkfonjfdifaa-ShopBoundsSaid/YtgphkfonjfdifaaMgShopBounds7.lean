/-
  Steps of a region that draws its order, one by one: an operation whose guard is false; one that yields its value in every world at hand. By an AI agent.; The walk of clashes of a placed step. By an AI agent.; The walks of Bound of both. By an AI agent.; No right plan ends ahead of the bound: plain mathematics. By an AI agent.
-/
import Derived.Test.YtgphkfonjfdifaaMgShopBounds5
import Derived.Test.YtgphkfonjfdifaaMgShopBounds6
import Derived.Deep.RegionHeld3
import Derived.BigRegion

namespace Go.Proofs.Ytgphkfonjfdifaa
set_option linter.unusedVariables false
set_option linter.unusedSimpArgs false

section
variable {P : Program} {ops : Array Oper} {Q : Exit → Act → World → Prop} {md : Region.Mode} {S : World → Prop}
/-- An operation that is not wanted leaves nothing. -/
theorem skipU {i : Nat} (d : Option Nat) {fuel : Nat} {listed : Array Bool} {a : Act} {w : World} (hs : Region.noSelect ops = true) (hf : Region.free md ops listed i = true) (hr : (Region.ready md ops listed).contains i = true)
    (hd : (ops[i]?).map (·.dst) = some d) (hu : ((ops[i]?).map fun o => Region.wanted o (yielded ops a.tmps)) = some false) (hQ : ∀ c a w, Q (.panic c) (a.put d undef) w → Q (.panic c) a w) (hS : S w)
    (h : wpAnyH P md ops Q S fuel (listed.setIfInBounds i true) (a.put d undef) w) : wpAnyH P md ops Q S (fuel + 1) listed a w := by
  cases ho : ops[i]? with
  | none => rw [ho] at hd; cases hd
  | some o =>
    rw [ho] at hd hu
    simp only [Option.map_some, Option.some.injEq] at hd hu
    subst hd
    exact wpAnyH_take ho hs hf hr hQ (.inr ⟨hu, rfl⟩) hS h
/-- An operation that yields its value in every world. -/
theorem takeU {i : Nat} (d : Option Nat) (v : Value) {fuel : Nat} {listed : Array Bool} {a : Act} {w : World} (hs : Region.noSelect ops = true) (hf : Region.free md ops listed i = true) (hr : (Region.ready md ops listed).contains i = true)
    (hd : (ops[i]?).map (·.dst) = some d) (hu : ((ops[i]?).map fun o => Region.wanted o (yielded ops a.tmps)) = some true) (hv : ∀ w, ((ops[i]?).map fun o => (execOp a.eval o).run P w) = some (.ok (.value v) w)) (hQ : ∀ c a w, Q (.panic c) (a.put d v) w → Q (.panic c) a w) (hS : S w)
    (h : wpAnyH P md ops Q S fuel (listed.setIfInBounds i true) (a.put d v) w) : wpAnyH P md ops Q S (fuel + 1) listed a w := by
  cases ho : ops[i]? with
  | none => rw [ho] at hd; cases hd
  | some o =>
    rw [ho] at hd hu hv
    simp only [Option.map_some, Option.some.injEq] at hd hu hv
    subst hd
    exact wpAnyH_take ho hs hf hr hQ (.inl ⟨hu, fun w _ => hv w⟩) hS h
end
end Go.Proofs.Ytgphkfonjfdifaa

namespace Go.Proofs.Ytgphkfonjfdifaa
set_option linter.unusedVariables false
set_option linter.unusedSimpArgs false
open Go.RowKit

/-- Two steps with their starts clash. -/
def clB (S : List Int) (a : Stp) (t : Int) (b : Stp) (u : Int) : Bool := decide (a.1 = b.1) && (decide (u < t + a.2.1 + waitV S a b) && decide (t < u + b.2.1 + waitV S b a))
theorem wait_bd {s : Sh} (hM : (s.S.length : Int) = s.M) (hS : ∀ j, j < s.S.length → setAt s.S j) (a b : Stp) (h1 : 0 ≤ a.1) (h2 : a.1 < s.M) : 0 ≤ waitV s.S a b ∧ waitV s.S a b ≤ 100000 := by
  unfold waitV
  split
  · omega
  · have := hS a.1.toNat (by omega)
    unfold setAt at this
    omega
set_option maxRecDepth 100000 in
set_option maxHeartbeats 4000000 in
theorem clashes_pl (s : Sh) (x0 x1 x2 x3 x4 x5 x6 y0 y1 y2 y3 y4 y5 y6 : Int) (w : World) (hI : IntsS w s.aS s.S) (hM : (s.S.length : Int) = s.M) (hS : ∀ j, j < s.S.length → setAt s.S j) (a0 : 0 ≤ x0 ∧ x0 < s.M) (b0 : 0 ≤ y0 ∧ y0 < s.M) (a1 : 0 ≤ x1 ∧ x1 ≤ 100000) (a6 : 0 ≤ x6 ∧ x6 ≤ 10000000000) (b1 : 0 ≤ y1 ∧ y1 ≤ 100000) (b6 : 0 ≤ y6 ∧ y6 ≤ 10000000000) :
    Calls Try.prog 45 #[.agg #[.int .i64 x0, .int .i64 x1, .int .i64 x2, .int .i64 x3, .int .i64 x4, .int .i64 x5, .int .i64 x6], .agg #[.int .i64 y0, .int .i64 y1, .int .i64 y2, .int .i64 y3, .int .i64 y4, .int .i64 y5, .int .i64 y6], .agg #[.int .i64 s.O, .int .i64 s.C, .slice s.aH s.H.length s.cH, .int .i64 s.M, .slice s.aS s.S.length s.cS, .slice s.aJ s.J.length s.cJ]] w fun e w' => e = .returned (.bool (clB s.S (x0, x1, x2, x3) x6 (y0, y1, y2, y3) y6)) ∧ Below w.heap.size w w' := by
  have HX := Lib.hid (fun W (hW : Below w.heap.size w W) => ready_pl s x0 x1 x2 x3 x4 x5 x6 y0 y1 y2 y3 W (hI.below hW) hM a0 (wait_bd hM hS _ _ a0.1 a0.2) a1 a6)
  have HY := Lib.hid (fun W (hW : Below w.heap.size w W) => ready_pl s y0 y1 y2 y3 y4 y5 y6 x0 x1 x2 x3 W (hI.below hW) hM b0 (wait_bd hM hS _ _ b0.1 b0.2) b1 b6)
  have hR : clB s.S (x0, x1, x2, x3) x6 (y0, y1, y2, y3) y6 = (decide (x0 = y0) && (decide (y6 < x6 + x1 + waitV s.S (x0, x1, x2, x3) (y0, y1, y2, y3)) && decide (x6 < y6 + y1 + waitV s.S (y0, y1, y2, y3) (x0, x1, x2, x3)))) := rfl
  rw [hR]
  clear hR hS hI hM a0 b0 a1 b1 a6 b6
  generalize x6 + x1 + waitV s.S (x0, x1, x2, x3) (y0, y1, y2, y3) = g at *
  generalize y6 + y1 + waitV s.S (y0, y1, y2, y3) (x0, x1, x2, x3) = h at *
  have HBw : Hid (∀ O1 O2 O3, Below w.heap.size w (((w.alloc O1).alloc O2).alloc O3)) := Lib.hid fun O1 O2 O3 => (((Below.refl _ _).alloc (Nat.le_refl _) _ : Below w.heap.size w (w.alloc O1)).alloc (by simp) _).alloc (by simp; omega) _
  by_cases h0 : x0 = y0
  rotate_left
  · rw [decide_eq_false h0, Bool.false_and]
    have e0 : (x0 == y0) = false := by rw [beq_eq_false_iff_ne]; exact h0
    clear h0
    go_enter Try.func45, Try.ntmps45
    go_wp2_with fail
    obtain ⟨wB, hwB⟩ : ∃ wB, ((w.alloc (.cells #[.int .i64 x0, .int .i64 x1, .int .i64 x2, .int .i64 x3, .int .i64 x4, .int .i64 x5, .int .i64 x6] 67)).alloc (.cells #[.int .i64 y0, .int .i64 y1, .int .i64 y2, .int .i64 y3, .int .i64 y4, .int .i64 y5, .int .i64 y6] 67)).alloc (.cells #[.int .i64 s.O, .int .i64 s.C, .slice s.aH s.H.length s.cH, .int .i64 s.M, .slice s.aS s.S.length s.cS, .slice s.aJ s.J.length s.cJ] 25) = wB := ⟨_, rfl⟩
    have hb : Below w.heap.size w wB := by rw [← hwB]; exact HBw.out _ _ _
    have p0 : wB.cell? ⟨w.heap.size, 0, none⟩ = some (.int .i64 x0) := by rw [← hwB]; simp [go_sem]
    have p1 : wB.cell? ⟨w.heap.size, 1, none⟩ = some (.int .i64 x1) := by rw [← hwB]; simp [go_sem]
    have p2 : wB.cell? ⟨w.heap.size, 2, none⟩ = some (.int .i64 x2) := by rw [← hwB]; simp [go_sem]
    have p3 : wB.cell? ⟨w.heap.size, 3, none⟩ = some (.int .i64 x3) := by rw [← hwB]; simp [go_sem]
    have p4 : wB.cell? ⟨w.heap.size, 4, none⟩ = some (.int .i64 x4) := by rw [← hwB]; simp [go_sem]
    have p5 : wB.cell? ⟨w.heap.size, 5, none⟩ = some (.int .i64 x5) := by rw [← hwB]; simp [go_sem]
    have p6 : wB.cell? ⟨w.heap.size, 6, none⟩ = some (.int .i64 x6) := by rw [← hwB]; simp [go_sem]
    have q0 : wB.cell? ⟨w.heap.size + 1, 0, none⟩ = some (.int .i64 y0) := by rw [← hwB]; simp [go_sem]
    have q1 : wB.cell? ⟨w.heap.size + 1, 1, none⟩ = some (.int .i64 y1) := by rw [← hwB]; simp [go_sem]
    have q2 : wB.cell? ⟨w.heap.size + 1, 2, none⟩ = some (.int .i64 y2) := by rw [← hwB]; simp [go_sem]
    have q3 : wB.cell? ⟨w.heap.size + 1, 3, none⟩ = some (.int .i64 y3) := by rw [← hwB]; simp [go_sem]
    have q4 : wB.cell? ⟨w.heap.size + 1, 4, none⟩ = some (.int .i64 y4) := by rw [← hwB]; simp [go_sem]
    have q5 : wB.cell? ⟨w.heap.size + 1, 5, none⟩ = some (.int .i64 y5) := by rw [← hwB]; simp [go_sem]
    have q6 : wB.cell? ⟨w.heap.size + 1, 6, none⟩ = some (.int .i64 y6) := by rw [← hwB]; simp [go_sem]
    have r0 : wB.cell? ⟨w.heap.size + 1 + 1, 0, none⟩ = some (.int .i64 s.O) := by rw [← hwB]; simp [go_sem]
    have r1 : wB.cell? ⟨w.heap.size + 1 + 1, 1, none⟩ = some (.int .i64 s.C) := by rw [← hwB]; simp [go_sem]
    have r2 : wB.cell? ⟨w.heap.size + 1 + 1, 2, none⟩ = some (.slice s.aH s.H.length s.cH) := by rw [← hwB]; simp [go_sem]
    have r3 : wB.cell? ⟨w.heap.size + 1 + 1, 3, none⟩ = some (.int .i64 s.M) := by rw [← hwB]; simp [go_sem]
    have r4 : wB.cell? ⟨w.heap.size + 1 + 1, 4, none⟩ = some (.slice s.aS s.S.length s.cS) := by rw [← hwB]; simp [go_sem]
    have r5 : wB.cell? ⟨w.heap.size + 1 + 1, 5, none⟩ = some (.slice s.aJ s.J.length s.cJ) := by rw [← hwB]; simp [go_sem]
    have hz : w.heap.size + 1 + 1 < wB.heap.size := by rw [← hwB]; simp
    have hz1 : w.heap.size + 1 < wB.heap.size := by omega
    have hz0 : w.heap.size < wB.heap.size := by omega
    rw [hwB]
    clear hwB
    have HB := Lib.hid hb
    clear hb HBw
    refine wp_region_held_drew (S := fun w' => Below wB.heap.size wB w') (by kernel_rfl) ((Below.refl _ _).drew) (fun hHeld => ?_)
    refine takeU (i := 0) (some 7) (.pointer (some ⟨w.heap.size, 0, none⟩)) (by kernel_rfl) (by kernel_rfl) (by kernel_rfl) (by kernel_rfl) (by kernel_rfl) (fun _ => by kernel_rfl) (fun _ _ _ h => h) hHeld ?_
    refine takeU (i := 1) (some 8) (.pointer (some ⟨w.heap.size, 0, none⟩)) (by kernel_rfl) (by kernel_rfl) (by kernel_rfl) (by kernel_rfl) (by kernel_rfl) (fun _ => by kernel_rfl) (fun _ _ _ h => h) hHeld ?_
    refine wpAnyH_take (i := 2) (oi := { dst := some 9, op := Go.Op.load 3 (Go.Operand.tmp 8), type := 3, pos := "plan.go:43", after := #[{ on := 1, ground := Go.Ground.data }], guard := none }) (v := .int .i64 x0) rfl (by kernel_rfl) (by kernel_rfl) (by kernel_rfl) (fun _ _ _ h => h) (.inl ⟨by kernel_rfl, fun w9 h9 => by
      clear hHeld
      have d0 := (h9.cell (p := ⟨w.heap.size, 0, none⟩) hz0).trans p0
      clear h9
      go_simp⟩) hHeld ?_
    refine takeU (i := 3) (some 10) (.pointer (some ⟨w.heap.size + 1, 0, none⟩)) (by kernel_rfl) (by kernel_rfl) (by kernel_rfl) (by kernel_rfl) (by kernel_rfl) (fun _ => by kernel_rfl) (fun _ _ _ h => h) hHeld ?_
    refine takeU (i := 4) (some 11) (.pointer (some ⟨w.heap.size + 1, 0, none⟩)) (by kernel_rfl) (by kernel_rfl) (by kernel_rfl) (by kernel_rfl) (by kernel_rfl) (fun _ => by kernel_rfl) (fun _ _ _ h => h) hHeld ?_
    refine wpAnyH_take (i := 5) (oi := { dst := some 12, op := Go.Op.load 3 (Go.Operand.tmp 11), type := 3, pos := "plan.go:43", after := #[{ on := 4, ground := Go.Ground.data }], guard := none }) (v := .int .i64 y0) rfl (by kernel_rfl) (by kernel_rfl) (by kernel_rfl) (fun _ _ _ h => h) (.inl ⟨by kernel_rfl, fun w9 h9 => by
      clear hHeld
      have d0 := (h9.cell (p := ⟨w.heap.size + 1, 0, none⟩) hz1).trans q0
      clear h9
      go_simp⟩) hHeld ?_
    refine wpAnyH_take (i := 6) (oi := { dst := some 13, op := Go.Op.binOp Go.BinOp.eql 3 (Go.Operand.tmp 9) (Go.Operand.tmp 12) 3, type := 4, pos := "plan.go:43", after := #[{ on := 2, ground := Go.Ground.data }, { on := 5, ground := Go.Ground.data }], guard := none }) (v := .bool false) rfl (by kernel_rfl) (by kernel_rfl) (by kernel_rfl) (fun _ _ _ h => h) (.inl ⟨by kernel_rfl, fun w9 h9 => by
      clear hHeld h9
      go_simp⟩) hHeld ?_
    refine takeU (i := 7) (some 14) (.bool false) (by kernel_rfl) (by kernel_rfl) (by kernel_rfl) (by kernel_rfl) (by kernel_rfl) (fun _ => by kernel_rfl) (fun _ _ _ h => h) hHeld ?_
    refine skipU (i := 8) (some 15) (by kernel_rfl) (by kernel_rfl) (by kernel_rfl) (by kernel_rfl) (by kernel_rfl) (fun _ _ _ h => h) hHeld ?_
    refine skipU (i := 9) (some 16) (by kernel_rfl) (by kernel_rfl) (by kernel_rfl) (by kernel_rfl) (by kernel_rfl) (fun _ _ _ h => h) hHeld ?_
    refine skipU (i := 10) (some 17) (by kernel_rfl) (by kernel_rfl) (by kernel_rfl) (by kernel_rfl) (by kernel_rfl) (fun _ _ _ h => h) hHeld ?_
    refine skipU (i := 11) (some 18) (by kernel_rfl) (by kernel_rfl) (by kernel_rfl) (by kernel_rfl) (by kernel_rfl) (fun _ _ _ h => h) hHeld ?_
    refine skipU (i := 12) (some 19) (by kernel_rfl) (by kernel_rfl) (by kernel_rfl) (by kernel_rfl) (by kernel_rfl) (fun _ _ _ h => h) hHeld ?_
    refine skipU (i := 13) (some 20) (by kernel_rfl) (by kernel_rfl) (by kernel_rfl) (by kernel_rfl) (by kernel_rfl) (fun _ _ _ h => h) hHeld ?_
    refine skipU (i := 14) (some 21) (by kernel_rfl) (by kernel_rfl) (by kernel_rfl) (by kernel_rfl) (by kernel_rfl) (fun _ _ _ h => h) hHeld ?_
    refine skipU (i := 15) (some 22) (by kernel_rfl) (by kernel_rfl) (by kernel_rfl) (by kernel_rfl) (by kernel_rfl) (fun _ _ _ h => h) hHeld ?_
    refine takeU (i := 16) (some 23) (.bool false) (by kernel_rfl) (by kernel_rfl) (by kernel_rfl) (by kernel_rfl) (by kernel_rfl) (fun _ => by kernel_rfl) (fun _ _ _ h => h) hHeld ?_
    refine takeU (i := 17) (some 24) (.bool false) (by kernel_rfl) (by kernel_rfl) (by kernel_rfl) (by kernel_rfl) (by kernel_rfl) (fun _ => by kernel_rfl) (fun _ _ _ h => h) hHeld ?_
    refine skipU (i := 18) (some 25) (by kernel_rfl) (by kernel_rfl) (by kernel_rfl) (by kernel_rfl) (by kernel_rfl) (fun _ _ _ h => h) hHeld ?_
    refine skipU (i := 19) (some 26) (by kernel_rfl) (by kernel_rfl) (by kernel_rfl) (by kernel_rfl) (by kernel_rfl) (fun _ _ _ h => h) hHeld ?_
    refine skipU (i := 20) (some 27) (by kernel_rfl) (by kernel_rfl) (by kernel_rfl) (by kernel_rfl) (by kernel_rfl) (fun _ _ _ h => h) hHeld ?_
    refine skipU (i := 21) (some 28) (by kernel_rfl) (by kernel_rfl) (by kernel_rfl) (by kernel_rfl) (by kernel_rfl) (fun _ _ _ h => h) hHeld ?_
    refine skipU (i := 22) (some 29) (by kernel_rfl) (by kernel_rfl) (by kernel_rfl) (by kernel_rfl) (by kernel_rfl) (fun _ _ _ h => h) hHeld ?_
    refine skipU (i := 23) (some 30) (by kernel_rfl) (by kernel_rfl) (by kernel_rfl) (by kernel_rfl) (by kernel_rfl) (fun _ _ _ h => h) hHeld ?_
    refine skipU (i := 24) (some 31) (by kernel_rfl) (by kernel_rfl) (by kernel_rfl) (by kernel_rfl) (by kernel_rfl) (fun _ _ _ h => h) hHeld ?_
    refine skipU (i := 25) (some 32) (by kernel_rfl) (by kernel_rfl) (by kernel_rfl) (by kernel_rfl) (by kernel_rfl) (fun _ _ _ h => h) hHeld ?_
    refine takeU (i := 26) (some 33) (.bool false) (by kernel_rfl) (by kernel_rfl) (by kernel_rfl) (by kernel_rfl) (by kernel_rfl) (fun _ => by kernel_rfl) (fun _ _ _ h => h) hHeld ?_
    refine takeU (i := 27) (some 6) (.bool false) (by kernel_rfl) (by kernel_rfl) (by kernel_rfl) (by kernel_rfl) (by kernel_rfl) (fun _ => by kernel_rfl) (fun _ _ _ h => h) hHeld ?_
    refine wpAnyH_done (by kernel_rfl) ?_ _
    try simp only [Act.put, List.setIfInBounds_toArray, List.set_cons_zero, List.set_cons_succ]
    go_wp2_with fail
    go_ret
    exact ⟨rfl, HB.out.trans (hHeld.mono HB.out.size)⟩
  rw [decide_eq_true h0, Bool.true_and]
  have e0 : (x0 == y0) = true := by rw [beq_iff_eq]; exact h0
  clear h0
  by_cases h1 : y6 < g
  rotate_left
  · rw [decide_eq_false h1, Bool.false_and]
    have d1 : decide (y6 < g) = false := decide_eq_false h1
    clear h1
    go_enter Try.func45, Try.ntmps45
    go_wp2_with fail
    obtain ⟨wB, hwB⟩ : ∃ wB, ((w.alloc (.cells #[.int .i64 x0, .int .i64 x1, .int .i64 x2, .int .i64 x3, .int .i64 x4, .int .i64 x5, .int .i64 x6] 67)).alloc (.cells #[.int .i64 y0, .int .i64 y1, .int .i64 y2, .int .i64 y3, .int .i64 y4, .int .i64 y5, .int .i64 y6] 67)).alloc (.cells #[.int .i64 s.O, .int .i64 s.C, .slice s.aH s.H.length s.cH, .int .i64 s.M, .slice s.aS s.S.length s.cS, .slice s.aJ s.J.length s.cJ] 25) = wB := ⟨_, rfl⟩
    have hb : Below w.heap.size w wB := by rw [← hwB]; exact HBw.out _ _ _
    have p0 : wB.cell? ⟨w.heap.size, 0, none⟩ = some (.int .i64 x0) := by rw [← hwB]; simp [go_sem]
    have p1 : wB.cell? ⟨w.heap.size, 1, none⟩ = some (.int .i64 x1) := by rw [← hwB]; simp [go_sem]
    have p2 : wB.cell? ⟨w.heap.size, 2, none⟩ = some (.int .i64 x2) := by rw [← hwB]; simp [go_sem]
    have p3 : wB.cell? ⟨w.heap.size, 3, none⟩ = some (.int .i64 x3) := by rw [← hwB]; simp [go_sem]
    have p4 : wB.cell? ⟨w.heap.size, 4, none⟩ = some (.int .i64 x4) := by rw [← hwB]; simp [go_sem]
    have p5 : wB.cell? ⟨w.heap.size, 5, none⟩ = some (.int .i64 x5) := by rw [← hwB]; simp [go_sem]
    have p6 : wB.cell? ⟨w.heap.size, 6, none⟩ = some (.int .i64 x6) := by rw [← hwB]; simp [go_sem]
    have q0 : wB.cell? ⟨w.heap.size + 1, 0, none⟩ = some (.int .i64 y0) := by rw [← hwB]; simp [go_sem]
    have q1 : wB.cell? ⟨w.heap.size + 1, 1, none⟩ = some (.int .i64 y1) := by rw [← hwB]; simp [go_sem]
    have q2 : wB.cell? ⟨w.heap.size + 1, 2, none⟩ = some (.int .i64 y2) := by rw [← hwB]; simp [go_sem]
    have q3 : wB.cell? ⟨w.heap.size + 1, 3, none⟩ = some (.int .i64 y3) := by rw [← hwB]; simp [go_sem]
    have q4 : wB.cell? ⟨w.heap.size + 1, 4, none⟩ = some (.int .i64 y4) := by rw [← hwB]; simp [go_sem]
    have q5 : wB.cell? ⟨w.heap.size + 1, 5, none⟩ = some (.int .i64 y5) := by rw [← hwB]; simp [go_sem]
    have q6 : wB.cell? ⟨w.heap.size + 1, 6, none⟩ = some (.int .i64 y6) := by rw [← hwB]; simp [go_sem]
    have r0 : wB.cell? ⟨w.heap.size + 1 + 1, 0, none⟩ = some (.int .i64 s.O) := by rw [← hwB]; simp [go_sem]
    have r1 : wB.cell? ⟨w.heap.size + 1 + 1, 1, none⟩ = some (.int .i64 s.C) := by rw [← hwB]; simp [go_sem]
    have r2 : wB.cell? ⟨w.heap.size + 1 + 1, 2, none⟩ = some (.slice s.aH s.H.length s.cH) := by rw [← hwB]; simp [go_sem]
    have r3 : wB.cell? ⟨w.heap.size + 1 + 1, 3, none⟩ = some (.int .i64 s.M) := by rw [← hwB]; simp [go_sem]
    have r4 : wB.cell? ⟨w.heap.size + 1 + 1, 4, none⟩ = some (.slice s.aS s.S.length s.cS) := by rw [← hwB]; simp [go_sem]
    have r5 : wB.cell? ⟨w.heap.size + 1 + 1, 5, none⟩ = some (.slice s.aJ s.J.length s.cJ) := by rw [← hwB]; simp [go_sem]
    have hz : w.heap.size + 1 + 1 < wB.heap.size := by rw [← hwB]; simp
    have hz1 : w.heap.size + 1 < wB.heap.size := by omega
    have hz0 : w.heap.size < wB.heap.size := by omega
    rw [hwB]
    clear hwB
    have HB := Lib.hid hb
    clear hb HBw
    refine wp_region_held_drew (S := fun w' => Below wB.heap.size wB w') (by kernel_rfl) ((Below.refl _ _).drew) (fun hHeld => ?_)
    refine takeU (i := 0) (some 7) (.pointer (some ⟨w.heap.size, 0, none⟩)) (by kernel_rfl) (by kernel_rfl) (by kernel_rfl) (by kernel_rfl) (by kernel_rfl) (fun _ => by kernel_rfl) (fun _ _ _ h => h) hHeld ?_
    refine takeU (i := 1) (some 8) (.pointer (some ⟨w.heap.size, 0, none⟩)) (by kernel_rfl) (by kernel_rfl) (by kernel_rfl) (by kernel_rfl) (by kernel_rfl) (fun _ => by kernel_rfl) (fun _ _ _ h => h) hHeld ?_
    refine wpAnyH_take (i := 2) (oi := { dst := some 9, op := Go.Op.load 3 (Go.Operand.tmp 8), type := 3, pos := "plan.go:43", after := #[{ on := 1, ground := Go.Ground.data }], guard := none }) (v := .int .i64 x0) rfl (by kernel_rfl) (by kernel_rfl) (by kernel_rfl) (fun _ _ _ h => h) (.inl ⟨by kernel_rfl, fun w9 h9 => by
      clear hHeld
      have d0 := (h9.cell (p := ⟨w.heap.size, 0, none⟩) hz0).trans p0
      clear h9
      go_simp⟩) hHeld ?_
    refine takeU (i := 3) (some 10) (.pointer (some ⟨w.heap.size + 1, 0, none⟩)) (by kernel_rfl) (by kernel_rfl) (by kernel_rfl) (by kernel_rfl) (by kernel_rfl) (fun _ => by kernel_rfl) (fun _ _ _ h => h) hHeld ?_
    refine takeU (i := 4) (some 11) (.pointer (some ⟨w.heap.size + 1, 0, none⟩)) (by kernel_rfl) (by kernel_rfl) (by kernel_rfl) (by kernel_rfl) (by kernel_rfl) (fun _ => by kernel_rfl) (fun _ _ _ h => h) hHeld ?_
    refine wpAnyH_take (i := 5) (oi := { dst := some 12, op := Go.Op.load 3 (Go.Operand.tmp 11), type := 3, pos := "plan.go:43", after := #[{ on := 4, ground := Go.Ground.data }], guard := none }) (v := .int .i64 y0) rfl (by kernel_rfl) (by kernel_rfl) (by kernel_rfl) (fun _ _ _ h => h) (.inl ⟨by kernel_rfl, fun w9 h9 => by
      clear hHeld
      have d0 := (h9.cell (p := ⟨w.heap.size + 1, 0, none⟩) hz1).trans q0
      clear h9
      go_simp⟩) hHeld ?_
    refine wpAnyH_take (i := 6) (oi := { dst := some 13, op := Go.Op.binOp Go.BinOp.eql 3 (Go.Operand.tmp 9) (Go.Operand.tmp 12) 3, type := 4, pos := "plan.go:43", after := #[{ on := 2, ground := Go.Ground.data }, { on := 5, ground := Go.Ground.data }], guard := none }) (v := .bool true) rfl (by kernel_rfl) (by kernel_rfl) (by kernel_rfl) (fun _ _ _ h => h) (.inl ⟨by kernel_rfl, fun w9 h9 => by
      clear hHeld h9
      go_simp⟩) hHeld ?_
    refine takeU (i := 7) (some 14) (.bool true) (by kernel_rfl) (by kernel_rfl) (by kernel_rfl) (by kernel_rfl) (by kernel_rfl) (fun _ => by kernel_rfl) (fun _ _ _ h => h) hHeld ?_
    refine takeU (i := 8) (some 15) (.pointer (some ⟨w.heap.size + 1, 6, none⟩)) (by kernel_rfl) (by kernel_rfl) (by kernel_rfl) (by kernel_rfl) (by kernel_rfl) (fun _ => by kernel_rfl) (fun _ _ _ h => h) hHeld ?_
    refine wpAnyH_take (i := 9) (oi := { dst := some 16, op := Go.Op.load 3 (Go.Operand.tmp 15), type := 3, pos := "plan.go:43", after := #[{ on := 8, ground := Go.Ground.data }, { on := 7, ground := Go.Ground.guard }], guard := some (7, true) }) (v := .int .i64 y6) rfl (by kernel_rfl) (by kernel_rfl) (by kernel_rfl) (fun _ _ _ h => h) (.inl ⟨by kernel_rfl, fun w9 h9 => by
      clear hHeld
      have d0 := (h9.cell (p := ⟨w.heap.size + 1, 6, none⟩) hz1).trans q6
      clear h9
      go_simp⟩) hHeld ?_
    refine wpAnyH_take (i := 10) (oi := { dst := some 17, op := Go.Op.load 67 (Go.Operand.tmp 3), type := 67, pos := "plan.go:43", after := #[{ on := 7, ground := Go.Ground.guard }], guard := some (7, true) }) (v := .agg #[.int .i64 x0, .int .i64 x1, .int .i64 x2, .int .i64 x3, .int .i64 x4, .int .i64 x5, .int .i64 x6]) rfl (by kernel_rfl) (by kernel_rfl) (by kernel_rfl) (fun _ _ _ h => h) (.inl ⟨by kernel_rfl, fun w9 h9 => by
      clear hHeld
      have d0 := (h9.cell (p := ⟨w.heap.size, 0, none⟩) hz0).trans p0
      have d1 := (h9.cell (p := ⟨w.heap.size, 1, none⟩) hz0).trans p1
      have d2 := (h9.cell (p := ⟨w.heap.size, 2, none⟩) hz0).trans p2
      have d3 := (h9.cell (p := ⟨w.heap.size, 3, none⟩) hz0).trans p3
      have d4 := (h9.cell (p := ⟨w.heap.size, 4, none⟩) hz0).trans p4
      have d5 := (h9.cell (p := ⟨w.heap.size, 5, none⟩) hz0).trans p5
      have d6 := (h9.cell (p := ⟨w.heap.size, 6, none⟩) hz0).trans p6
      clear h9
      go_simp⟩) hHeld ?_
    refine takeU (i := 11) (some 18) (.pointer (some ⟨w.heap.size + 1, 0, none⟩)) (by kernel_rfl) (by kernel_rfl) (by kernel_rfl) (by kernel_rfl) (by kernel_rfl) (fun _ => by kernel_rfl) (fun _ _ _ h => h) hHeld ?_
    refine wpAnyH_take (i := 12) (oi := { dst := some 19, op := Go.Op.load 65 (Go.Operand.tmp 18), type := 65, pos := "plan.go:43", after := #[{ on := 11, ground := Go.Ground.data }, { on := 7, ground := Go.Ground.guard }], guard := some (7, true) }) (v := .agg #[.int .i64 y0, .int .i64 y1, .int .i64 y2, .int .i64 y3]) rfl (by kernel_rfl) (by kernel_rfl) (by kernel_rfl) (fun _ _ _ h => h) (.inl ⟨by kernel_rfl, fun w9 h9 => by
      clear hHeld
      have d0 := (h9.cell (p := ⟨w.heap.size + 1, 0, none⟩) hz1).trans q0
      have d1 := (h9.cell (p := ⟨w.heap.size + 1, 1, none⟩) hz1).trans q1
      have d2 := (h9.cell (p := ⟨w.heap.size + 1, 2, none⟩) hz1).trans q2
      have d3 := (h9.cell (p := ⟨w.heap.size + 1, 3, none⟩) hz1).trans q3
      clear h9
      go_simp⟩) hHeld ?_
    refine wpAnyH_take (i := 13) (oi := { dst := some 20, op := Go.Op.load 25 (Go.Operand.tmp 5), type := 25, pos := "plan.go:43", after := #[{ on := 7, ground := Go.Ground.guard }], guard := some (7, true) }) (v := .agg #[.int .i64 s.O, .int .i64 s.C, .slice s.aH s.H.length s.cH, .int .i64 s.M, .slice s.aS s.S.length s.cS, .slice s.aJ s.J.length s.cJ]) rfl (by kernel_rfl) (by kernel_rfl) (by kernel_rfl) (fun _ _ _ h => h) (.inl ⟨by kernel_rfl, fun w9 h9 => by
      clear hHeld
      have d0 := (h9.cell (p := ⟨w.heap.size + 1 + 1, 0, none⟩) hz).trans r0
      have d1 := (h9.cell (p := ⟨w.heap.size + 1 + 1, 1, none⟩) hz).trans r1
      have d2 := (h9.cell (p := ⟨w.heap.size + 1 + 1, 2, none⟩) hz).trans r2
      have d3 := (h9.cell (p := ⟨w.heap.size + 1 + 1, 3, none⟩) hz).trans r3
      have d4 := (h9.cell (p := ⟨w.heap.size + 1 + 1, 4, none⟩) hz).trans r4
      have d5 := (h9.cell (p := ⟨w.heap.size + 1 + 1, 5, none⟩) hz).trans r5
      clear h9
      go_simp⟩) hHeld ?_
    try simp only [Act.put, List.setIfInBounds_toArray, List.set_cons_zero, List.set_cons_succ]
    refine wpAnyH_ready (rs := [14]) (by kernel_rfl) (by simp) ?_
    refine AllReadyH.cons (o := { dst := some 21, op := Go.Op.call { callee := Go.Callee.value (Go.Operand.func 77), args := #[Go.Operand.tmp 17, Go.Operand.tmp 19, Go.Operand.tmp 20], argTypes := #[67, 65, 25] }, type := 3, pos := "plan.go:43", after := #[{ on := 10, ground := Go.Ground.data }, { on := 12, ground := Go.Ground.data }, { on := 13, ground := Go.Ground.data }, { on := 7, ground := Go.Ground.chain }, { on := 7, ground := Go.Ground.guard }], guard := some (7, true) }) rfl (fun K hK => ?_) AllReadyH.nil
    go_simp
    go_at_call 77
    refine (HX.out _ (HB.out.trans (hHeld.mono HB.out.size))).mono ?_
    rintro e w149 ⟨rfl, hb149⟩
    refine hK.out _ _ (hHeld.trans (hb149.mono hHeld.size)) (fun hHeld => ?_)
    clear hK K hb149
    try simp only [Act.put, List.setIfInBounds_toArray, List.set_cons_zero, List.set_cons_succ]
    refine wpAnyH_take (i := 15) (oi := { dst := some 22, op := Go.Op.binOp Go.BinOp.lss 3 (Go.Operand.tmp 16) (Go.Operand.tmp 21) 3, type := 4, pos := "plan.go:43", after := #[{ on := 9, ground := Go.Ground.data }, { on := 14, ground := Go.Ground.data }, { on := 7, ground := Go.Ground.guard }], guard := some (7, true) }) (v := .bool false) rfl (by kernel_rfl) (by kernel_rfl) (by kernel_rfl) (fun _ _ _ h => h) (.inl ⟨by kernel_rfl, fun w9 h9 => by
      clear hHeld h9
      go_simp⟩) hHeld ?_
    refine takeU (i := 16) (some 23) (.bool false) (by kernel_rfl) (by kernel_rfl) (by kernel_rfl) (by kernel_rfl) (by kernel_rfl) (fun _ => by kernel_rfl) (fun _ _ _ h => h) hHeld ?_
    refine takeU (i := 17) (some 24) (.bool false) (by kernel_rfl) (by kernel_rfl) (by kernel_rfl) (by kernel_rfl) (by kernel_rfl) (fun _ => by kernel_rfl) (fun _ _ _ h => h) hHeld ?_
    refine skipU (i := 18) (some 25) (by kernel_rfl) (by kernel_rfl) (by kernel_rfl) (by kernel_rfl) (by kernel_rfl) (fun _ _ _ h => h) hHeld ?_
    refine skipU (i := 19) (some 26) (by kernel_rfl) (by kernel_rfl) (by kernel_rfl) (by kernel_rfl) (by kernel_rfl) (fun _ _ _ h => h) hHeld ?_
    refine skipU (i := 20) (some 27) (by kernel_rfl) (by kernel_rfl) (by kernel_rfl) (by kernel_rfl) (by kernel_rfl) (fun _ _ _ h => h) hHeld ?_
    refine skipU (i := 21) (some 28) (by kernel_rfl) (by kernel_rfl) (by kernel_rfl) (by kernel_rfl) (by kernel_rfl) (fun _ _ _ h => h) hHeld ?_
    refine skipU (i := 22) (some 29) (by kernel_rfl) (by kernel_rfl) (by kernel_rfl) (by kernel_rfl) (by kernel_rfl) (fun _ _ _ h => h) hHeld ?_
    refine skipU (i := 23) (some 30) (by kernel_rfl) (by kernel_rfl) (by kernel_rfl) (by kernel_rfl) (by kernel_rfl) (fun _ _ _ h => h) hHeld ?_
    refine skipU (i := 24) (some 31) (by kernel_rfl) (by kernel_rfl) (by kernel_rfl) (by kernel_rfl) (by kernel_rfl) (fun _ _ _ h => h) hHeld ?_
    refine skipU (i := 25) (some 32) (by kernel_rfl) (by kernel_rfl) (by kernel_rfl) (by kernel_rfl) (by kernel_rfl) (fun _ _ _ h => h) hHeld ?_
    refine takeU (i := 26) (some 33) (.bool false) (by kernel_rfl) (by kernel_rfl) (by kernel_rfl) (by kernel_rfl) (by kernel_rfl) (fun _ => by kernel_rfl) (fun _ _ _ h => h) hHeld ?_
    refine takeU (i := 27) (some 6) (.bool false) (by kernel_rfl) (by kernel_rfl) (by kernel_rfl) (by kernel_rfl) (by kernel_rfl) (fun _ => by kernel_rfl) (fun _ _ _ h => h) hHeld ?_
    refine wpAnyH_done (by kernel_rfl) ?_ _
    try simp only [Act.put, List.setIfInBounds_toArray, List.set_cons_zero, List.set_cons_succ]
    go_wp2_with fail
    go_ret
    exact ⟨rfl, HB.out.trans (hHeld.mono HB.out.size)⟩
  rw [decide_eq_true h1, Bool.true_and]
  have d1 : decide (y6 < g) = true := decide_eq_true h1
  clear h1
  by_cases h2 : x6 < h
  · rw [decide_eq_true h2]
    have d2 : decide (x6 < h) = true := decide_eq_true h2
    clear h2
    go_enter Try.func45, Try.ntmps45
    go_wp2_with fail
    obtain ⟨wB, hwB⟩ : ∃ wB, ((w.alloc (.cells #[.int .i64 x0, .int .i64 x1, .int .i64 x2, .int .i64 x3, .int .i64 x4, .int .i64 x5, .int .i64 x6] 67)).alloc (.cells #[.int .i64 y0, .int .i64 y1, .int .i64 y2, .int .i64 y3, .int .i64 y4, .int .i64 y5, .int .i64 y6] 67)).alloc (.cells #[.int .i64 s.O, .int .i64 s.C, .slice s.aH s.H.length s.cH, .int .i64 s.M, .slice s.aS s.S.length s.cS, .slice s.aJ s.J.length s.cJ] 25) = wB := ⟨_, rfl⟩
    have hb : Below w.heap.size w wB := by rw [← hwB]; exact HBw.out _ _ _
    have p0 : wB.cell? ⟨w.heap.size, 0, none⟩ = some (.int .i64 x0) := by rw [← hwB]; simp [go_sem]
    have p1 : wB.cell? ⟨w.heap.size, 1, none⟩ = some (.int .i64 x1) := by rw [← hwB]; simp [go_sem]
    have p2 : wB.cell? ⟨w.heap.size, 2, none⟩ = some (.int .i64 x2) := by rw [← hwB]; simp [go_sem]
    have p3 : wB.cell? ⟨w.heap.size, 3, none⟩ = some (.int .i64 x3) := by rw [← hwB]; simp [go_sem]
    have p4 : wB.cell? ⟨w.heap.size, 4, none⟩ = some (.int .i64 x4) := by rw [← hwB]; simp [go_sem]
    have p5 : wB.cell? ⟨w.heap.size, 5, none⟩ = some (.int .i64 x5) := by rw [← hwB]; simp [go_sem]
    have p6 : wB.cell? ⟨w.heap.size, 6, none⟩ = some (.int .i64 x6) := by rw [← hwB]; simp [go_sem]
    have q0 : wB.cell? ⟨w.heap.size + 1, 0, none⟩ = some (.int .i64 y0) := by rw [← hwB]; simp [go_sem]
    have q1 : wB.cell? ⟨w.heap.size + 1, 1, none⟩ = some (.int .i64 y1) := by rw [← hwB]; simp [go_sem]
    have q2 : wB.cell? ⟨w.heap.size + 1, 2, none⟩ = some (.int .i64 y2) := by rw [← hwB]; simp [go_sem]
    have q3 : wB.cell? ⟨w.heap.size + 1, 3, none⟩ = some (.int .i64 y3) := by rw [← hwB]; simp [go_sem]
    have q4 : wB.cell? ⟨w.heap.size + 1, 4, none⟩ = some (.int .i64 y4) := by rw [← hwB]; simp [go_sem]
    have q5 : wB.cell? ⟨w.heap.size + 1, 5, none⟩ = some (.int .i64 y5) := by rw [← hwB]; simp [go_sem]
    have q6 : wB.cell? ⟨w.heap.size + 1, 6, none⟩ = some (.int .i64 y6) := by rw [← hwB]; simp [go_sem]
    have r0 : wB.cell? ⟨w.heap.size + 1 + 1, 0, none⟩ = some (.int .i64 s.O) := by rw [← hwB]; simp [go_sem]
    have r1 : wB.cell? ⟨w.heap.size + 1 + 1, 1, none⟩ = some (.int .i64 s.C) := by rw [← hwB]; simp [go_sem]
    have r2 : wB.cell? ⟨w.heap.size + 1 + 1, 2, none⟩ = some (.slice s.aH s.H.length s.cH) := by rw [← hwB]; simp [go_sem]
    have r3 : wB.cell? ⟨w.heap.size + 1 + 1, 3, none⟩ = some (.int .i64 s.M) := by rw [← hwB]; simp [go_sem]
    have r4 : wB.cell? ⟨w.heap.size + 1 + 1, 4, none⟩ = some (.slice s.aS s.S.length s.cS) := by rw [← hwB]; simp [go_sem]
    have r5 : wB.cell? ⟨w.heap.size + 1 + 1, 5, none⟩ = some (.slice s.aJ s.J.length s.cJ) := by rw [← hwB]; simp [go_sem]
    have hz : w.heap.size + 1 + 1 < wB.heap.size := by rw [← hwB]; simp
    have hz1 : w.heap.size + 1 < wB.heap.size := by omega
    have hz0 : w.heap.size < wB.heap.size := by omega
    rw [hwB]
    clear hwB
    have HB := Lib.hid hb
    clear hb HBw
    refine wp_region_held_drew (S := fun w' => Below wB.heap.size wB w') (by kernel_rfl) ((Below.refl _ _).drew) (fun hHeld => ?_)
    refine takeU (i := 0) (some 7) (.pointer (some ⟨w.heap.size, 0, none⟩)) (by kernel_rfl) (by kernel_rfl) (by kernel_rfl) (by kernel_rfl) (by kernel_rfl) (fun _ => by kernel_rfl) (fun _ _ _ h => h) hHeld ?_
    refine takeU (i := 1) (some 8) (.pointer (some ⟨w.heap.size, 0, none⟩)) (by kernel_rfl) (by kernel_rfl) (by kernel_rfl) (by kernel_rfl) (by kernel_rfl) (fun _ => by kernel_rfl) (fun _ _ _ h => h) hHeld ?_
    refine wpAnyH_take (i := 2) (oi := { dst := some 9, op := Go.Op.load 3 (Go.Operand.tmp 8), type := 3, pos := "plan.go:43", after := #[{ on := 1, ground := Go.Ground.data }], guard := none }) (v := .int .i64 x0) rfl (by kernel_rfl) (by kernel_rfl) (by kernel_rfl) (fun _ _ _ h => h) (.inl ⟨by kernel_rfl, fun w9 h9 => by
      clear hHeld
      have d0 := (h9.cell (p := ⟨w.heap.size, 0, none⟩) hz0).trans p0
      clear h9
      go_simp⟩) hHeld ?_
    refine takeU (i := 3) (some 10) (.pointer (some ⟨w.heap.size + 1, 0, none⟩)) (by kernel_rfl) (by kernel_rfl) (by kernel_rfl) (by kernel_rfl) (by kernel_rfl) (fun _ => by kernel_rfl) (fun _ _ _ h => h) hHeld ?_
    refine takeU (i := 4) (some 11) (.pointer (some ⟨w.heap.size + 1, 0, none⟩)) (by kernel_rfl) (by kernel_rfl) (by kernel_rfl) (by kernel_rfl) (by kernel_rfl) (fun _ => by kernel_rfl) (fun _ _ _ h => h) hHeld ?_
    refine wpAnyH_take (i := 5) (oi := { dst := some 12, op := Go.Op.load 3 (Go.Operand.tmp 11), type := 3, pos := "plan.go:43", after := #[{ on := 4, ground := Go.Ground.data }], guard := none }) (v := .int .i64 y0) rfl (by kernel_rfl) (by kernel_rfl) (by kernel_rfl) (fun _ _ _ h => h) (.inl ⟨by kernel_rfl, fun w9 h9 => by
      clear hHeld
      have d0 := (h9.cell (p := ⟨w.heap.size + 1, 0, none⟩) hz1).trans q0
      clear h9
      go_simp⟩) hHeld ?_
    refine wpAnyH_take (i := 6) (oi := { dst := some 13, op := Go.Op.binOp Go.BinOp.eql 3 (Go.Operand.tmp 9) (Go.Operand.tmp 12) 3, type := 4, pos := "plan.go:43", after := #[{ on := 2, ground := Go.Ground.data }, { on := 5, ground := Go.Ground.data }], guard := none }) (v := .bool true) rfl (by kernel_rfl) (by kernel_rfl) (by kernel_rfl) (fun _ _ _ h => h) (.inl ⟨by kernel_rfl, fun w9 h9 => by
      clear hHeld h9
      go_simp⟩) hHeld ?_
    refine takeU (i := 7) (some 14) (.bool true) (by kernel_rfl) (by kernel_rfl) (by kernel_rfl) (by kernel_rfl) (by kernel_rfl) (fun _ => by kernel_rfl) (fun _ _ _ h => h) hHeld ?_
    refine takeU (i := 8) (some 15) (.pointer (some ⟨w.heap.size + 1, 6, none⟩)) (by kernel_rfl) (by kernel_rfl) (by kernel_rfl) (by kernel_rfl) (by kernel_rfl) (fun _ => by kernel_rfl) (fun _ _ _ h => h) hHeld ?_
    refine wpAnyH_take (i := 9) (oi := { dst := some 16, op := Go.Op.load 3 (Go.Operand.tmp 15), type := 3, pos := "plan.go:43", after := #[{ on := 8, ground := Go.Ground.data }, { on := 7, ground := Go.Ground.guard }], guard := some (7, true) }) (v := .int .i64 y6) rfl (by kernel_rfl) (by kernel_rfl) (by kernel_rfl) (fun _ _ _ h => h) (.inl ⟨by kernel_rfl, fun w9 h9 => by
      clear hHeld
      have d0 := (h9.cell (p := ⟨w.heap.size + 1, 6, none⟩) hz1).trans q6
      clear h9
      go_simp⟩) hHeld ?_
    refine wpAnyH_take (i := 10) (oi := { dst := some 17, op := Go.Op.load 67 (Go.Operand.tmp 3), type := 67, pos := "plan.go:43", after := #[{ on := 7, ground := Go.Ground.guard }], guard := some (7, true) }) (v := .agg #[.int .i64 x0, .int .i64 x1, .int .i64 x2, .int .i64 x3, .int .i64 x4, .int .i64 x5, .int .i64 x6]) rfl (by kernel_rfl) (by kernel_rfl) (by kernel_rfl) (fun _ _ _ h => h) (.inl ⟨by kernel_rfl, fun w9 h9 => by
      clear hHeld
      have d0 := (h9.cell (p := ⟨w.heap.size, 0, none⟩) hz0).trans p0
      have d1 := (h9.cell (p := ⟨w.heap.size, 1, none⟩) hz0).trans p1
      have d2 := (h9.cell (p := ⟨w.heap.size, 2, none⟩) hz0).trans p2
      have d3 := (h9.cell (p := ⟨w.heap.size, 3, none⟩) hz0).trans p3
      have d4 := (h9.cell (p := ⟨w.heap.size, 4, none⟩) hz0).trans p4
      have d5 := (h9.cell (p := ⟨w.heap.size, 5, none⟩) hz0).trans p5
      have d6 := (h9.cell (p := ⟨w.heap.size, 6, none⟩) hz0).trans p6
      clear h9
      go_simp⟩) hHeld ?_
    refine takeU (i := 11) (some 18) (.pointer (some ⟨w.heap.size + 1, 0, none⟩)) (by kernel_rfl) (by kernel_rfl) (by kernel_rfl) (by kernel_rfl) (by kernel_rfl) (fun _ => by kernel_rfl) (fun _ _ _ h => h) hHeld ?_
    refine wpAnyH_take (i := 12) (oi := { dst := some 19, op := Go.Op.load 65 (Go.Operand.tmp 18), type := 65, pos := "plan.go:43", after := #[{ on := 11, ground := Go.Ground.data }, { on := 7, ground := Go.Ground.guard }], guard := some (7, true) }) (v := .agg #[.int .i64 y0, .int .i64 y1, .int .i64 y2, .int .i64 y3]) rfl (by kernel_rfl) (by kernel_rfl) (by kernel_rfl) (fun _ _ _ h => h) (.inl ⟨by kernel_rfl, fun w9 h9 => by
      clear hHeld
      have d0 := (h9.cell (p := ⟨w.heap.size + 1, 0, none⟩) hz1).trans q0
      have d1 := (h9.cell (p := ⟨w.heap.size + 1, 1, none⟩) hz1).trans q1
      have d2 := (h9.cell (p := ⟨w.heap.size + 1, 2, none⟩) hz1).trans q2
      have d3 := (h9.cell (p := ⟨w.heap.size + 1, 3, none⟩) hz1).trans q3
      clear h9
      go_simp⟩) hHeld ?_
    refine wpAnyH_take (i := 13) (oi := { dst := some 20, op := Go.Op.load 25 (Go.Operand.tmp 5), type := 25, pos := "plan.go:43", after := #[{ on := 7, ground := Go.Ground.guard }], guard := some (7, true) }) (v := .agg #[.int .i64 s.O, .int .i64 s.C, .slice s.aH s.H.length s.cH, .int .i64 s.M, .slice s.aS s.S.length s.cS, .slice s.aJ s.J.length s.cJ]) rfl (by kernel_rfl) (by kernel_rfl) (by kernel_rfl) (fun _ _ _ h => h) (.inl ⟨by kernel_rfl, fun w9 h9 => by
      clear hHeld
      have d0 := (h9.cell (p := ⟨w.heap.size + 1 + 1, 0, none⟩) hz).trans r0
      have d1 := (h9.cell (p := ⟨w.heap.size + 1 + 1, 1, none⟩) hz).trans r1
      have d2 := (h9.cell (p := ⟨w.heap.size + 1 + 1, 2, none⟩) hz).trans r2
      have d3 := (h9.cell (p := ⟨w.heap.size + 1 + 1, 3, none⟩) hz).trans r3
      have d4 := (h9.cell (p := ⟨w.heap.size + 1 + 1, 4, none⟩) hz).trans r4
      have d5 := (h9.cell (p := ⟨w.heap.size + 1 + 1, 5, none⟩) hz).trans r5
      clear h9
      go_simp⟩) hHeld ?_
    try simp only [Act.put, List.setIfInBounds_toArray, List.set_cons_zero, List.set_cons_succ]
    refine wpAnyH_ready (rs := [14]) (by kernel_rfl) (by simp) ?_
    refine AllReadyH.cons (o := { dst := some 21, op := Go.Op.call { callee := Go.Callee.value (Go.Operand.func 77), args := #[Go.Operand.tmp 17, Go.Operand.tmp 19, Go.Operand.tmp 20], argTypes := #[67, 65, 25] }, type := 3, pos := "plan.go:43", after := #[{ on := 10, ground := Go.Ground.data }, { on := 12, ground := Go.Ground.data }, { on := 13, ground := Go.Ground.data }, { on := 7, ground := Go.Ground.chain }, { on := 7, ground := Go.Ground.guard }], guard := some (7, true) }) rfl (fun K hK => ?_) AllReadyH.nil
    go_simp
    go_at_call 77
    refine (HX.out _ (HB.out.trans (hHeld.mono HB.out.size))).mono ?_
    rintro e w149 ⟨rfl, hb149⟩
    refine hK.out _ _ (hHeld.trans (hb149.mono hHeld.size)) (fun hHeld => ?_)
    clear hK K hb149
    try simp only [Act.put, List.setIfInBounds_toArray, List.set_cons_zero, List.set_cons_succ]
    refine wpAnyH_take (i := 15) (oi := { dst := some 22, op := Go.Op.binOp Go.BinOp.lss 3 (Go.Operand.tmp 16) (Go.Operand.tmp 21) 3, type := 4, pos := "plan.go:43", after := #[{ on := 9, ground := Go.Ground.data }, { on := 14, ground := Go.Ground.data }, { on := 7, ground := Go.Ground.guard }], guard := some (7, true) }) (v := .bool true) rfl (by kernel_rfl) (by kernel_rfl) (by kernel_rfl) (fun _ _ _ h => h) (.inl ⟨by kernel_rfl, fun w9 h9 => by
      clear hHeld h9
      go_simp⟩) hHeld ?_
    refine takeU (i := 16) (some 23) (.bool true) (by kernel_rfl) (by kernel_rfl) (by kernel_rfl) (by kernel_rfl) (by kernel_rfl) (fun _ => by kernel_rfl) (fun _ _ _ h => h) hHeld ?_
    refine takeU (i := 17) (some 24) (.bool true) (by kernel_rfl) (by kernel_rfl) (by kernel_rfl) (by kernel_rfl) (by kernel_rfl) (fun _ => by kernel_rfl) (fun _ _ _ h => h) hHeld ?_
    refine takeU (i := 18) (some 25) (.pointer (some ⟨w.heap.size, 6, none⟩)) (by kernel_rfl) (by kernel_rfl) (by kernel_rfl) (by kernel_rfl) (by kernel_rfl) (fun _ => by kernel_rfl) (fun _ _ _ h => h) hHeld ?_
    refine wpAnyH_take (i := 19) (oi := { dst := some 26, op := Go.Op.load 3 (Go.Operand.tmp 25), type := 3, pos := "plan.go:43", after := #[{ on := 18, ground := Go.Ground.data }, { on := 17, ground := Go.Ground.guard }], guard := some (17, true) }) (v := .int .i64 x6) rfl (by kernel_rfl) (by kernel_rfl) (by kernel_rfl) (fun _ _ _ h => h) (.inl ⟨by kernel_rfl, fun w9 h9 => by
      clear hHeld
      have d0 := (h9.cell (p := ⟨w.heap.size, 6, none⟩) hz0).trans p6
      clear h9
      go_simp⟩) hHeld ?_
    refine wpAnyH_take (i := 20) (oi := { dst := some 27, op := Go.Op.load 67 (Go.Operand.tmp 4), type := 67, pos := "plan.go:43", after := #[{ on := 17, ground := Go.Ground.guard }], guard := some (17, true) }) (v := .agg #[.int .i64 y0, .int .i64 y1, .int .i64 y2, .int .i64 y3, .int .i64 y4, .int .i64 y5, .int .i64 y6]) rfl (by kernel_rfl) (by kernel_rfl) (by kernel_rfl) (fun _ _ _ h => h) (.inl ⟨by kernel_rfl, fun w9 h9 => by
      clear hHeld
      have d0 := (h9.cell (p := ⟨w.heap.size + 1, 0, none⟩) hz1).trans q0
      have d1 := (h9.cell (p := ⟨w.heap.size + 1, 1, none⟩) hz1).trans q1
      have d2 := (h9.cell (p := ⟨w.heap.size + 1, 2, none⟩) hz1).trans q2
      have d3 := (h9.cell (p := ⟨w.heap.size + 1, 3, none⟩) hz1).trans q3
      have d4 := (h9.cell (p := ⟨w.heap.size + 1, 4, none⟩) hz1).trans q4
      have d5 := (h9.cell (p := ⟨w.heap.size + 1, 5, none⟩) hz1).trans q5
      have d6 := (h9.cell (p := ⟨w.heap.size + 1, 6, none⟩) hz1).trans q6
      clear h9
      go_simp⟩) hHeld ?_
    refine takeU (i := 21) (some 28) (.pointer (some ⟨w.heap.size, 0, none⟩)) (by kernel_rfl) (by kernel_rfl) (by kernel_rfl) (by kernel_rfl) (by kernel_rfl) (fun _ => by kernel_rfl) (fun _ _ _ h => h) hHeld ?_
    refine wpAnyH_take (i := 22) (oi := { dst := some 29, op := Go.Op.load 65 (Go.Operand.tmp 28), type := 65, pos := "plan.go:43", after := #[{ on := 21, ground := Go.Ground.data }, { on := 17, ground := Go.Ground.guard }], guard := some (17, true) }) (v := .agg #[.int .i64 x0, .int .i64 x1, .int .i64 x2, .int .i64 x3]) rfl (by kernel_rfl) (by kernel_rfl) (by kernel_rfl) (fun _ _ _ h => h) (.inl ⟨by kernel_rfl, fun w9 h9 => by
      clear hHeld
      have d0 := (h9.cell (p := ⟨w.heap.size, 0, none⟩) hz0).trans p0
      have d1 := (h9.cell (p := ⟨w.heap.size, 1, none⟩) hz0).trans p1
      have d2 := (h9.cell (p := ⟨w.heap.size, 2, none⟩) hz0).trans p2
      have d3 := (h9.cell (p := ⟨w.heap.size, 3, none⟩) hz0).trans p3
      clear h9
      go_simp⟩) hHeld ?_
    refine wpAnyH_take (i := 23) (oi := { dst := some 30, op := Go.Op.load 25 (Go.Operand.tmp 5), type := 25, pos := "plan.go:43", after := #[{ on := 17, ground := Go.Ground.guard }], guard := some (17, true) }) (v := .agg #[.int .i64 s.O, .int .i64 s.C, .slice s.aH s.H.length s.cH, .int .i64 s.M, .slice s.aS s.S.length s.cS, .slice s.aJ s.J.length s.cJ]) rfl (by kernel_rfl) (by kernel_rfl) (by kernel_rfl) (fun _ _ _ h => h) (.inl ⟨by kernel_rfl, fun w9 h9 => by
      clear hHeld
      have d0 := (h9.cell (p := ⟨w.heap.size + 1 + 1, 0, none⟩) hz).trans r0
      have d1 := (h9.cell (p := ⟨w.heap.size + 1 + 1, 1, none⟩) hz).trans r1
      have d2 := (h9.cell (p := ⟨w.heap.size + 1 + 1, 2, none⟩) hz).trans r2
      have d3 := (h9.cell (p := ⟨w.heap.size + 1 + 1, 3, none⟩) hz).trans r3
      have d4 := (h9.cell (p := ⟨w.heap.size + 1 + 1, 4, none⟩) hz).trans r4
      have d5 := (h9.cell (p := ⟨w.heap.size + 1 + 1, 5, none⟩) hz).trans r5
      clear h9
      go_simp⟩) hHeld ?_
    try simp only [Act.put, List.setIfInBounds_toArray, List.set_cons_zero, List.set_cons_succ]
    refine wpAnyH_ready (rs := [24]) (by kernel_rfl) (by simp) ?_
    refine AllReadyH.cons (o := { dst := some 31, op := Go.Op.call { callee := Go.Callee.value (Go.Operand.func 77), args := #[Go.Operand.tmp 27, Go.Operand.tmp 29, Go.Operand.tmp 30], argTypes := #[67, 65, 25] }, type := 3, pos := "plan.go:43", after := #[{ on := 20, ground := Go.Ground.data }, { on := 22, ground := Go.Ground.data }, { on := 23, ground := Go.Ground.data }, { on := 17, ground := Go.Ground.chain }, { on := 17, ground := Go.Ground.guard }], guard := some (17, true) }) rfl (fun K hK => ?_) AllReadyH.nil
    go_simp
    go_at_call 77
    refine (HY.out _ (HB.out.trans (hHeld.mono HB.out.size))).mono ?_
    rintro e w249 ⟨rfl, hb249⟩
    refine hK.out _ _ (hHeld.trans (hb249.mono hHeld.size)) (fun hHeld => ?_)
    clear hK K hb249
    try simp only [Act.put, List.setIfInBounds_toArray, List.set_cons_zero, List.set_cons_succ]
    refine wpAnyH_take (i := 25) (oi := { dst := some 32, op := Go.Op.binOp Go.BinOp.lss 3 (Go.Operand.tmp 26) (Go.Operand.tmp 31) 3, type := 4, pos := "plan.go:43", after := #[{ on := 19, ground := Go.Ground.data }, { on := 24, ground := Go.Ground.data }, { on := 17, ground := Go.Ground.guard }], guard := some (17, true) }) (v := .bool true) rfl (by kernel_rfl) (by kernel_rfl) (by kernel_rfl) (fun _ _ _ h => h) (.inl ⟨by kernel_rfl, fun w9 h9 => by
      clear hHeld h9
      go_simp⟩) hHeld ?_
    refine takeU (i := 26) (some 33) (.bool true) (by kernel_rfl) (by kernel_rfl) (by kernel_rfl) (by kernel_rfl) (by kernel_rfl) (fun _ => by kernel_rfl) (fun _ _ _ h => h) hHeld ?_
    refine takeU (i := 27) (some 6) (.bool true) (by kernel_rfl) (by kernel_rfl) (by kernel_rfl) (by kernel_rfl) (by kernel_rfl) (fun _ => by kernel_rfl) (fun _ _ _ h => h) hHeld ?_
    refine wpAnyH_done (by kernel_rfl) ?_ _
    try simp only [Act.put, List.setIfInBounds_toArray, List.set_cons_zero, List.set_cons_succ]
    go_wp2_with fail
    go_ret
    exact ⟨rfl, HB.out.trans (hHeld.mono HB.out.size)⟩
  · rw [decide_eq_false h2]
    have d2 : decide (x6 < h) = false := decide_eq_false h2
    clear h2
    go_enter Try.func45, Try.ntmps45
    go_wp2_with fail
    obtain ⟨wB, hwB⟩ : ∃ wB, ((w.alloc (.cells #[.int .i64 x0, .int .i64 x1, .int .i64 x2, .int .i64 x3, .int .i64 x4, .int .i64 x5, .int .i64 x6] 67)).alloc (.cells #[.int .i64 y0, .int .i64 y1, .int .i64 y2, .int .i64 y3, .int .i64 y4, .int .i64 y5, .int .i64 y6] 67)).alloc (.cells #[.int .i64 s.O, .int .i64 s.C, .slice s.aH s.H.length s.cH, .int .i64 s.M, .slice s.aS s.S.length s.cS, .slice s.aJ s.J.length s.cJ] 25) = wB := ⟨_, rfl⟩
    have hb : Below w.heap.size w wB := by rw [← hwB]; exact HBw.out _ _ _
    have p0 : wB.cell? ⟨w.heap.size, 0, none⟩ = some (.int .i64 x0) := by rw [← hwB]; simp [go_sem]
    have p1 : wB.cell? ⟨w.heap.size, 1, none⟩ = some (.int .i64 x1) := by rw [← hwB]; simp [go_sem]
    have p2 : wB.cell? ⟨w.heap.size, 2, none⟩ = some (.int .i64 x2) := by rw [← hwB]; simp [go_sem]
    have p3 : wB.cell? ⟨w.heap.size, 3, none⟩ = some (.int .i64 x3) := by rw [← hwB]; simp [go_sem]
    have p4 : wB.cell? ⟨w.heap.size, 4, none⟩ = some (.int .i64 x4) := by rw [← hwB]; simp [go_sem]
    have p5 : wB.cell? ⟨w.heap.size, 5, none⟩ = some (.int .i64 x5) := by rw [← hwB]; simp [go_sem]
    have p6 : wB.cell? ⟨w.heap.size, 6, none⟩ = some (.int .i64 x6) := by rw [← hwB]; simp [go_sem]
    have q0 : wB.cell? ⟨w.heap.size + 1, 0, none⟩ = some (.int .i64 y0) := by rw [← hwB]; simp [go_sem]
    have q1 : wB.cell? ⟨w.heap.size + 1, 1, none⟩ = some (.int .i64 y1) := by rw [← hwB]; simp [go_sem]
    have q2 : wB.cell? ⟨w.heap.size + 1, 2, none⟩ = some (.int .i64 y2) := by rw [← hwB]; simp [go_sem]
    have q3 : wB.cell? ⟨w.heap.size + 1, 3, none⟩ = some (.int .i64 y3) := by rw [← hwB]; simp [go_sem]
    have q4 : wB.cell? ⟨w.heap.size + 1, 4, none⟩ = some (.int .i64 y4) := by rw [← hwB]; simp [go_sem]
    have q5 : wB.cell? ⟨w.heap.size + 1, 5, none⟩ = some (.int .i64 y5) := by rw [← hwB]; simp [go_sem]
    have q6 : wB.cell? ⟨w.heap.size + 1, 6, none⟩ = some (.int .i64 y6) := by rw [← hwB]; simp [go_sem]
    have r0 : wB.cell? ⟨w.heap.size + 1 + 1, 0, none⟩ = some (.int .i64 s.O) := by rw [← hwB]; simp [go_sem]
    have r1 : wB.cell? ⟨w.heap.size + 1 + 1, 1, none⟩ = some (.int .i64 s.C) := by rw [← hwB]; simp [go_sem]
    have r2 : wB.cell? ⟨w.heap.size + 1 + 1, 2, none⟩ = some (.slice s.aH s.H.length s.cH) := by rw [← hwB]; simp [go_sem]
    have r3 : wB.cell? ⟨w.heap.size + 1 + 1, 3, none⟩ = some (.int .i64 s.M) := by rw [← hwB]; simp [go_sem]
    have r4 : wB.cell? ⟨w.heap.size + 1 + 1, 4, none⟩ = some (.slice s.aS s.S.length s.cS) := by rw [← hwB]; simp [go_sem]
    have r5 : wB.cell? ⟨w.heap.size + 1 + 1, 5, none⟩ = some (.slice s.aJ s.J.length s.cJ) := by rw [← hwB]; simp [go_sem]
    have hz : w.heap.size + 1 + 1 < wB.heap.size := by rw [← hwB]; simp
    have hz1 : w.heap.size + 1 < wB.heap.size := by omega
    have hz0 : w.heap.size < wB.heap.size := by omega
    rw [hwB]
    clear hwB
    have HB := Lib.hid hb
    clear hb HBw
    refine wp_region_held_drew (S := fun w' => Below wB.heap.size wB w') (by kernel_rfl) ((Below.refl _ _).drew) (fun hHeld => ?_)
    refine takeU (i := 0) (some 7) (.pointer (some ⟨w.heap.size, 0, none⟩)) (by kernel_rfl) (by kernel_rfl) (by kernel_rfl) (by kernel_rfl) (by kernel_rfl) (fun _ => by kernel_rfl) (fun _ _ _ h => h) hHeld ?_
    refine takeU (i := 1) (some 8) (.pointer (some ⟨w.heap.size, 0, none⟩)) (by kernel_rfl) (by kernel_rfl) (by kernel_rfl) (by kernel_rfl) (by kernel_rfl) (fun _ => by kernel_rfl) (fun _ _ _ h => h) hHeld ?_
    refine wpAnyH_take (i := 2) (oi := { dst := some 9, op := Go.Op.load 3 (Go.Operand.tmp 8), type := 3, pos := "plan.go:43", after := #[{ on := 1, ground := Go.Ground.data }], guard := none }) (v := .int .i64 x0) rfl (by kernel_rfl) (by kernel_rfl) (by kernel_rfl) (fun _ _ _ h => h) (.inl ⟨by kernel_rfl, fun w9 h9 => by
      clear hHeld
      have d0 := (h9.cell (p := ⟨w.heap.size, 0, none⟩) hz0).trans p0
      clear h9
      go_simp⟩) hHeld ?_
    refine takeU (i := 3) (some 10) (.pointer (some ⟨w.heap.size + 1, 0, none⟩)) (by kernel_rfl) (by kernel_rfl) (by kernel_rfl) (by kernel_rfl) (by kernel_rfl) (fun _ => by kernel_rfl) (fun _ _ _ h => h) hHeld ?_
    refine takeU (i := 4) (some 11) (.pointer (some ⟨w.heap.size + 1, 0, none⟩)) (by kernel_rfl) (by kernel_rfl) (by kernel_rfl) (by kernel_rfl) (by kernel_rfl) (fun _ => by kernel_rfl) (fun _ _ _ h => h) hHeld ?_
    refine wpAnyH_take (i := 5) (oi := { dst := some 12, op := Go.Op.load 3 (Go.Operand.tmp 11), type := 3, pos := "plan.go:43", after := #[{ on := 4, ground := Go.Ground.data }], guard := none }) (v := .int .i64 y0) rfl (by kernel_rfl) (by kernel_rfl) (by kernel_rfl) (fun _ _ _ h => h) (.inl ⟨by kernel_rfl, fun w9 h9 => by
      clear hHeld
      have d0 := (h9.cell (p := ⟨w.heap.size + 1, 0, none⟩) hz1).trans q0
      clear h9
      go_simp⟩) hHeld ?_
    refine wpAnyH_take (i := 6) (oi := { dst := some 13, op := Go.Op.binOp Go.BinOp.eql 3 (Go.Operand.tmp 9) (Go.Operand.tmp 12) 3, type := 4, pos := "plan.go:43", after := #[{ on := 2, ground := Go.Ground.data }, { on := 5, ground := Go.Ground.data }], guard := none }) (v := .bool true) rfl (by kernel_rfl) (by kernel_rfl) (by kernel_rfl) (fun _ _ _ h => h) (.inl ⟨by kernel_rfl, fun w9 h9 => by
      clear hHeld h9
      go_simp⟩) hHeld ?_
    refine takeU (i := 7) (some 14) (.bool true) (by kernel_rfl) (by kernel_rfl) (by kernel_rfl) (by kernel_rfl) (by kernel_rfl) (fun _ => by kernel_rfl) (fun _ _ _ h => h) hHeld ?_
    refine takeU (i := 8) (some 15) (.pointer (some ⟨w.heap.size + 1, 6, none⟩)) (by kernel_rfl) (by kernel_rfl) (by kernel_rfl) (by kernel_rfl) (by kernel_rfl) (fun _ => by kernel_rfl) (fun _ _ _ h => h) hHeld ?_
    refine wpAnyH_take (i := 9) (oi := { dst := some 16, op := Go.Op.load 3 (Go.Operand.tmp 15), type := 3, pos := "plan.go:43", after := #[{ on := 8, ground := Go.Ground.data }, { on := 7, ground := Go.Ground.guard }], guard := some (7, true) }) (v := .int .i64 y6) rfl (by kernel_rfl) (by kernel_rfl) (by kernel_rfl) (fun _ _ _ h => h) (.inl ⟨by kernel_rfl, fun w9 h9 => by
      clear hHeld
      have d0 := (h9.cell (p := ⟨w.heap.size + 1, 6, none⟩) hz1).trans q6
      clear h9
      go_simp⟩) hHeld ?_
    refine wpAnyH_take (i := 10) (oi := { dst := some 17, op := Go.Op.load 67 (Go.Operand.tmp 3), type := 67, pos := "plan.go:43", after := #[{ on := 7, ground := Go.Ground.guard }], guard := some (7, true) }) (v := .agg #[.int .i64 x0, .int .i64 x1, .int .i64 x2, .int .i64 x3, .int .i64 x4, .int .i64 x5, .int .i64 x6]) rfl (by kernel_rfl) (by kernel_rfl) (by kernel_rfl) (fun _ _ _ h => h) (.inl ⟨by kernel_rfl, fun w9 h9 => by
      clear hHeld
      have d0 := (h9.cell (p := ⟨w.heap.size, 0, none⟩) hz0).trans p0
      have d1 := (h9.cell (p := ⟨w.heap.size, 1, none⟩) hz0).trans p1
      have d2 := (h9.cell (p := ⟨w.heap.size, 2, none⟩) hz0).trans p2
      have d3 := (h9.cell (p := ⟨w.heap.size, 3, none⟩) hz0).trans p3
      have d4 := (h9.cell (p := ⟨w.heap.size, 4, none⟩) hz0).trans p4
      have d5 := (h9.cell (p := ⟨w.heap.size, 5, none⟩) hz0).trans p5
      have d6 := (h9.cell (p := ⟨w.heap.size, 6, none⟩) hz0).trans p6
      clear h9
      go_simp⟩) hHeld ?_
    refine takeU (i := 11) (some 18) (.pointer (some ⟨w.heap.size + 1, 0, none⟩)) (by kernel_rfl) (by kernel_rfl) (by kernel_rfl) (by kernel_rfl) (by kernel_rfl) (fun _ => by kernel_rfl) (fun _ _ _ h => h) hHeld ?_
    refine wpAnyH_take (i := 12) (oi := { dst := some 19, op := Go.Op.load 65 (Go.Operand.tmp 18), type := 65, pos := "plan.go:43", after := #[{ on := 11, ground := Go.Ground.data }, { on := 7, ground := Go.Ground.guard }], guard := some (7, true) }) (v := .agg #[.int .i64 y0, .int .i64 y1, .int .i64 y2, .int .i64 y3]) rfl (by kernel_rfl) (by kernel_rfl) (by kernel_rfl) (fun _ _ _ h => h) (.inl ⟨by kernel_rfl, fun w9 h9 => by
      clear hHeld
      have d0 := (h9.cell (p := ⟨w.heap.size + 1, 0, none⟩) hz1).trans q0
      have d1 := (h9.cell (p := ⟨w.heap.size + 1, 1, none⟩) hz1).trans q1
      have d2 := (h9.cell (p := ⟨w.heap.size + 1, 2, none⟩) hz1).trans q2
      have d3 := (h9.cell (p := ⟨w.heap.size + 1, 3, none⟩) hz1).trans q3
      clear h9
      go_simp⟩) hHeld ?_
    refine wpAnyH_take (i := 13) (oi := { dst := some 20, op := Go.Op.load 25 (Go.Operand.tmp 5), type := 25, pos := "plan.go:43", after := #[{ on := 7, ground := Go.Ground.guard }], guard := some (7, true) }) (v := .agg #[.int .i64 s.O, .int .i64 s.C, .slice s.aH s.H.length s.cH, .int .i64 s.M, .slice s.aS s.S.length s.cS, .slice s.aJ s.J.length s.cJ]) rfl (by kernel_rfl) (by kernel_rfl) (by kernel_rfl) (fun _ _ _ h => h) (.inl ⟨by kernel_rfl, fun w9 h9 => by
      clear hHeld
      have d0 := (h9.cell (p := ⟨w.heap.size + 1 + 1, 0, none⟩) hz).trans r0
      have d1 := (h9.cell (p := ⟨w.heap.size + 1 + 1, 1, none⟩) hz).trans r1
      have d2 := (h9.cell (p := ⟨w.heap.size + 1 + 1, 2, none⟩) hz).trans r2
      have d3 := (h9.cell (p := ⟨w.heap.size + 1 + 1, 3, none⟩) hz).trans r3
      have d4 := (h9.cell (p := ⟨w.heap.size + 1 + 1, 4, none⟩) hz).trans r4
      have d5 := (h9.cell (p := ⟨w.heap.size + 1 + 1, 5, none⟩) hz).trans r5
      clear h9
      go_simp⟩) hHeld ?_
    try simp only [Act.put, List.setIfInBounds_toArray, List.set_cons_zero, List.set_cons_succ]
    refine wpAnyH_ready (rs := [14]) (by kernel_rfl) (by simp) ?_
    refine AllReadyH.cons (o := { dst := some 21, op := Go.Op.call { callee := Go.Callee.value (Go.Operand.func 77), args := #[Go.Operand.tmp 17, Go.Operand.tmp 19, Go.Operand.tmp 20], argTypes := #[67, 65, 25] }, type := 3, pos := "plan.go:43", after := #[{ on := 10, ground := Go.Ground.data }, { on := 12, ground := Go.Ground.data }, { on := 13, ground := Go.Ground.data }, { on := 7, ground := Go.Ground.chain }, { on := 7, ground := Go.Ground.guard }], guard := some (7, true) }) rfl (fun K hK => ?_) AllReadyH.nil
    go_simp
    go_at_call 77
    refine (HX.out _ (HB.out.trans (hHeld.mono HB.out.size))).mono ?_
    rintro e w149 ⟨rfl, hb149⟩
    refine hK.out _ _ (hHeld.trans (hb149.mono hHeld.size)) (fun hHeld => ?_)
    clear hK K hb149
    try simp only [Act.put, List.setIfInBounds_toArray, List.set_cons_zero, List.set_cons_succ]
    refine wpAnyH_take (i := 15) (oi := { dst := some 22, op := Go.Op.binOp Go.BinOp.lss 3 (Go.Operand.tmp 16) (Go.Operand.tmp 21) 3, type := 4, pos := "plan.go:43", after := #[{ on := 9, ground := Go.Ground.data }, { on := 14, ground := Go.Ground.data }, { on := 7, ground := Go.Ground.guard }], guard := some (7, true) }) (v := .bool true) rfl (by kernel_rfl) (by kernel_rfl) (by kernel_rfl) (fun _ _ _ h => h) (.inl ⟨by kernel_rfl, fun w9 h9 => by
      clear hHeld h9
      go_simp⟩) hHeld ?_
    refine takeU (i := 16) (some 23) (.bool true) (by kernel_rfl) (by kernel_rfl) (by kernel_rfl) (by kernel_rfl) (by kernel_rfl) (fun _ => by kernel_rfl) (fun _ _ _ h => h) hHeld ?_
    refine takeU (i := 17) (some 24) (.bool true) (by kernel_rfl) (by kernel_rfl) (by kernel_rfl) (by kernel_rfl) (by kernel_rfl) (fun _ => by kernel_rfl) (fun _ _ _ h => h) hHeld ?_
    refine takeU (i := 18) (some 25) (.pointer (some ⟨w.heap.size, 6, none⟩)) (by kernel_rfl) (by kernel_rfl) (by kernel_rfl) (by kernel_rfl) (by kernel_rfl) (fun _ => by kernel_rfl) (fun _ _ _ h => h) hHeld ?_
    refine wpAnyH_take (i := 19) (oi := { dst := some 26, op := Go.Op.load 3 (Go.Operand.tmp 25), type := 3, pos := "plan.go:43", after := #[{ on := 18, ground := Go.Ground.data }, { on := 17, ground := Go.Ground.guard }], guard := some (17, true) }) (v := .int .i64 x6) rfl (by kernel_rfl) (by kernel_rfl) (by kernel_rfl) (fun _ _ _ h => h) (.inl ⟨by kernel_rfl, fun w9 h9 => by
      clear hHeld
      have d0 := (h9.cell (p := ⟨w.heap.size, 6, none⟩) hz0).trans p6
      clear h9
      go_simp⟩) hHeld ?_
    refine wpAnyH_take (i := 20) (oi := { dst := some 27, op := Go.Op.load 67 (Go.Operand.tmp 4), type := 67, pos := "plan.go:43", after := #[{ on := 17, ground := Go.Ground.guard }], guard := some (17, true) }) (v := .agg #[.int .i64 y0, .int .i64 y1, .int .i64 y2, .int .i64 y3, .int .i64 y4, .int .i64 y5, .int .i64 y6]) rfl (by kernel_rfl) (by kernel_rfl) (by kernel_rfl) (fun _ _ _ h => h) (.inl ⟨by kernel_rfl, fun w9 h9 => by
      clear hHeld
      have d0 := (h9.cell (p := ⟨w.heap.size + 1, 0, none⟩) hz1).trans q0
      have d1 := (h9.cell (p := ⟨w.heap.size + 1, 1, none⟩) hz1).trans q1
      have d2 := (h9.cell (p := ⟨w.heap.size + 1, 2, none⟩) hz1).trans q2
      have d3 := (h9.cell (p := ⟨w.heap.size + 1, 3, none⟩) hz1).trans q3
      have d4 := (h9.cell (p := ⟨w.heap.size + 1, 4, none⟩) hz1).trans q4
      have d5 := (h9.cell (p := ⟨w.heap.size + 1, 5, none⟩) hz1).trans q5
      have d6 := (h9.cell (p := ⟨w.heap.size + 1, 6, none⟩) hz1).trans q6
      clear h9
      go_simp⟩) hHeld ?_
    refine takeU (i := 21) (some 28) (.pointer (some ⟨w.heap.size, 0, none⟩)) (by kernel_rfl) (by kernel_rfl) (by kernel_rfl) (by kernel_rfl) (by kernel_rfl) (fun _ => by kernel_rfl) (fun _ _ _ h => h) hHeld ?_
    refine wpAnyH_take (i := 22) (oi := { dst := some 29, op := Go.Op.load 65 (Go.Operand.tmp 28), type := 65, pos := "plan.go:43", after := #[{ on := 21, ground := Go.Ground.data }, { on := 17, ground := Go.Ground.guard }], guard := some (17, true) }) (v := .agg #[.int .i64 x0, .int .i64 x1, .int .i64 x2, .int .i64 x3]) rfl (by kernel_rfl) (by kernel_rfl) (by kernel_rfl) (fun _ _ _ h => h) (.inl ⟨by kernel_rfl, fun w9 h9 => by
      clear hHeld
      have d0 := (h9.cell (p := ⟨w.heap.size, 0, none⟩) hz0).trans p0
      have d1 := (h9.cell (p := ⟨w.heap.size, 1, none⟩) hz0).trans p1
      have d2 := (h9.cell (p := ⟨w.heap.size, 2, none⟩) hz0).trans p2
      have d3 := (h9.cell (p := ⟨w.heap.size, 3, none⟩) hz0).trans p3
      clear h9
      go_simp⟩) hHeld ?_
    refine wpAnyH_take (i := 23) (oi := { dst := some 30, op := Go.Op.load 25 (Go.Operand.tmp 5), type := 25, pos := "plan.go:43", after := #[{ on := 17, ground := Go.Ground.guard }], guard := some (17, true) }) (v := .agg #[.int .i64 s.O, .int .i64 s.C, .slice s.aH s.H.length s.cH, .int .i64 s.M, .slice s.aS s.S.length s.cS, .slice s.aJ s.J.length s.cJ]) rfl (by kernel_rfl) (by kernel_rfl) (by kernel_rfl) (fun _ _ _ h => h) (.inl ⟨by kernel_rfl, fun w9 h9 => by
      clear hHeld
      have d0 := (h9.cell (p := ⟨w.heap.size + 1 + 1, 0, none⟩) hz).trans r0
      have d1 := (h9.cell (p := ⟨w.heap.size + 1 + 1, 1, none⟩) hz).trans r1
      have d2 := (h9.cell (p := ⟨w.heap.size + 1 + 1, 2, none⟩) hz).trans r2
      have d3 := (h9.cell (p := ⟨w.heap.size + 1 + 1, 3, none⟩) hz).trans r3
      have d4 := (h9.cell (p := ⟨w.heap.size + 1 + 1, 4, none⟩) hz).trans r4
      have d5 := (h9.cell (p := ⟨w.heap.size + 1 + 1, 5, none⟩) hz).trans r5
      clear h9
      go_simp⟩) hHeld ?_
    try simp only [Act.put, List.setIfInBounds_toArray, List.set_cons_zero, List.set_cons_succ]
    refine wpAnyH_ready (rs := [24]) (by kernel_rfl) (by simp) ?_
    refine AllReadyH.cons (o := { dst := some 31, op := Go.Op.call { callee := Go.Callee.value (Go.Operand.func 77), args := #[Go.Operand.tmp 27, Go.Operand.tmp 29, Go.Operand.tmp 30], argTypes := #[67, 65, 25] }, type := 3, pos := "plan.go:43", after := #[{ on := 20, ground := Go.Ground.data }, { on := 22, ground := Go.Ground.data }, { on := 23, ground := Go.Ground.data }, { on := 17, ground := Go.Ground.chain }, { on := 17, ground := Go.Ground.guard }], guard := some (17, true) }) rfl (fun K hK => ?_) AllReadyH.nil
    go_simp
    go_at_call 77
    refine (HY.out _ (HB.out.trans (hHeld.mono HB.out.size))).mono ?_
    rintro e w249 ⟨rfl, hb249⟩
    refine hK.out _ _ (hHeld.trans (hb249.mono hHeld.size)) (fun hHeld => ?_)
    clear hK K hb249
    try simp only [Act.put, List.setIfInBounds_toArray, List.set_cons_zero, List.set_cons_succ]
    refine wpAnyH_take (i := 25) (oi := { dst := some 32, op := Go.Op.binOp Go.BinOp.lss 3 (Go.Operand.tmp 26) (Go.Operand.tmp 31) 3, type := 4, pos := "plan.go:43", after := #[{ on := 19, ground := Go.Ground.data }, { on := 24, ground := Go.Ground.data }, { on := 17, ground := Go.Ground.guard }], guard := some (17, true) }) (v := .bool false) rfl (by kernel_rfl) (by kernel_rfl) (by kernel_rfl) (fun _ _ _ h => h) (.inl ⟨by kernel_rfl, fun w9 h9 => by
      clear hHeld h9
      go_simp⟩) hHeld ?_
    refine takeU (i := 26) (some 33) (.bool false) (by kernel_rfl) (by kernel_rfl) (by kernel_rfl) (by kernel_rfl) (by kernel_rfl) (fun _ => by kernel_rfl) (fun _ _ _ h => h) hHeld ?_
    refine takeU (i := 27) (some 6) (.bool false) (by kernel_rfl) (by kernel_rfl) (by kernel_rfl) (by kernel_rfl) (by kernel_rfl) (fun _ => by kernel_rfl) (fun _ _ _ h => h) hHeld ?_
    refine wpAnyH_done (by kernel_rfl) ?_ _
    try simp only [Act.put, List.setIfInBounds_toArray, List.set_cons_zero, List.set_cons_succ]
    go_wp2_with fail
    go_ret
    exact ⟨rfl, HB.out.trans (hHeld.mono HB.out.size)⟩
end Go.Proofs.Ytgphkfonjfdifaa

namespace Go.Proofs.Ytgphkfonjfdifaa
set_option linter.unusedVariables false
set_option linter.unusedSimpArgs false
open Go.RowKit

/-- The greatest chain of the first i jobs. -/
noncomputable def mxC (s : Sh) : Nat → Int
  | 0 => 0
  | i + 1 => max (mxC s i) (chainV s (gj s.J i))
/-- That, or the greatest load of the first m machines. -/
noncomputable def mxL (s : Sh) : Nat → Int
  | 0 => mxC s s.J.length
  | m + 1 => max (mxL s m) (loadV s m)
noncomputable def boundV (s : Sh) : Int := mxL s s.M.toNat

set_option maxRecDepth 100000 in
set_option maxHeartbeats 4000000 in
theorem bound_ok (s : Sh) (w : World) (hI : ShS w s) (hV : ShOk s) :
    Calls Try.prog 27 #[.agg #[.int .i64 s.O, .int .i64 s.C, .slice s.aH s.H.length s.cH, .int .i64 s.M, .slice s.aS s.S.length s.cS, .slice s.aJ s.J.length s.cJ]] w fun e w' => e = .returned (.tuple #[.int .i64 (boundV s), .int .i64 0]) ∧ Below w.heap.size w w' := by
  have h12 := hV.2.2.2.1
  obtain ⟨n, hM⟩ : ∃ n : Nat, s.M = n := ⟨s.M.toNat, by have := hV.2.2.1.1; omega⟩
  have hn6 : n ≤ 6 := by have := hV.2.2.1.1; omega
  have hMt : s.M.toNat = n := by omega
  obtain ⟨hlJ, blk, off, ad, cp, hadr, hc⟩ := hI.2.2
  obtain ⟨aj, haj⟩ : ∃ aj, s.aJ = aj := ⟨_, rfl⟩
  have HV := Lib.hid (fun W (hW : Below w.heap.size w W) => Valid_sh s W (hI.below hW))
  have HCh := Lib.hid (fun k (hk : k < s.J.length) W (hW : Below w.heap.size w W) => chain_sh s (ad k) (gj s.J k) (cp k) W (hI.below hW) hV ((hc k hk).2.1.below hW) (hV.2.2.2.2 k hk))
  have HLd := Lib.hid (fun (k : Nat) W (hW : Below w.heap.size w W) => load_sh s k W (hI.below hW) hV)
  have HE : Hid (∀ k, k < s.J.length → w.cell? ⟨blk, off + k, none⟩ = some (.slice (ad k) (gj s.J k).length (cp k)) ∧ (gj s.J k).length ≤ 9223372036854775807) := Lib.hid fun k hk => ⟨(hc k hk).1, (hc k hk).2.1.1⟩
  have HLJ : Hid (0 < s.J.length → aj = some ⟨blk, off, none⟩) := Lib.hid fun h => haj ▸ hadr (fun e => by rw [e] at h; simp at h)
  have HXC : Hid (∀ k, mxC s (k + 1) = max (mxC s k) (chainV s (gj s.J k))) := Lib.hid fun _ => rfl
  have HXL : Hid (∀ k, mxL s (k + 1) = max (mxL s k) (loadV s k)) := Lib.hid fun _ => rfl
  have HX0 : Hid (mxL s 0 = mxC s s.J.length) := Lib.hid rfl
  have HFin : Hid (boundV s = mxL s n) := Lib.hid (by unfold boundV; rw [hMt])
  have HC0 : Hid (mxC s 0 = 0) := Lib.hid rfl
  rw [HFin.out]
  have hB := ShBox.start w s 25
  rw [shB_t hV] at HV
  rw [haj] at HV HCh HLd hB
  have HM := Lib.hid hM
  clear hI hV hadr hc HFin hMt hM
  go_enter Try.func27, Try.ntmps27
  go_wp2_with fail
  obtain ⟨wB, hwB⟩ : ∃ wB, w.alloc (.cells #[.int .i64 s.O, .int .i64 s.C, .slice s.aH s.H.length s.cH, .int .i64 s.M, .slice s.aS s.S.length s.cS, .slice aj s.J.length s.cJ] 25) = wB := ⟨_, rfl⟩
  rw [hwB] at hB ⊢
  clear hwB
  refine (HV.out _ hB.1).mono ?_
  rintro e w1 ⟨rfl, hb1⟩
  have HB0 := Lib.hid (hB.on hb1)
  obtain ⟨hb, p0, p1, p2, p3, p4, p5⟩ := hB.on hb1
  clear hB hb1 HV
  go_wp2_with fail
  clear hb p0 p1 p2 p3 p4 p5
  go_loopw [4, 14] (fun u i wr => ∃ k : Nat, k ≤ s.J.length ∧ i = .int .i64 k ∧ u = .int .i64 (mxC s k) ∧ ShBox w wr s) (fun _ i _ => s.J.length - (intOf i).toNat)
  case atStart => exact ⟨0, Nat.zero_le _, rfl, by rw [HC0.out], HB0.out⟩
  case round =>
    clear HB0
    obtain ⟨k, hk, rfl, rfl, hB1⟩ := hrel
    have HB := Lib.hid hB1
    obtain ⟨hb, p0, p1, p2, p3, p4, p5⟩ := hB1
    by_cases hlt : k < s.J.length
    · obtain rfl := HLJ.out (by omega)
      obtain ⟨c0, hln⟩ := HE.out k hlt
      have c0 := cell_below c0 hb
      have n9 : (k : Int) < s.J.length := by omega
      have HCk := Lib.hid (HCh.out k hlt)
      have HX := Lib.hid (HXC.out k)
      clear HE HLJ HCh HLd HXC HXL HX0 HC0
      generalize chainV s (gj s.J k) = cv at *
      generalize (gj s.J k).length = ln at *
      generalize ad k = al at *
      generalize cp k = cl at *
      generalize mxC s k = mc at *
      rcases Int.lt_trichotomy mc cv with hl | hl | hl
      · have HR := Lib.hid (HX.out.trans (show max mc cv = cv by omega))
        clear HX
        have zq := block_lt p0
        have qq : ∀ o O, (wr.alloc O).cell? ⟨w.heap.size, o, none⟩ = wr.cell? ⟨w.heap.size, o, none⟩ := fun o O => ((Below.refl wr.heap.size wr).alloc (Nat.le_refl _) O).cell (p := ⟨w.heap.size, o, none⟩) zq
        go_wp2_with fail
        obtain ⟨wo, hwo⟩ : ∃ wo, wr.alloc (.cells #[.slice al ln cl] 55) = wo := ⟨_, rfl⟩
        have hB2 : ShBox w wo s := by rw [← hwo]; exact HB.out.on ((Below.refl _ _).alloc (Nat.le_refl _) _)
        have q0 : wo.cell? ⟨wr.heap.size, 0, none⟩ = some (.slice al ln cl) := by rw [← hwo]; simp [go_sem]
        rw [hwo]
        clear hwo HB hb p0 p1 p2 p3 p4 p5 c0 qq zq
        refine (HCk.out _ hB2.1).mono ?_
        rintro e w3 ⟨rfl, hb3⟩
        go_wp2_with fail
        go_roundw
        case rel => exact ⟨k + 1, by omega, by go_num, by rw [HR.out]; try (congr 1; omega), hB2.on hb3⟩
        case measure => simp [intOf]; omega
      · have h1 : mc ≤ cv := by omega
        have h2 : cv ≤ mc := by omega
        have HR := Lib.hid (HX.out.trans (show max mc cv = cv by omega))
        clear HX hl
        have zq := block_lt p0
        have qq : ∀ o O, (wr.alloc O).cell? ⟨w.heap.size, o, none⟩ = wr.cell? ⟨w.heap.size, o, none⟩ := fun o O => ((Below.refl wr.heap.size wr).alloc (Nat.le_refl _) O).cell (p := ⟨w.heap.size, o, none⟩) zq
        go_wp2_with fail
        obtain ⟨wo, hwo⟩ : ∃ wo, wr.alloc (.cells #[.slice al ln cl] 55) = wo := ⟨_, rfl⟩
        have hB2 : ShBox w wo s := by rw [← hwo]; exact HB.out.on ((Below.refl _ _).alloc (Nat.le_refl _) _)
        have q0 : wo.cell? ⟨wr.heap.size, 0, none⟩ = some (.slice al ln cl) := by rw [← hwo]; simp [go_sem]
        rw [hwo]
        clear hwo HB hb p0 p1 p2 p3 p4 p5 c0 qq zq
        refine (HCk.out _ hB2.1).mono ?_
        rintro e w3 ⟨rfl, hb3⟩
        go_wp2_with fail
        go_roundw
        case rel => exact ⟨k + 1, by omega, by go_num, by rw [HR.out]; try (congr 1; omega), hB2.on hb3⟩
        case measure => simp [intOf]; omega
      · have HR := Lib.hid (HX.out.trans (show max mc cv = mc by omega))
        clear HX
        have zq := block_lt p0
        have qq : ∀ o O, (wr.alloc O).cell? ⟨w.heap.size, o, none⟩ = wr.cell? ⟨w.heap.size, o, none⟩ := fun o O => ((Below.refl wr.heap.size wr).alloc (Nat.le_refl _) O).cell (p := ⟨w.heap.size, o, none⟩) zq
        go_wp2_with fail
        obtain ⟨wo, hwo⟩ : ∃ wo, wr.alloc (.cells #[.slice al ln cl] 55) = wo := ⟨_, rfl⟩
        have hB2 : ShBox w wo s := by rw [← hwo]; exact HB.out.on ((Below.refl _ _).alloc (Nat.le_refl _) _)
        have q0 : wo.cell? ⟨wr.heap.size, 0, none⟩ = some (.slice al ln cl) := by rw [← hwo]; simp [go_sem]
        rw [hwo]
        clear hwo HB hb p0 p1 p2 p3 p4 p5 c0 qq zq
        refine (HCk.out _ hB2.1).mono ?_
        rintro e w3 ⟨rfl, hb3⟩
        go_wp2_with fail
        go_roundw
        case rel => exact ⟨k + 1, by omega, by go_num, by rw [HR.out]; try (congr 1; omega), hB2.on hb3⟩
        case measure => simp [intOf]; omega
    · obtain rfl : k = s.J.length := by omega
      rw [← HX0.out]
      clear HE HLJ HCh HXC HX0 HC0 hlt
      go_wp2_with fail
      clear hb p0 p1 p2 p3 p4 p5
      go_loopw [4, 26] (fun u i wr => ∃ k : Nat, k ≤ n ∧ i = .int .i64 k ∧ u = .int .i64 (mxL s k) ∧ ShBox w wr s) (fun _ i _ => n - (intOf i).toNat)
      case atStart => exact ⟨0, Nat.zero_le _, rfl, rfl, HB.out⟩
      case round =>
        clear HB
        obtain ⟨k, hk, rfl, rfl, hB1⟩ := hrel
        have HB := Lib.hid hB1
        obtain ⟨hb, p0, p1, p2, p3, p4, p5⟩ := hB1
        by_cases hlt : k < n
        · have n9 : (k : Int) < s.M := by have := HM.out; omega
          have HCk := Lib.hid (HLd.out k)
          have HX := Lib.hid (HXL.out k)
          clear HLd HXL
          generalize loadV s k = cv at *
          generalize mxL s k = mc at *
          rcases Int.lt_trichotomy mc cv with hl | hl | hl
          · have HR := Lib.hid (HX.out.trans (show max mc cv = cv by omega))
            clear HX
            go_wp2_with fail
            refine (HCk.out _ hb).mono ?_
            rintro e w3 ⟨rfl, hb3⟩
            go_wp2_with fail
            go_roundw
            case rel => exact ⟨k + 1, by omega, by go_num, by rw [HR.out]; try (congr 1; omega), HB.out.on hb3⟩
            case measure => simp [intOf]; omega
          · have h1 : mc ≤ cv := by omega
            have h2 : cv ≤ mc := by omega
            have HR := Lib.hid (HX.out.trans (show max mc cv = cv by omega))
            clear HX hl
            go_wp2_with fail
            refine (HCk.out _ hb).mono ?_
            rintro e w3 ⟨rfl, hb3⟩
            go_wp2_with fail
            go_roundw
            case rel => exact ⟨k + 1, by omega, by go_num, by rw [HR.out]; try (congr 1; omega), HB.out.on hb3⟩
            case measure => simp [intOf]; omega
          · have HR := Lib.hid (HX.out.trans (show max mc cv = mc by omega))
            clear HX
            go_wp2_with fail
            refine (HCk.out _ hb).mono ?_
            rintro e w3 ⟨rfl, hb3⟩
            go_wp2_with fail
            go_roundw
            case rel => exact ⟨k + 1, by omega, by go_num, by rw [HR.out]; try (congr 1; omega), HB.out.on hb3⟩
            case measure => simp [intOf]; omega
        · obtain rfl : k = n := by omega
          have n9 : ¬ (k : Int) < s.M := by have := HM.out; omega
          clear HLd HXL hlt
          go_wp2_with fail
          go_returns
          exact ⟨rfl, hb⟩
end Go.Proofs.Ytgphkfonjfdifaa

namespace Go.Proofs.Ytgphkfonjfdifaa
set_option linter.unusedVariables false
set_option linter.unusedSimpArgs false
open Go.RowKit

/-- A step of a pair, and its start in a plan. -/
def stpP (s : Sh) (p : Int × Int) : Stp := gs (gj s.J p.1.toNat) p.2.toNat
def sttP (P : List (List Int)) (p : Int × Int) : Int := gi (gr P p.1.toNat) p.2.toNat
/-- A plan is right. -/
structure RightP (s : Sh) (P : List (List Int)) : Prop where
  plan : PlanOk s P
  shift : ∀ i k, i < s.J.length → k < (gj s.J i).length → InSh s.O s.C s.H (gi (gr P i) k) (gs (gj s.J i) k).2.1
  early : ∀ i k, i < s.J.length → k < (gj s.J i).length → rdyV s P i k ≤ gi (gr P i) k
  clash : ∀ n m, n < m → m < (flP s.J).length → (stpP s (gp (flP s.J) n)).1 = (stpP s (gp (flP s.J) m)).1 → apB s.S (stpP s (gp (flP s.J) n)) (sttP P (gp (flP s.J) n)) (stpP s (gp (flP s.J) m)) (sttP P (gp (flP s.J) m)) = true
/-- The greatest end of the first n steps. -/
def endN (s : Sh) (P : List (List Int)) : Nat → Int
  | 0 => 0
  | n + 1 => max (endN s P n) (sttP P (gp (flP s.J) n) + (stpP s (gp (flP s.J) n)).2.1)
def endV (s : Sh) (P : List (List Int)) : Int := endN s P (flP s.J).length
theorem endN_ge {s : Sh} {P : List (List Int)} : ∀ {n i : Nat}, i < n → sttP P (gp (flP s.J) i) + (stpP s (gp (flP s.J) i)).2.1 ≤ endN s P n
  | n + 1, i, h => by
    rw [endN]
    by_cases e : i = n
    · subst e; omega
    · have := endN_ge (s := s) (P := P) (n := n) (i := i) (by omega); omega
theorem endN_pos (s : Sh) (P : List (List Int)) : ∀ n, 0 ≤ endN s P n
  | 0 => Int.le_refl _
  | n + 1 => by have := endN_pos s P n; rw [endN]; omega
theorem fl_mem {J : List (List Stp)} {a b : Nat} (hb : b < (gj J a).length) : ∀ i, a < i → ((a : Int), (b : Int)) ∈ flI J i
  | i + 1, h => by
    rw [flI, List.mem_append]
    by_cases e : a = i
    · subst e
      right
      unfold rowP
      exact List.mem_map.2 ⟨b, List.mem_range.2 hb, rfl⟩
    · exact .inl (fl_mem hb i (by omega))
theorem fl_ix {J : List (List Stp)} {a b : Nat} (ha : a < J.length) (hb : b < (gj J a).length) : ∃ n, n < (flP J).length ∧ gp (flP J) n = ((a : Int), (b : Int)) := by
  obtain ⟨n, hn, e⟩ := List.getElem_of_mem (fl_mem hb J.length ha)
  exact ⟨n, hn, by unfold gp flP; rw [List.getD_eq_getElem?_getD, List.getElem?_eq_getElem hn]; exact e⟩
theorem end_ge {s : Sh} {P : List (List Int)} {a b : Nat} (ha : a < s.J.length) (hb : b < (gj s.J a).length) : gi (gr P a) b + (gs (gj s.J a) b).2.1 ≤ endV s P := by
  obtain ⟨n, hn, e⟩ := fl_ix ha hb
  have := endN_ge (s := s) (P := P) hn
  rw [e] at this
  unfold sttP stpP at this
  simp only [Int.toNat_natCast] at this
  exact this
theorem nextV_le {s : Sh} {t m x : Int} (h : ShOk s) (t0 : 0 ≤ t) (m1 : m ≤ s.C - s.O) (hx : t ≤ x) (hs : InSh s.O s.C s.H x m) : nextV s.O s.C s.H t m ≤ x := by
  obtain ⟨y, hy, -⟩ := next_exists h.1.1 h.1.2.1 h.1.2.2 m1 h.2.1.late t0
  rw [nextV_eq hy]
  rcases Int.lt_or_le x y with e | e
  · exact absurd hs (hy.2.2 x hx e)
  · exact e
theorem dry_le {s : Sh} {P : List (List Int)} (h : ShOk s) (hr : RightP s P) {i : Nat} (hi : i < s.J.length) : ∀ k, k ≤ (gj s.J i).length → dryK s.O s.C s.H (gj s.J i) k ≤ rdyV s P i k
  | 0, _ => by simp [dryK, rdyV]
  | k + 1, hk => by
    have ih := dry_le h hr hi k (by omega)
    have he := hr.early i k hi (by omega)
    have hj := (h.2.2.2.2 i hi).2 k (by omega)
    have hb := (dryK_bd h (h.2.2.2.2 i hi) k (by omega)).1
    have := nextV_le h hb hj.2.1.2 (by omega) (hr.shift i k hi (by omega))
    rw [dryK]
    unfold rdyV
    rw [if_neg (by omega), Nat.add_sub_cancel]
    omega
theorem chain_le {s : Sh} {P : List (List Int)} (h : ShOk s) (hr : RightP s P) {i : Nat} (hi : i < s.J.length) : chainV s (gj s.J i) ≤ endV s P := by
  unfold chainV
  obtain ⟨k, hk⟩ : ∃ k, (gj s.J i).length = k := ⟨_, rfl⟩
  rw [hk]
  cases k with
  | zero => exact endN_pos s P _
  | succ k =>
    have hd := dry_le h hr hi k (by omega)
    have he := hr.early i k hi (by omega)
    have hj := (h.2.2.2.2 i hi).2 k (by omega)
    have hb := (dryK_bd h (h.2.2.2.2 i hi) k (by omega)).1
    have := nextV_le h hb hj.2.1.2 (by omega) (hr.shift i k hi (by omega))
    have := end_ge (P := P) hi (show k < (gj s.J i).length by omega)
    rw [endK]
    omega
/-- A step within a shift is open all the time. -/
theorem opn_step {O C : Int} {l : List Int} (hA : Asc l) (o0 : 0 ≤ O) (oc : O < C) (o1 : C ≤ 1440) {t m : Int} (hm : 0 ≤ m) (h : InSh O C l t m) : opnB O C l (t + m) = opnB O C l t + m := by
  obtain ⟨h1, h2, h3⟩ := h
  rw [opnB_day hA o0 oc o1 (d := t / 1440) (t := t) (by omega) (by omega), opnB_day hA o0 oc o1 (d := t / 1440) (t := t + m) (by omega) (by omega), h1]
  simp only [Bool.false_eq_true, if_false]
  omega
section
variable (f : Int → Int) (a b : Int × Int → Int)
/-- What the steps of a list have up to a time. -/
def totE : List (Int × Int) → Int → Int
  | [], _ => 0
  | p :: r, E => (f (min E (b p)) - f (min E (a p))) + totE r E
/-- How many of them are under way. -/
def cntE : List (Int × Int) → Int → Int
  | [], _ => 0
  | p :: r, E => (if a p ≤ E ∧ E < b p then 1 else 0) + cntE r E
theorem cntE_none {r : List (Int × Int)} {E : Int} (h : ∀ p, p ∈ r → ¬ (a p ≤ E ∧ E < b p)) : cntE a b r E = 0 := by
  induction r with
  | nil => rfl
  | cons p r ih => rw [cntE, if_neg (h p (by simp)), ih (fun q hq => h q (by simp [hq]))]; rfl
theorem cntE_le {E : Int} : ∀ {l : List (Int × Int)}, l.Pairwise (fun p q => b p ≤ a q ∨ b q ≤ a p) → 0 ≤ cntE a b l E ∧ cntE a b l E ≤ 1
  | [], _ => by simp [cntE]
  | p :: r, h => by
    obtain ⟨h1, h2⟩ := List.pairwise_cons.1 h
    have ih := cntE_le (E := E) h2
    rw [cntE]
    split
    next hp =>
      rw [cntE_none a b (fun q hq hc => by rcases h1 q hq with e | e <;> omega)]
      omega
    · omega
theorem totE_succ {E : Int} : ∀ {l : List (Int × Int)}, (∀ p, p ∈ l → a p ≤ b p) → totE f a b l (E + 1) = totE f a b l E + cntE a b l E * (f (E + 1) - f E)
  | [], _ => by simp [totE, cntE]
  | p :: r, h => by
    have ih := totE_succ (E := E) (l := r) (fun q hq => h q (by simp [hq]))
    have hp := h p (by simp)
    rw [totE, totE, cntE, ih, Int.add_mul]
    by_cases h1 : a p ≤ E
    · by_cases h2 : E < b p
      · rw [if_pos ⟨h1, h2⟩, show min (E + 1) (b p) = E + 1 by omega, show min (E + 1) (a p) = a p by omega, show min E (b p) = E by omega, show min E (a p) = a p by omega]
        omega
      · rw [if_neg (fun hc => h2 hc.2), show min (E + 1) (b p) = b p by omega, show min (E + 1) (a p) = a p by omega, show min E (b p) = b p by omega, show min E (a p) = a p by omega]
        omega
    · rw [if_neg (fun hc => h1 hc.1), show min (E + 1) (b p) = E + 1 by omega, show min (E + 1) (a p) = E + 1 by omega, show min E (b p) = E by omega, show min E (a p) = E by omega]
      omega
theorem totE_le {l : List (Int × Int)} (hm : ∀ t, f t ≤ f (t + 1)) (h0 : ∀ p, p ∈ l → 0 ≤ a p) (hab : ∀ p, p ∈ l → a p ≤ b p) (hd : l.Pairwise (fun p q => b p ≤ a q ∨ b q ≤ a p)) : ∀ n : Nat, totE f a b l n ≤ f n - f 0
  | 0 => by
    have : ∀ r : List (Int × Int), (∀ p, p ∈ r → 0 ≤ a p ∧ a p ≤ b p) → totE f a b r ((0 : Nat) : Int) = 0 := fun r => by
      induction r with
      | nil => exact fun _ => rfl
      | cons p r ih =>
        intro h
        have hp := h p (by simp)
        rw [totE, ih (fun q hq => h q (by simp [hq])), show min ((0 : Nat) : Int) (b p) = 0 by omega, show min ((0 : Nat) : Int) (a p) = 0 by omega]
        omega
    rw [this l (fun p hp => ⟨h0 p hp, hab p hp⟩)]
    simp
  | n + 1 => by
    have ih := totE_le hm h0 hab hd n
    obtain ⟨c0, c1⟩ := cntE_le a b (E := n) hd
    rw [show ((n + 1 : Nat) : Int) = (n : Int) + 1 by omega, totE_succ f a b hab]
    have hmn := hm n
    have : cntE a b l n * (f ((n : Int) + 1) - f n) ≤ 1 * (f ((n : Int) + 1) - f n) := Int.mul_le_mul_of_nonneg_right c1 (by omega)
    omega
end
theorem load_sum {s : Sh} {P : List (List Int)} (h : ShOk s) (hr : RightP s P) (m : Int) : ∀ r : List (Int × Int), (∀ p, p ∈ r → ∃ a b : Nat, p = ((a : Int), (b : Int)) ∧ a < s.J.length ∧ b < (gj s.J a).length) →
    totE (opnB s.O s.C s.H) (sttP P) (fun p => sttP P p + (stpP s p).2.1) (r.filter fun p => decide ((stpP s p).1 = m)) (endV s P) = sumP s.J m r
  | [], _ => rfl
  | p :: r, hp => by
    have ih := load_sum h hr m r (fun q hq => hp q (by simp [hq]))
    obtain ⟨a, b, rfl, ha, hb⟩ := hp p (by simp)
    have hst := (h.2.2.2.2 a ha).2 b hb
    have hE := end_ge (P := P) ha hb
    have hsh := hr.shift a b ha hb
    have hop := opn_step (h.2.1.asc) h.1.1 h.1.2.1 h.1.2.2 (by have := hst.2.1.1; omega) hsh
    rw [List.filter_cons, sumP]
    unfold minP
    show totE _ _ _ (if decide ((stpP s ((a : Int), (b : Int))).1 = m) = true then _ else _) _ = (if (stpP s ((a : Int), (b : Int))).1 = m then (stpP s ((a : Int), (b : Int))).2.1 else 0) + _
    have e1 : stpP s ((a : Int), (b : Int)) = gs (gj s.J a) b := by unfold stpP; simp
    have e2 : sttP P ((a : Int), (b : Int)) = gi (gr P a) b := by unfold sttP; simp
    by_cases hm : (stpP s ((a : Int), (b : Int))).1 = m
    · rw [if_pos (by simpa using hm), if_pos hm, totE, ih]
      show (opnB s.O s.C s.H (min (endV s P) (sttP P ((a : Int), (b : Int)) + (stpP s ((a : Int), (b : Int))).2.1)) - opnB s.O s.C s.H (min (endV s P) (sttP P ((a : Int), (b : Int))))) + _ = _
      have hm1 := hst.2.1.1
      rw [e1, e2, show min (endV s P) (gi (gr P a) b + (gs (gj s.J a) b).2.1) = gi (gr P a) b + (gs (gj s.J a) b).2.1 by omega, show min (endV s P) (gi (gr P a) b) = gi (gr P a) b by omega, hop]
      omega
    · rw [if_neg (by simpa using hm), if_neg hm, ih]
      omega
theorem load_le {s : Sh} {P : List (List Int)} (h : ShOk s) (hr : RightP s P) (m : Int) : loadV s m ≤ endV s P := by
  have hat : ∀ p, p ∈ flP s.J → ∃ a b : Nat, p = ((a : Int), (b : Int)) ∧ a < s.J.length ∧ b < (gj s.J a).length := flI_at _ (Nat.le_refl _)
  have hsum := load_sum h hr m (flP s.J) hat
  have hmin : ∀ p, p ∈ flP s.J → 1 ≤ (stpP s p).2.1 ∧ 0 ≤ sttP P p := fun p hp => by
    obtain ⟨a, b, rfl, ha, hb⟩ := hat p hp
    have hst := (h.2.2.2.2 a ha).2 b hb
    have := ((hr.plan.2 a (by rw [hr.plan.1]; exact ha)).2 b (by rw [(hr.plan.2 a (by rw [hr.plan.1]; exact ha)).1]; exact hb)).1
    unfold stpP sttP
    simp only [Int.toNat_natCast]
    exact ⟨hst.2.1.1, this⟩
  have hpw : ((flP s.J).filter fun p => decide ((stpP s p).1 = m)).Pairwise (fun p q => sttP P p + (stpP s p).2.1 ≤ sttP P q ∨ sttP P q + (stpP s q).2.1 ≤ sttP P p) := by
    rw [List.pairwise_filter, List.pairwise_iff_getElem]
    intro i j hi hj hij e1 e2
    have gi1 : gp (flP s.J) i = (flP s.J)[i] := by unfold gp; rw [List.getD_eq_getElem?_getD, List.getElem?_eq_getElem hi]; rfl
    have gj1 : gp (flP s.J) j = (flP s.J)[j] := by unfold gp; rw [List.getD_eq_getElem?_getD, List.getElem?_eq_getElem hj]; rfl
    have e1 := of_decide_eq_true e1
    have e2 := of_decide_eq_true e2
    have hc := hr.clash i j hij hj (by rw [gi1, gj1, e1, e2])
    rw [gi1, gj1] at hc
    have hw : 0 ≤ waitV s.S (stpP s (flP s.J)[i]) (stpP s (flP s.J)[j]) := by
      unfold waitV
      split
      · exact Int.le_refl _
      · obtain ⟨a, b, ep, ha, hb⟩ := hat _ (List.getElem_mem hi)
        have hst := (h.2.2.2.2 a ha).2 b hb
        have : stpP s (flP s.J)[i] = gs (gj s.J a) b := by rw [ep]; unfold stpP; simp
        rw [this]
        exact (h.2.2.1.2.2 _ (by have := hst.1; have := h.2.2.1.2.1; omega)).1
    unfold apB at hc
    rw [Bool.or_eq_true, decide_eq_true_iff, decide_eq_true_iff] at hc
    rcases hc with hc | hc
    · exact .inl (by omega)
    · exact .inr (by omega)
  have hE0 := endN_pos s P (flP s.J).length
  have htot := totE_le (opnB s.O s.C s.H) (sttP P) (fun p => sttP P p + (stpP s p).2.1) (l := (flP s.J).filter fun p => decide ((stpP s p).1 = m)) (fun t => (opnB_succ h.2.1.asc h.1.1 h.1.2.1 h.1.2.2 t).1) (fun p hp => (hmin p (List.mem_filter.1 hp).1).2) (fun p hp => by have := (hmin p (List.mem_filter.1 hp).1).1; show sttP P p ≤ sttP P p + (stpP s p).2.1; omega) hpw (endV s P).toNat
  have hEn : (((endV s P).toNat : Nat) : Int) = endV s P := by unfold endV; omega
  rw [hEn, hsum, show sumP s.J m (flP s.J) = ldV s m from sumP_fl s.J m _] at htot
  have hl0 := (ldJ_bd h m s.J.length (Nat.le_refl _)).1
  obtain ⟨x, hx, -⟩ := aft_exists h.2.1.asc h.1.1 h.1.2.1 h.1.2.2 0 (ldV s m).toNat
  have hm2 : (((ldV s m).toNat : Nat) : Int) = ldV s m := by unfold ldV; omega
  rw [hm2] at hx
  unfold loadV
  rw [aftV_eq hx]
  rcases Int.lt_or_le (endV s P) (0 + (x : Int)) with e | e
  · have := hx.2.2 (endV s P) hE0 e
    omega
  · exact e
/-- No right plan ends ahead of the bound. -/
theorem bound_le {s : Sh} {P : List (List Int)} (h : ShOk s) (hr : RightP s P) : boundV s ≤ endV s P := by
  have hc : ∀ n, n ≤ s.J.length → mxC s n ≤ endV s P := fun n => by
    induction n with
    | zero => exact fun _ => endN_pos s P _
    | succ n ih =>
      intro hn
      have := chain_le h hr (i := n) (by omega)
      have := ih (by omega)
      rw [mxC]
      omega
  have hl : ∀ n, mxL s n ≤ endV s P := fun n => by
    induction n with
    | zero => exact hc _ (Nat.le_refl _)
    | succ n ih =>
      have := load_le h hr n
      rw [mxL]
      omega
  exact hl _
end Go.Proofs.Ytgphkfonjfdifaa
