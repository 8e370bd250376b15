/-
  The law RuleProposed. By an AI agent.; Arguments, opened: lists of ints and of pairs, tables, scenes, structs of them, arrays. By an AI agent.; The arguments of package rule's laws, opened. By an AI agent.
-/
import Derived.Test.YtneafbhiencjlaaGreatDoorMgRuleProposed0
import Derived.Test.YtneafbhiencjlaaGreatDoorMgRuleProposed2
import Derived.Test.YtneafbhiencjlaaGreatDoorMgRuleProposed9
import Derived.Test.YtneafbhiencjlaaGreatDoorMgRuleProposed13
import Derived.Test.YtneafbhiencjlaaGreatDoorMgRuleProposed14
import Derived.Test.YtneafbhiencjlaaGreatDoorMgRuleProposed15
import Derived.Test.YtneafbhiencjlaaGreatDoorMgRuleProposed16
import Derived.Test.YtneafbhiencjlaaGreatDoorMgRuleProposed17
import Derived.Deep.RegionHeld3
import Derived.Deep.DeepCutAuto
import Derived.BigQuiet
import Derived.BigRegion
import Derived.StillTailTactics
import Derived.Deep.AppendLies
import Derived.Lib.SmallJoins
import Derived.Deep.Slices
import Derived.OpenShut

namespace Go.Proofs.YtneafbhiencjlaaGreatDoor
set_option linter.unusedVariables false
set_option linter.unusedSimpArgs false
open Go.RowKit

set_option linter.unnecessarySimpa false
set_option maxRecDepth 100000 in
set_option maxHeartbeats 4000000 in
theorem ruleProposed_any (L : Int) (a : Option Addr) (js : List Int) (ca : Nat) (aa : Option Addr) (l : List Sgn) (cl : Nat) (ae : Option Addr) (q : List Edc) (cq : Nat) (q0 q1 q2 q3 : Int) (w : World) (hI : IntsS w a js) (hA : SgnS w aa l) (hE : EdS w ae q) (hG : WayTab w) : Calls Tryz.prog 3 #[.agg #[.int .i64 L, .slice a js.length ca, .slice aa l.length cl, .slice ae q.length cq, .int .i64 q0, .int .i64 q1, .int .i64 q2, .int .i64 q3]] w fun e w' => e = .returned (.bool true) ∧ Below w.heap.size w w' := by
  have HH := Lib.hid (fun W (hW : Below w.heap.size w W) => right_r L a js ca aa l cl ae q cq q0 q1 q2 q3 W (hI.below hW) (hA.below hW) (hE.below hW))
  have HI := Lib.hid hI
  have HA := Lib.hid hA
  have HE := Lib.hid hE
  have HG := Lib.hid hG
  clear hI hA hE hG
  go_enter Tryz.func3, Tryz.ntmps3
  go_wp2_with fail
  obtain ⟨wB, hwB⟩ : ∃ wB, w.alloc (.cells #[.int .i64 L, .slice a js.length ca, .slice aa l.length cl, .slice ae q.length cq, .int .i64 q0, .int .i64 q1, .int .i64 q2, .int .i64 q3] 28) = wB := ⟨_, rfl⟩
  have hb : Below w.heap.size w wB := by rw [← hwB]; exact (Below.refl _ _).alloc (Nat.le_refl _) _
  have p0 : wB.cell? ⟨w.heap.size, 0, none⟩ = some (.int .i64 L) := by rw [← hwB]; simp [go_sem]
  have p1 : wB.cell? ⟨w.heap.size, 1, none⟩ = some (.slice a js.length ca) := by rw [← hwB]; simp [go_sem]
  have p2 : wB.cell? ⟨w.heap.size, 2, none⟩ = some (.slice aa l.length cl) := by rw [← hwB]; simp [go_sem]
  have p3 : wB.cell? ⟨w.heap.size, 3, none⟩ = some (.slice ae q.length cq) := by rw [← hwB]; simp [go_sem]
  have p4 : wB.cell? ⟨w.heap.size, 4, none⟩ = some (.int .i64 q0) := by rw [← hwB]; simp [go_sem]
  have p5 : wB.cell? ⟨w.heap.size, 5, none⟩ = some (.int .i64 q1) := by rw [← hwB]; simp [go_sem]
  have p6 : wB.cell? ⟨w.heap.size, 6, none⟩ = some (.int .i64 q2) := by rw [← hwB]; simp [go_sem]
  have p7 : wB.cell? ⟨w.heap.size, 7, none⟩ = some (.int .i64 q3) := by rw [← hwB]; simp [go_sem]
  rw [hwB]
  clear hwB
  refine (HH.out _ hb).mono ?_
  rintro e wX ⟨bv, hRt, rfl, hb1⟩
  replace p0 := cell_below p0 hb1
  replace p1 := cell_below p1 hb1
  replace p2 := cell_below p2 hb1
  replace p3 := cell_below p3 hb1
  replace p4 := cell_below p4 hb1
  replace p5 := cell_below p5 hb1
  replace p6 := cell_below p6 hb1
  replace p7 := cell_below p7 hb1
  have hbw := hb.trans (hb1.mono hb.size)
  clear HH hb1
  cases bv with
  | false =>
    clear HI HA HE HG hRt
    go_wp2_with (go_at_call 7; refine (first_any _).mono ?_; rintro e w9 ⟨rfl, hb9⟩)
    go_ret
    exact ⟨rfl, hbw.trans (hb9.mono hbw.size)⟩
  | true =>
    obtain ⟨hV, hL2, hq0, hq1, hq2⟩ := hRt rfl
    clear hRt
    have hz := block_lt p0
    have Z0 := Lib.hid p0
    have Z1 := Lib.hid p1
    have Z2 := Lib.hid p2
    have Z3 := Lib.hid p3
    have Z4 := Lib.hid p4
    have Z5 := Lib.hid p5
    have Z6 := Lib.hid p6
    have Z7 := Lib.hid p7
    have HBW := Lib.hid hbw
    clear hb hbw
    have hE0 : lstE L js [] q = 0 := lst_zero (by rw [sgns_nil]; exact edcs_line (lst_edcs hV)) (lst_edcs hV)
    have hq := lst_edcs hV
    have hl := edcs_line hq
    have hN0 : lstE L js [] [] = 0 := (lst_iff L js []).2 (by rw [sgns_nil]; exact hl)
    have HN := Lib.hid (fun W (hW : Below w.heap.size w W) => show Calls Tryz.prog 8 #[.agg #[.int .i64 L, .slice a js.length ca], .slice none 0 0, .int .i64 q0] W (SgA [] 0 W) by
      have h9 := Propose_good L a js ca none [] 0 q0 hN0 hq0 W (HG.out.below hW) (HI.out.below hW) (ed_nilR W)
      have e1 : prpR L js [] q0 = [] := by unfold prpR; rw [prp_none]; rfl
      have e2 : prpE L js [] q0 = 0 := by unfold prpE; rw [prp_none]; rfl
      rw [e1, e2] at h9
      exact h9)
    have hP := fun W (hW : Below w.heap.size w W) => Propose_good L a js ca ae q cq q0 hE0 hq0 W (HG.out.below hW) (HI.out.below hW) (HE.out.below hW)
    by_cases hn : (prpK L js q q0 4).length ≤ 100
    · have e1 : prpR L js q q0 = numS 0 (prpK L js q q0 4) := by unfold prpR; rw [if_pos hn]
      have e2 : prpE L js q q0 = 0 := by unfold prpE; rw [if_pos hn]
      rw [e1, e2] at hP
      have hVP := prp_valid (q := q) hl hq hq0 hn
      have hV1 : lstE L js (numS 0 (prpK L js q q0 4)) q = 0 := lst_zero hVP hq
      have hV2 := (lst_iff L js (numS 0 (prpK L js q q0 4))).2 hVP
      have hgap := prp_gaps (L := L) (js := js) (h := q0) hq
      have hflt := prp_faults (L := L) (js := js) (h := q0) hq
      obtain ⟨PS, hPS⟩ : ∃ PS, numS 0 (prpK L js q q0 4) = PS := ⟨_, rfl⟩
      rw [hPS] at hP hVP hV1 hV2 hgap hflt
      have HP := Lib.hid hP
      have HC := Lib.hid (fun b c W (hW : Below w.heap.size w W) (hT : SgnS W b PS) => show Calls Tryz.prog 10 #[.agg #[.int .i64 L, .slice a js.length ca], .slice b PS.length c, .slice ae q.length cq, .int .i64 q0] W (GapA [] 0 W) by
        have h9 := Compare_good L a js ca b PS c ae q cq q0 hV1 hq0 W (HG.out.below hW) (HI.out.below hW) hT (HE.out.below hW)
        rw [hgap] at h9
        exact h9)
      have HF := Lib.hid (fun b c W (hW : Below w.heap.size w W) (hT : SgnS W b PS) => show Calls Tryz.prog 11 #[.agg #[.int .i64 L, .slice a js.length ca], .slice b PS.length c, .int .i64 q0] W (fun e w' => ∃ b c, e = .returned (.tuple #[.slice b 0 c, .int .i64 0]) ∧ Below W.heap.size W w') by
        refine (Faults_good L a js ca b PS c q0 hV2 hq0 W (HI.out.below hW) hT).mono ?_
        rintro e w' ⟨M, S, b, c, hM, hp, hs, rfl, hS, hb⟩
        have := fault_eq hV2 hM hp hs
        rw [hflt] at this
        subst this
        exact ⟨b, c, rfl, hb⟩)
      have HVs := Lib.hid (fun b c W (hW : Below w.heap.size w W) (hT : SgnS W b PS) => show Calls Tryz.prog 12 #[.agg #[.int .i64 L, .slice a js.length ca], .slice b PS.length c] W (fun e w' => e = .returned (.bool true) ∧ Below W.heap.size W w') by
        have h9 := ValidSigns_r L a js ca b PS c W (HI.out.below hW) hT
        rw [hVP] at h9
        exact h9)
      clear hV hL2 hq0 hq1 hq2 hE0 hq hl hN0 hP hn e1 e2 hVP hV1 hV2 hgap hflt hPS Z0 Z1 Z2 Z3 Z4 Z5 Z6 Z7 HI HA HE HG
      have hbw := HBW.out
      clear HBW
      go_wp2_with (first | (go_at_call 8; (with_reducible refine Calls.mono (HN.out _ hbw) ?_); rintro e w9 ⟨b0, c0, rfl, -, hb9⟩; replace hbw := hbw.trans (hb9.mono hbw.size); replace p0 := cell_below p0 hb9; replace p1 := cell_below p1 hb9; replace p2 := cell_below p2 hb9; replace p3 := cell_below p3 hb9; replace p4 := cell_below p4 hb9; replace p5 := cell_below p5 hb9; replace p6 := cell_below p6 hb9; replace p7 := cell_below p7 hb9; clear hb9) | (go_at_call 8; (with_reducible refine Calls.mono (HP.out _ hbw) ?_); rintro e w9 ⟨b1, c1, rfl, hT1, hb9⟩; have HT1 := Lib.hid hT1; clear hT1; replace hbw := hbw.trans (hb9.mono hbw.size); replace p0 := cell_below p0 hb9; replace p1 := cell_below p1 hb9; replace p2 := cell_below p2 hb9; replace p3 := cell_below p3 hb9; replace p4 := cell_below p4 hb9; replace p5 := cell_below p5 hb9; replace p6 := cell_below p6 hb9; replace p7 := cell_below p7 hb9; clear hb9) | (go_at_call 10; (with_reducible refine Calls.mono (HC.out _ _ _ hbw HT1.out) ?_); rintro e w9 ⟨b2, c2, rfl, -, hb9⟩; replace HT1 := Lib.hid (HT1.out.below hb9); replace hbw := hbw.trans (hb9.mono hbw.size); replace p0 := cell_below p0 hb9; replace p1 := cell_below p1 hb9; replace p2 := cell_below p2 hb9; replace p3 := cell_below p3 hb9; replace p4 := cell_below p4 hb9; replace p5 := cell_below p5 hb9; replace p6 := cell_below p6 hb9; replace p7 := cell_below p7 hb9; clear hb9) | (go_at_call 11; (with_reducible refine Calls.mono (HF.out _ _ _ hbw HT1.out) ?_); rintro e w9 ⟨b3, c3, rfl, hb9⟩; replace HT1 := Lib.hid (HT1.out.below hb9); replace hbw := hbw.trans (hb9.mono hbw.size); replace p0 := cell_below p0 hb9; replace p1 := cell_below p1 hb9; replace p2 := cell_below p2 hb9; replace p3 := cell_below p3 hb9; replace p4 := cell_below p4 hb9; replace p5 := cell_below p5 hb9; replace p6 := cell_below p6 hb9; replace p7 := cell_below p7 hb9; clear hb9) | (go_at_call 12; (with_reducible refine Calls.mono (HVs.out _ _ _ hbw HT1.out) ?_); rintro e w9 ⟨rfl, hb9⟩; replace HT1 := Lib.hid (HT1.out.below hb9); replace hbw := hbw.trans (hb9.mono hbw.size); replace p0 := cell_below p0 hb9; replace p1 := cell_below p1 hb9; replace p2 := cell_below p2 hb9; replace p3 := cell_below p3 hb9; replace p4 := cell_below p4 hb9; replace p5 := cell_below p5 hb9; replace p6 := cell_below p6 hb9; replace p7 := cell_below p7 hb9; clear hb9) | (go_at_call 7; refine (first_any _).mono ?_; rintro e w9 ⟨rfl, hb9⟩))
      go_ret
      exact ⟨rfl, hbw.trans (hb9.mono hbw.size)⟩
    · have e1 : prpR L js q q0 = [] := by unfold prpR; rw [if_neg hn]
      have e2 : prpE L js q q0 = 2 := by unfold prpE; rw [if_neg hn]
      rw [e1, e2] at hP
      have HP := Lib.hid hP
      have HR := Lib.hid (fun W (hW : Below w.heap.size w W) => show Calls Tryz.prog 9 #[.agg #[.int .i64 L, .slice a js.length ca], .slice ae q.length cq, .int .i64 q0] W (fun e w' => ∃ (b : Option Addr) (c M : Nat), e = .returned (.tuple #[.slice b M c, .bool false]) ∧ Below W.heap.size W w') by
        have hIW := HI.out.below hW
        have hEW := HE.out.below hW
        have hL1 := (lst_line hE0).2.1
        obtain ⟨N, hN⟩ : ∃ N : Nat, L = N := ⟨L.toNat, by omega⟩
        subst hN
        refine (refPropose_r N a js ca ae q cq q0 hE0 hq0 W hIW hEW).mono ?_
        rintro e w' ⟨b, c, rfl, -, hb⟩
        rw [decide_eq_false hn]
        exact ⟨b, c, _, rfl, hb⟩)
      clear hV hL2 hq0 hq1 hq2 hE0 hq hl hN0 hP hn e1 e2 Z0 Z1 Z2 Z3 Z4 Z5 Z6 Z7 HI HA HE HG
      have hbw := HBW.out
      clear HBW
      go_wp2_with (first | (go_at_call 8; (with_reducible refine Calls.mono (HN.out _ hbw) ?_); rintro e w9 ⟨b0, c0, rfl, -, hb9⟩; replace hbw := hbw.trans (hb9.mono hbw.size); replace p0 := cell_below p0 hb9; replace p1 := cell_below p1 hb9; replace p2 := cell_below p2 hb9; replace p3 := cell_below p3 hb9; replace p4 := cell_below p4 hb9; replace p5 := cell_below p5 hb9; replace p6 := cell_below p6 hb9; replace p7 := cell_below p7 hb9; clear hb9) | (go_at_call 8; (with_reducible refine Calls.mono (HP.out _ hbw) ?_); rintro e w9 ⟨b1, c1, rfl, hT1, hb9⟩; have HT1 := Lib.hid hT1; clear hT1; replace hbw := hbw.trans (hb9.mono hbw.size); replace p0 := cell_below p0 hb9; replace p1 := cell_below p1 hb9; replace p2 := cell_below p2 hb9; replace p3 := cell_below p3 hb9; replace p4 := cell_below p4 hb9; replace p5 := cell_below p5 hb9; replace p6 := cell_below p6 hb9; replace p7 := cell_below p7 hb9; clear hb9) | (go_at_call 9; (with_reducible refine Calls.mono (HR.out _ hbw) ?_); rintro e w9 ⟨b2, c2, M2, rfl, hb9⟩; replace hbw := hbw.trans (hb9.mono hbw.size); replace p0 := cell_below p0 hb9; replace p1 := cell_below p1 hb9; replace p2 := cell_below p2 hb9; replace p3 := cell_below p3 hb9; replace p4 := cell_below p4 hb9; replace p5 := cell_below p5 hb9; replace p6 := cell_below p6 hb9; replace p7 := cell_below p7 hb9; clear hb9) | (go_at_call 7; refine (first_any _).mono ?_; rintro e w9 ⟨rfl, hb9⟩))
      go_ret
      exact ⟨rfl, hbw.trans (hb9.mono hbw.size)⟩
end Go.Proofs.YtneafbhiencjlaaGreatDoor

namespace Go.Proofs.YtneafbhiencjlaaGreatDoor
set_option linter.unusedVariables false
set_option linter.unusedSimpArgs false
open Go.RowKit Go.ChangeShapes Go.WideShapes Go.ChangeAt
set_option maxRecDepth 100000

theorem cInt : Tryz.prog.cellsOf 3 = 1 := by kernel_rfl
section
variable {H : Type} {enc : TypeId × Value → H} {W : World} {base : Nat} {sp : Nat → Bool} {held : Bool}

/-- A cell that reads as an int. -/
theorem part_int {n : Nat} {c : Value} {o : Option (DataW H × List MemPlace)} {y : DataW H × List MemPlace} (ho : o = some y) (h : DataW.trod enc Tryz.prog W base sp held n 3 [c] = o) : ∃ z : Int, c = .int .i64 z ∧ I64 z := by
  obtain ⟨z, e, _, hw⟩ := DataW.trod_int Tryz.underlying3 (h.trans ho)
  exact ⟨z, by simpa using e, bounds_i64 hw⟩
theorem add_at {a : Addr} (h : a.spot = none) (n : Nat) : a.add n = ⟨a.block, a.off + n, none⟩ := by
  unfold Addr.add
  split
  · rename_i h0; subst h0; cases a; simp only at h; subst h; rfl
  · rfl
theorem add_zero (a : Addr) : a.add 0 = a := by unfold Addr.add; simp
theorem spot_none {w : World} {a : Addr} {v : Value} (h : w.cell? a = some v) : a.spot = none := by
  unfold World.cell? at h
  split at h
  · split at h
    · cases h
    · rename_i hs; simpa using hs
  · cases h
theorem addr_of {a : Addr} (h : a.spot = none) : a = ⟨a.block, a.off, none⟩ := by cases a; simp only at h; subst h; rfl
theorem gi_map (f : Nat → Int) {n i : Nat} (h : i < n) : gi ((List.range n).map f) i = f i := by
  unfold gi; rw [List.getD_eq_getElem?_getD, List.getElem?_map, List.getElem?_range h]; rfl
theorem gp_map (f : Nat → Int × Int) {n i : Nat} (h : i < n) : gp ((List.range n).map f) i = f i := by
  unfold gp; rw [List.getD_eq_getElem?_getD, List.getElem?_map, List.getElem?_range h]; rfl
theorem ne_pos {α : Type} {f : Nat → α} {n : Nat} (h : (List.range n).map f ≠ []) : 0 < n := by
  apply Nat.pos_of_ne_zero
  rintro rfl
  exact h rfl

theorem open_ints {fuel : Nat} {v : Value} {y : DataW H × List MemPlace} (h : DataW.trod enc Tryz.prog W base sp held fuel 22 [v] = some y) :
    ∃ (a : Option Addr) (l : List Int) (cap : Nat), v = .slice a l.length cap ∧ IntsS W a l ∧ l.length ≤ cap := by
  rcases Go.Deep.open_slice1 Tryz.underlying22 cInt h with ⟨hcs, _⟩ | ⟨a, len, cap, m, n, V, D, Pl, hcs, hb, hl, hm, hmm, hx, hi⟩
  · obtain rfl : v = .slice none 0 0 := by simpa using hcs
    exact ⟨none, [], 0, rfl, ⟨by simp, fun i hi => absurd hi (Nat.not_lt_zero _), 0, 0, (fun h => absurd rfl h), fun i hi => absurd hi (Nat.not_lt_zero _)⟩, Nat.le_refl _⟩
  · obtain rfl : v = .slice (some a) len cap := by simpa using hcs
    have hlm : len ≤ m := by rw [hmm]; split <;> omega
    have key0 : ∀ i, i < len → ∃ x : Int, W.cell? (a.add i) = some (.int .i64 x) ∧ I64 x := fun i hil => by
      obtain ⟨hc, ht⟩ := hi i (by omega)
      obtain ⟨z, hz, hb⟩ := part_int rfl ht
      exact ⟨z, by rw [hc, hz], hb⟩
    have hspot : 0 < len → a.spot = none := fun h0 => by
      obtain ⟨x, hc, _⟩ := key0 0 h0
      rw [add_zero] at hc
      exact spot_none hc
    obtain ⟨f, hf⟩ := Go.Deep.choose_lt (α := Int) (n := len) (p := fun i x => W.cell? (a.add i) = some (.int .i64 x) ∧ I64 x) key0
    refine ⟨some a, (List.range len).map f, cap, by simp, ⟨by simp; unfold maxLen at hm; omega, ?_, a.block, a.off, ?_, ?_⟩, by simpa using hl⟩
    · intro i hi
      have hi : i < len := by simpa using hi
      rw [gi_map f hi]
      exact (hf i hi).2
    · intro hne
      rw [← addr_of (hspot (ne_pos hne))]
    · intro i hi
      have hi : i < len := by simpa using hi
      rw [gi_map f hi, ← add_at (hspot (by omega))]
      exact (hf i hi).1

/-- A slice of structs of two ints. -/
theorem open_pairs {t e : TypeId} {f0 f1 : Field} (ht : Tryz.prog.underlying t = some (.slice e)) (he : Tryz.prog.underlying e = some (.struct #[f0, f1])) (hC : Tryz.prog.cellsOf e = 2) (o0 : f0.offset = 0) (o1 : f1.offset = 1) (t0 : f0.type = 3) (t1 : f1.type = 3)
    {fuel : Nat} {v : Value} {y : DataW H × List MemPlace} (h : DataW.trod enc Tryz.prog W base sp held fuel t [v] = some y) :
    ∃ (a : Option Addr) (l : List (Int × Int)) (cap : Nat), v = .slice a l.length cap ∧ PairsS W a l := by
  rcases Go.Deep.open_slice ht h with ⟨hcs, _⟩ | ⟨a, len, cap, m, n, D, Pl, hcs, hb, hl, hm, hmm, hx, hi⟩
  · obtain rfl : v = .slice none 0 0 := by simpa using hcs
    exact ⟨none, [], 0, rfl, by simp, fun i hi => absurd hi (Nat.not_lt_zero _), 0, 0, (fun h => absurd rfl h), fun i hi => absurd hi (Nat.not_lt_zero _)⟩
  · obtain rfl : v = .slice (some a) len cap := by simpa using hcs
    have hlm : len ≤ m := by rw [hmm]; split <;> omega
    rw [hC] at hi
    have key0 : ∀ i, i < len → ∃ x : Int × Int, (W.cell? ((a.add (i * 2)).add 0) = some (.int .i64 x.1) ∧ W.cell? ((a.add (i * 2)).add 1) = some (.int .i64 x.2)) ∧ (I64 x.1 ∧ I64 x.2) := fun i hil => by
      obtain ⟨cs, hc, htr⟩ := hi i (by omega)
      obtain ⟨hcl, _, hat⟩ := World.cells?_some hc
      match cs, hcl with
      | [c0, c1], _ =>
        obtain ⟨y0, y1, n', _, _, g0, g1⟩ := trod_struct2 he htr
        rw [o0, t0, cInt] at g0
        rw [o1, t1, cInt] at g1
        obtain ⟨z0, rfl, b0⟩ := part_int rfl g0
        obtain ⟨z1, rfl, b1⟩ := part_int rfl g1
        exact ⟨(z0, z1), ⟨hat 0 (by decide), hat 1 (by decide)⟩, b0, b1⟩
    have hspot : 0 < len → a.spot = none := fun h0 => by
      obtain ⟨x, ⟨hc, _⟩, _⟩ := key0 0 h0
      rw [show 0 * 2 = 0 from rfl, add_zero, add_zero] at hc
      exact spot_none hc
    obtain ⟨f, hf⟩ := Go.Deep.choose_lt (α := Int × Int) (n := len) (p := fun i x => (W.cell? ((a.add (i * 2)).add 0) = some (.int .i64 x.1) ∧ W.cell? ((a.add (i * 2)).add 1) = some (.int .i64 x.2)) ∧ (I64 x.1 ∧ I64 x.2)) key0
    refine ⟨some a, (List.range len).map f, cap, by simp, by simp; unfold maxLen at hm; omega, ?_, a.block, a.off, ?_, ?_⟩
    · intro i hi
      have hi : i < len := by simpa using hi
      rw [gp_map f hi]
      exact (hf i hi).2
    · intro hne
      rw [← addr_of (hspot (ne_pos hne))]
    · intro i hi
      have hi : i < len := by simpa using hi
      have hs := hspot (by omega)
      have := (hf i hi).1
      rw [add_at hs, add_zero, add_at rfl] at this
      rw [gp_map f hi]
      exact this
theorem part_ints {fuel : Nat} {c : Value} {o : Option (DataW H × List MemPlace)} {y : DataW H × List MemPlace} (ho : o = some y) (h : DataW.trod enc Tryz.prog W base sp held fuel 22 [c] = o) :
    ∃ (a : Option Addr) (l : List Int) (cap : Nat), c = .slice a l.length cap ∧ IntsS W a l ∧ l.length ≤ cap := open_ints (h.trans ho)
theorem cSpan : Tryz.prog.cellsOf 76 = 2 := by kernel_rfl
theorem open_spans {fuel : Nat} {c : Value} {y : DataW H × List MemPlace} (h : DataW.trod enc Tryz.prog W base sp held fuel 49 [c] = some y) : ∃ (a : Option Addr) (l : List (Int × Int)) (cap : Nat), c = .slice a l.length cap ∧ PairsS W a l :=
  open_pairs Tryz.underlying49 Tryz.underlying76 cSpan rfl rfl rfl rfl h
end
end Go.Proofs.YtneafbhiencjlaaGreatDoor

namespace Go.Proofs.YtneafbhiencjlaaGreatDoor
set_option linter.unusedVariables false
set_option linter.unusedSimpArgs false
open Go.RowKit Go.ChangeShapes Go.WideShapes Go.ChangeAt
set_option maxRecDepth 100000

theorem choose_ltR {α : Type} {n : Nat} (d : α) {p : Nat → α → Prop} (h : ∀ i, i < n → ∃ x, p i x) : ∃ f : Nat → α, ∀ i, i < n → p i (f i) := by
  classical
  exact ⟨fun i => if hi : i < n then (h i hi).choose else d, fun i hi => by simp only [hi, dif_pos]; exact (h i hi).choose_spec⟩
theorem gs_map (f : Nat → Sgn) {n i : Nat} (h : i < n) : gs ((List.range n).map f) i = f i := by
  unfold gs; rw [List.getD_eq_getElem?_getD, List.getElem?_map, List.getElem?_range h]; rfl
theorem ge_map (f : Nat → Edc) {n i : Nat} (h : i < n) : ge ((List.range n).map f) i = f i := by
  unfold ge; rw [List.getD_eq_getElem?_getD, List.getElem?_map, List.getElem?_range h]; rfl
section
variable {H : Type} {enc : TypeId × Value → H} {W : World} {base : Nat} {sp : Nat → Bool} {held : Bool}
theorem open_signs {fuel : Nat} {v : Value} {y : DataW H × List MemPlace} (h : DataW.trod enc Tryz.prog W base sp held fuel 25 [v] = some y) :
    ∃ (a : Option Addr) (l : List Sgn) (cap : Nat), v = .slice a l.length cap ∧ SgnS W a l := by
  have hC : Tryz.prog.cellsOf 51 = 9 := by kernel_rfl
  rcases Go.Deep.open_slice Tryz.underlying25 h with ⟨hcs, _⟩ | ⟨a, len, cap, m, n, D, Pl, hcs, hb, hl, hm, hmm, hx, hi⟩
  · obtain rfl : v = .slice none 0 0 := by simpa using hcs
    exact ⟨none, [], 0, rfl, ⟨by simp, 0, 0, fun _ => none, fun _ => 0, (fun h => absurd rfl h), fun i hi => absurd hi (Nat.not_lt_zero _)⟩⟩
  · obtain rfl : v = .slice (some a) len cap := by simpa using hcs
    have hlm : len ≤ m := by rw [hmm]; split <;> omega
    rw [hC] at hi
    have key0 : ∀ i, i < len → ∃ x : Sgn × Option Addr × Nat, (W.cell? ((a.add (i * 9)).add 0) = some (.int .i64 x.1.n) ∧ W.cell? ((a.add (i * 9)).add 1) = some (.int .i64 x.1.k) ∧ W.cell? ((a.add (i * 9)).add 2) = some (.int .i64 x.1.v) ∧ W.cell? ((a.add (i * 9)).add 3) = some (.int .i64 x.1.c) ∧ W.cell? ((a.add (i * 9)).add 4) = some (.int .i64 x.1.d) ∧ W.cell? ((a.add (i * 9)).add 5) = some (.int .i64 x.1.rk) ∧ W.cell? ((a.add (i * 9)).add 6) = some (.int .i64 x.1.up) ∧ W.cell? ((a.add (i * 9)).add 7) = some (.int .i64 x.1.dn)) ∧ W.cell? ((a.add (i * 9)).add 8) = some (.slice x.2.1 x.1.cv.length x.2.2) ∧ PairsS W x.2.1 x.1.cv := fun i hil => by
      obtain ⟨cs, hc, htr⟩ := hi i (by omega)
      obtain ⟨hcl, _, hat⟩ := World.cells?_some hc
      match cs, hcl with
      | [c0, c1, c2, c3, c4, c5, c6, c7, c8], _ =>
        obtain ⟨xs, n', _, _, _, hlen, hg⟩ := DataW.trod_struct Tryz.underlying51 htr
        match xs, hlen with
        | [y0, y1, y2, y3, y4, y5, y6, y7, y8], _ =>
          obtain ⟨z0, rfl, b0⟩ := part_int rfl (show DataW.trod enc Tryz.prog W base sp held n' 3 [c0] = some y0 from hg 0 _ rfl)
          obtain ⟨z1, rfl, b1⟩ := part_int rfl (show DataW.trod enc Tryz.prog W base sp held n' 3 [c1] = some y1 from hg 1 _ rfl)
          obtain ⟨z2, rfl, b2⟩ := part_int rfl (show DataW.trod enc Tryz.prog W base sp held n' 3 [c2] = some y2 from hg 2 _ rfl)
          obtain ⟨z3, rfl, b3⟩ := part_int rfl (show DataW.trod enc Tryz.prog W base sp held n' 3 [c3] = some y3 from hg 3 _ rfl)
          obtain ⟨z4, rfl, b4⟩ := part_int rfl (show DataW.trod enc Tryz.prog W base sp held n' 3 [c4] = some y4 from hg 4 _ rfl)
          obtain ⟨z5, rfl, b5⟩ := part_int rfl (show DataW.trod enc Tryz.prog W base sp held n' 3 [c5] = some y5 from hg 5 _ rfl)
          obtain ⟨z6, rfl, b6⟩ := part_int rfl (show DataW.trod enc Tryz.prog W base sp held n' 3 [c6] = some y6 from hg 6 _ rfl)
          obtain ⟨z7, rfl, b7⟩ := part_int rfl (show DataW.trod enc Tryz.prog W base sp held n' 3 [c7] = some y7 from hg 7 _ rfl)
          obtain ⟨b8, l8, p8, rfl, hP⟩ := open_spans (show DataW.trod enc Tryz.prog W base sp held n' 49 [c8] = some y8 from hg 8 _ rfl)
          exact ⟨(⟨z0, z1, z2, z3, z4, z5, z6, z7, l8⟩, b8, p8), ⟨hat 0 (by decide), hat 1 (by decide), hat 2 (by decide), hat 3 (by decide), hat 4 (by decide), hat 5 (by decide), hat 6 (by decide), hat 7 (by decide)⟩, hat 8 (by decide), hP⟩
    have hspot : 0 < len → a.spot = none := fun h0 => by
      obtain ⟨x, ⟨hc, _⟩, _⟩ := key0 0 h0
      rw [show 0 * 9 = 0 from rfl, add_zero, add_zero] at hc
      exact spot_none hc
    obtain ⟨f, hf⟩ := choose_ltR (α := Sgn × Option Addr × Nat) (n := len) (⟨0, 0, 0, 0, 0, 0, 0, 0, []⟩, none, 0) (p := fun i x => (W.cell? ((a.add (i * 9)).add 0) = some (.int .i64 x.1.n) ∧ W.cell? ((a.add (i * 9)).add 1) = some (.int .i64 x.1.k) ∧ W.cell? ((a.add (i * 9)).add 2) = some (.int .i64 x.1.v) ∧ W.cell? ((a.add (i * 9)).add 3) = some (.int .i64 x.1.c) ∧ W.cell? ((a.add (i * 9)).add 4) = some (.int .i64 x.1.d) ∧ W.cell? ((a.add (i * 9)).add 5) = some (.int .i64 x.1.rk) ∧ W.cell? ((a.add (i * 9)).add 6) = some (.int .i64 x.1.up) ∧ W.cell? ((a.add (i * 9)).add 7) = some (.int .i64 x.1.dn)) ∧ W.cell? ((a.add (i * 9)).add 8) = some (.slice x.2.1 x.1.cv.length x.2.2) ∧ PairsS W x.2.1 x.1.cv) key0
    refine ⟨some a, (List.range len).map fun i => (f i).1, cap, by simp, ⟨by simp; unfold maxLen at hm; omega, a.block, a.off, fun i => (f i).2.1, fun i => (f i).2.2, ?_, ?_⟩⟩
    · intro hne
      have hp : 0 < len := by
        have := List.length_pos_iff.2 hne
        simpa using this
      rw [← addr_of (hspot hp)]
    · intro i hi
      have hi : i < len := by simpa using hi
      have hs := hspot (by omega)
      have := hf i hi
      rw [add_at hs, add_zero, add_at rfl, add_at rfl, add_at rfl, add_at rfl, add_at rfl, add_at rfl, add_at rfl, add_at rfl] at this
      rw [gs_map (fun i => (f i).1) hi]
      exact this
theorem open_edicts {fuel : Nat} {v : Value} {y : DataW H × List MemPlace} (h : DataW.trod enc Tryz.prog W base sp held fuel 26 [v] = some y) :
    ∃ (a : Option Addr) (l : List Edc) (cap : Nat), v = .slice a l.length cap ∧ EdS W a l := by
  have hC : Tryz.prog.cellsOf 104 = 8 := by kernel_rfl
  rcases Go.Deep.open_slice Tryz.underlying26 h with ⟨hcs, _⟩ | ⟨a, len, cap, m, n, D, Pl, hcs, hb, hl, hm, hmm, hx, hi⟩
  · obtain rfl : v = .slice none 0 0 := by simpa using hcs
    exact ⟨none, [], 0, rfl, ⟨by simp, 0, 0, (fun h => absurd rfl h), fun i hi => absurd hi (Nat.not_lt_zero _)⟩⟩
  · obtain rfl : v = .slice (some a) len cap := by simpa using hcs
    have hlm : len ≤ m := by rw [hmm]; split <;> omega
    rw [hC] at hi
    have key0 : ∀ i, i < len → ∃ x : Edc, W.cell? ((a.add (i * 8)).add 0) = some (.int .i64 x.n) ∧ W.cell? ((a.add (i * 8)).add 1) = some (.int .i64 x.tp) ∧ W.cell? ((a.add (i * 8)).add 2) = some (.int .i64 x.v) ∧ W.cell? ((a.add (i * 8)).add 3) = some (.int .i64 x.d) ∧ W.cell? ((a.add (i * 8)).add 4) = some (.int .i64 x.fr) ∧ W.cell? ((a.add (i * 8)).add 5) = some (.int .i64 x.tt) ∧ W.cell? ((a.add (i * 8)).add 6) = some (.int .i64 x.st) ∧ W.cell? ((a.add (i * 8)).add 7) = some (.int .i64 x.en) := fun i hil => by
      obtain ⟨cs, hc, htr⟩ := hi i (by omega)
      obtain ⟨hcl, _, hat⟩ := World.cells?_some hc
      match cs, hcl with
      | [c0, c1, c2, c3, c4, c5, c6, c7], _ =>
        obtain ⟨xs, n', _, _, _, hlen, hg⟩ := DataW.trod_struct Tryz.underlying104 htr
        match xs, hlen with
        | [y0, y1, y2, y3, y4, y5, y6, y7], _ =>
          obtain ⟨z0, rfl, b0⟩ := part_int rfl (show DataW.trod enc Tryz.prog W base sp held n' 3 [c0] = some y0 from hg 0 _ rfl)
          obtain ⟨z1, rfl, b1⟩ := part_int rfl (show DataW.trod enc Tryz.prog W base sp held n' 3 [c1] = some y1 from hg 1 _ rfl)
          obtain ⟨z2, rfl, b2⟩ := part_int rfl (show DataW.trod enc Tryz.prog W base sp held n' 3 [c2] = some y2 from hg 2 _ rfl)
          obtain ⟨z3, rfl, b3⟩ := part_int rfl (show DataW.trod enc Tryz.prog W base sp held n' 3 [c3] = some y3 from hg 3 _ rfl)
          obtain ⟨z4, rfl, b4⟩ := part_int rfl (show DataW.trod enc Tryz.prog W base sp held n' 3 [c4] = some y4 from hg 4 _ rfl)
          obtain ⟨z5, rfl, b5⟩ := part_int rfl (show DataW.trod enc Tryz.prog W base sp held n' 3 [c5] = some y5 from hg 5 _ rfl)
          obtain ⟨z6, rfl, b6⟩ := part_int rfl (show DataW.trod enc Tryz.prog W base sp held n' 3 [c6] = some y6 from hg 6 _ rfl)
          obtain ⟨z7, rfl, b7⟩ := part_int rfl (show DataW.trod enc Tryz.prog W base sp held n' 3 [c7] = some y7 from hg 7 _ rfl)
          exact ⟨⟨z0, z1, z2, z3, z4, z5, z6, z7⟩, hat 0 (by decide), hat 1 (by decide), hat 2 (by decide), hat 3 (by decide), hat 4 (by decide), hat 5 (by decide), hat 6 (by decide), hat 7 (by decide)⟩
    have hspot : 0 < len → a.spot = none := fun h0 => by
      obtain ⟨x, hc, _⟩ := key0 0 h0
      rw [show 0 * 8 = 0 from rfl, add_zero, add_zero] at hc
      exact spot_none hc
    obtain ⟨f, hf⟩ := choose_ltR (α := Edc) (n := len) ⟨0, 0, 0, 0, 0, 0, 0, 0⟩ (p := fun i x => W.cell? ((a.add (i * 8)).add 0) = some (.int .i64 x.n) ∧ W.cell? ((a.add (i * 8)).add 1) = some (.int .i64 x.tp) ∧ W.cell? ((a.add (i * 8)).add 2) = some (.int .i64 x.v) ∧ W.cell? ((a.add (i * 8)).add 3) = some (.int .i64 x.d) ∧ W.cell? ((a.add (i * 8)).add 4) = some (.int .i64 x.fr) ∧ W.cell? ((a.add (i * 8)).add 5) = some (.int .i64 x.tt) ∧ W.cell? ((a.add (i * 8)).add 6) = some (.int .i64 x.st) ∧ W.cell? ((a.add (i * 8)).add 7) = some (.int .i64 x.en)) key0
    refine ⟨some a, (List.range len).map f, cap, by simp, ⟨by simp; unfold maxLen at hm; omega, a.block, a.off, ?_, ?_⟩⟩
    · intro hne
      have hp : 0 < len := by
        have := List.length_pos_iff.2 hne
        simpa using this
      rw [← addr_of (hspot hp)]
    · intro i hi
      have hi : i < len := by simpa using hi
      have hs := hspot (by omega)
      have := hf i hi
      rw [add_at hs, add_zero, add_at rfl, add_at rfl, add_at rfl, add_at rfl, add_at rfl, add_at rfl, add_at rfl] at this
      rw [ge_map f hi]
      exact this
theorem open_line {n : Nat} {c0 c1 : Value} {y : DataW H × List MemPlace} (h : DataW.trod enc Tryz.prog W base sp held n 24 [c0, c1] = some y) : ∃ (L : Int) (a : Option Addr) (l : List Int) (ca : Nat), c0 = .int .i64 L ∧ c1 = .slice a l.length ca ∧ IntsS W a l ∧ I64 L := by
  obtain ⟨xs, n', _, _, _, hlen, hg⟩ := DataW.trod_struct Tryz.underlying24 h
  match xs, hlen with
  | [y0, y1], _ =>
    obtain ⟨z0, rfl, b0⟩ := part_int rfl (show DataW.trod enc Tryz.prog W base sp held n' 3 [c0] = some y0 from hg 0 _ rfl)
    obtain ⟨a, l, ca, rfl, hA, _⟩ := part_ints rfl (show DataW.trod enc Tryz.prog W base sp held n' 22 [c1] = some y1 from hg 1 _ rfl)
    exact ⟨z0, a, l, ca, rfl, rfl, hA, b0⟩
theorem open_ask {v : Value} {d : DataW H} {p : List MemPlace} (hv : Value.okWide Tryz.prog W .any base 28 v) (h : DataW.Trod enc Tryz.prog W 0 sp held 28 v d p) :
    ∃ (L : Int) (a : Option Addr) (js : List Int) (ca : Nat) (aa : Option Addr) (l : List Sgn) (cl : Nat) (ae : Option Addr) (q : List Edc) (cq : Nat) (q0 q1 q2 q3 : Int), v = .agg #[.int .i64 L, .slice a js.length ca, .slice aa l.length cl, .slice ae q.length cq, .int .i64 q0, .int .i64 q1, .int .i64 q2, .int .i64 q3] ∧ IntsS W a js ∧ SgnS W aa l ∧ EdS W ae q ∧ I64 L ∧ I64 q0 ∧ I64 q1 ∧ I64 q2 ∧ I64 q3 := by
  obtain ⟨⟨cs⟩, rfl, hsz⟩ := okWide_struct Tryz.underlying28 hv
  have hC : Tryz.prog.cellsOf 28 = 8 := by kernel_rfl
  match cs, hsz.trans hC with
  | [c0, c1, c2, c3, c4, c5, c6, c7], _ =>
    obtain ⟨fuel, hf⟩ := h
    obtain ⟨xs, n, _, _, _, hlen, hg⟩ := DataW.trod_struct Tryz.underlying28 hf
    match xs, hlen with
    | [u0, u1, u2, u3, u4, u5, u6], _ =>
      obtain ⟨L, a, js, ca, rfl, rfl, hJ, bL⟩ := open_line (show DataW.trod enc Tryz.prog W 0 sp held n 24 [c0, c1] = some u0 from hg 0 _ rfl)
      obtain ⟨aa, l, cl, rfl, hA⟩ := open_signs (show DataW.trod enc Tryz.prog W 0 sp held n 25 [c2] = some u1 from hg 1 _ rfl)
      obtain ⟨ae, q, cq, rfl, hE⟩ := open_edicts (show DataW.trod enc Tryz.prog W 0 sp held n 26 [c3] = some u2 from hg 2 _ rfl)
      obtain ⟨q0, rfl, b0⟩ := part_int rfl (show DataW.trod enc Tryz.prog W 0 sp held n 3 [c4] = some u3 from hg 3 _ rfl)
      obtain ⟨q1, rfl, b1⟩ := part_int rfl (show DataW.trod enc Tryz.prog W 0 sp held n 3 [c5] = some u4 from hg 4 _ rfl)
      obtain ⟨q2, rfl, b2⟩ := part_int rfl (show DataW.trod enc Tryz.prog W 0 sp held n 3 [c6] = some u5 from hg 5 _ rfl)
      obtain ⟨q3, rfl, b3⟩ := part_int rfl (show DataW.trod enc Tryz.prog W 0 sp held n 3 [c7] = some u6 from hg 6 _ rfl)
      exact ⟨L, a, js, ca, aa, l, cl, ae, q, cq, q0, q1, q2, q3, rfl, hJ, hA, hE, bL, b0, b1, b2, b3⟩
end
end Go.Proofs.YtneafbhiencjlaaGreatDoor
