/-
  slices.Concat of two lists of ints. By an AI agent.; Lines and edicts that are valid, as lists say it. By an AI agent.; Rows of edicts as values; rows beside a box of another type. By an AI agent.; The program's Compare. By an AI agent.; From the rows' lists to the table of ways (package rule). By an AI agent.
-/
import Derived.Test.YtneafbhiencjlaaGreatDoorMgRuleProposed2
import Derived.Test.YtneafbhiencjlaaGreatDoorMgRuleProposed9
import Derived.Test.YtneafbhiencjlaaGreatDoorMgRuleProposed10
import Derived.Deep.RegionHeld3
import Derived.Deep.DeepCutAuto
import Derived.BigQuiet
import Derived.BigRegion
import Derived.StillTailTactics
import Derived.Deep.AppendLies
import Derived.Shelf.Spec.SlicesGrow
import Derived.Laws.AppendOwn
import Derived.Test.YtneafbhiencjlaaGreatDoorRows
import Derived.ProofKit
import Derived.OpenShut
import Derived.LaidMore
import Derived.Lib.LaidTab
import Derived.Stop.LaidErr
import Derived.ChangeAgain
import Derived.Stop.Joined

namespace Go.Proofs.YtneafbhiencjlaaGreatDoor
set_option linter.unusedVariables false
set_option linter.unusedSimpArgs false
open Go.RowKit

theorem cJ_len (s : List Int) : (clI s).length = s.length * 1 := by unfold clI; simp
theorem cJ_app (s t : List Int) : clI (s ++ t) = clI s ++ clI t := by unfold clI; simp
theorem cJ_one (s : List Int) : ∀ x, x ∈ clI s → x.oneCell' = true := fun x hx => by
  unfold clI at hx
  obtain ⟨y, -, rfl⟩ := List.mem_map.1 hx
  rfl
theorem app_ints {ops : Array Oper} {rest : List Oper} {o : Oper} {a : Act} {Q : Exit → Act → World → Prop} (w : World) (hgd : o.guard = none) (s x : Operand)
    (ho : o.op = .call { callee := .builtin .append, args := #[s, x], argTypes := #[22, 22] })
    (base : Nat) (b : Option Addr) (n c : Nat) (xs : List Value) (hs : a.eval s = .slice b n c) (hown : w.ownsRow base 3 1 (.slice b n c) n xs)
    (ax : Option Addr) (l : List Int) (cx : Nat) (hx : a.eval x = .slice ax l.length cx) (hP : IntsS w ax l) (hlen : n + l.length ≤ 100000000) (hbase : base ≤ w.heap.size)
    (h : ∀ b' c' w', w'.ownsRow base 3 1 (.slice b' (n + l.length) c') (n + l.length) (xs ++ clI l) → Below base w w' → wpList Tryz.prog ops Q rest (a.put o.dst (.slice b' (n + l.length) c')) w') : wpList Tryz.prog ops Q (o :: rest) a w := by
  obtain ⟨n0, hi, hz0, hz1, hz2⟩ := info_parts infoInt
  by_cases h0 : l.length = 0
  · have hl := List.eq_nil_of_length_eq_zero h0
    subst hl
    refine wpList_append_zed hgd s x 22 ho base 3 n0 1 Tryz.underlying22 hi (.slice b n c) n xs hs hown ax cx hx ?_
    have := h b c w (by rw [show clI [] = [] from rfl, List.append_nil]; exact hown) (Below.refl _ _)
    exact this
  · obtain ⟨-, -, blk, off, hadr, hcell⟩ := hP
    obtain rfl := hadr (by rintro rfl; exact h0 rfl)
    refine wpList_append_lies w hgd s x 22 ho base 3 n0 _ 1 8 Tryz.underlying22 hi hz0 hz1 hz2 rfl (by decide) (.slice b n c) n xs hs hown ⟨blk, off, none⟩ l.length cx (clI l) hx (cJ_len l) (fun j u hu => ?_) (cJ_one l) (by omega) (by unfold maxLen; omega) (by omega) hbase _ rfl ?_
    · have hj : j < l.length := by
        have := (List.getElem?_eq_some_iff.1 hu).1
        rw [cJ_len] at this
        omega
      rw [Addr.add_lit]
      rw [clI_get l hj] at hu
      rw [hcell j hj]
      exact hu
    · intro g cap w' h1 h2 _ _
      exact h _ _ _ h1 ((Below.refl _ _).grown h2 hbase (fun z hz => owns_blockI hown hz))
set_option maxRecDepth 100000 in
set_option maxHeartbeats 4000000 in
theorem grow_r (n : Nat) (w : World) (h0 : 0 < n) (hn : n ≤ 1000000) : Calls Tryz.prog 73 #[.slice none 0 0, .int .i64 n] w fun e w' => ∃ a c, e = .returned (.slice a 0 c) ∧ w'.ownsRow w.heap.size 3 1 (.slice a 0 c) 0 [] ∧ Below w.heap.size w w' := by
  obtain ⟨n0, hi, hz0, hz1, hz2⟩ := info_parts infoInt
  have hg := grownCap_ge w (0 + n) 0 3
  have hg2 := grownCap_le_maxLen w (0 + n) 0 3 (by unfold maxLen; omega)
  refine (Any8.slices_Grow_grow Tryz.laysGrowI n0 (.int .i64 0) hi hz0 (by rw [hz1]; decide) none 0 0 n [] w (Nat.le_refl _) (by omega) (by rw [hz2]; omega) (by omega) (by simp) (fun _ => rfl) (fun a ha => by cases ha)).mono ?_
  rintro e w' ⟨rfl, rfl⟩
  refine ⟨_, _, rfl, ?_, ((Below.refl _ _).drew).alloc (Nat.le_refl _) _⟩
  refine ⟨rfl, .inr ⟨w.heap.size, _, _, rfl, Nat.le_refl _, heap_alloc_new _ _, Nat.zero_le _, hg2, ?_, rfl⟩⟩
  rw [Array.size_append, Array.size_append, size_zeroCells, size_zeroCells]
  simp [Value.cells]
  rw [Nat.zero_add] at hg
  have hg : n ≤ grownCap w n 0 (Tryz.laysGrowI_ren.t 25) := hg
  omega
/-- How many have been counted. -/
def szC (m n : Nat) (k : Nat) : Int := if k = 0 then 0 else if k = 1 then m else m + n
def preC (A B : List Int) (k : Nat) : List Int := if k = 0 then [] else if k = 1 then A else A ++ B
set_option maxRecDepth 100000 in
set_option maxHeartbeats 4000000 in
theorem concat2_r (gb : Nat) (a1 a2 : Option Addr) (A B : List Int) (c1 c2 : Nat) (w : World) (hA : IntsS w a1 A) (hB : IntsS w a2 B) (h0 : 0 < A.length) (hl : A.length + B.length ≤ 100000) (x0 : w.cell? ⟨gb, 0, none⟩ = some (.slice a1 A.length c1)) (x1 : w.cell? ⟨gb, 1, none⟩ = some (.slice a2 B.length c2)) :
    Calls Tryz.prog 35 #[.slice (some ⟨gb, 0, none⟩) 2 2] w fun e w' => ∃ a c, e = .returned (.slice a (A ++ B).length c) ∧ w'.ownsRow w.heap.size 3 1 (.slice a (A ++ B).length c) (A ++ B).length (clI (A ++ B)) ∧ Below w.heap.size w w' := by
  have S0 : szC A.length B.length 0 = 0 := rfl
  have HS1 : Hid (szC A.length B.length 1 = A.length) := Lib.hid rfl
  have HS2 : Hid (szC A.length B.length 2 = A.length + B.length) := Lib.hid rfl
  have HG := Lib.hid (fun W => grow_r (A.length + B.length) W (by omega) (by omega))
  have HP0 : Hid (preC A B 0 = []) := Lib.hid rfl
  have HP1 : Hid (preC A B 1 = A) := Lib.hid rfl
  have HP2 : Hid (preC A B 2 = A ++ B) := Lib.hid rfl
  have HAI := Lib.hid hA
  have HBI := Lib.hid hB
  have X0 := Lib.hid x0
  have X1 := Lib.hid x1
  clear hA hB
  go_enter Tryz.func35, Tryz.ntmps35
  go_wp2_with fail
  go_loop [3, 11] (fun s i => ∃ k : Nat, k ≤ 2 ∧ i = .int .i64 k ∧ s = .int .i64 (szC A.length B.length k)) (fun _ i => 2 - (intOf i).toNat)
  case atStart => exact ⟨0, by omega, rfl, rfl⟩
  case round =>
    obtain ⟨k, hk, rfl, rfl⟩ := hrel
    rcases (by omega : k = 0 ∨ k = 1 ∨ k = 2) with rfl | rfl | rfl
    · have hw1 : IntKind.i64.wrap (0 + (A.length : Int)) = A.length := by rw [Int.zero_add]; exact IntWalk.i64_in _ (by omega)
      have hw2 : ¬ ((A.length : Int) < 0) := by omega
      go_wp2_with fail
      go_round
      case rel => exact ⟨1, by omega, rfl, by rw [HS1.out]⟩
      case measure => simp [intOf]
    · rw [HS1.out]
      have hw1 : IntKind.i64.wrap ((A.length : Int) + (B.length : Int)) = A.length + B.length := IntWalk.i64_in _ (by omega)
      have hw2 : ¬ ((A.length : Int) + (B.length : Int) < 0) := by omega
      go_wp2_with fail
      go_round
      case rel => exact ⟨2, by omega, rfl, by rw [HS2.out]⟩
      case measure => simp [intOf]
    · rw [HS2.out]
      have hsum : (A.length : Int) + (B.length : Int) = ((A.length + B.length : Nat) : Int) := by omega
      rw [hsum]
      clear hsum
      go_wp2_with (go_at_call 73; refine (HG.out _).mono ?_; rintro e w1 ⟨ag, cg, rfl, ho1, hb1⟩; have HO1 := Lib.hid ho1; clear ho1)
      go_loopw [6, 27] (fun v i wr => ∃ (k : Nat) (a : Option Addr) (c : Nat), k ≤ 2 ∧ i = .int .i64 k ∧ v = .slice a (preC A B k).length c ∧ Hid (wr.ownsRow w.heap.size 3 1 (.slice a (preC A B k).length c) (preC A B k).length (clI (preC A B k))) ∧ Below w.heap.size w wr) (fun _ i _ => 2 - (intOf i).toNat)
      case atStart => exact ⟨0, ag, cg, by omega, rfl, by rw [HP0.out]; rfl, Lib.hid (by rw [HP0.out]; exact HO1.out), hb1⟩
      case round =>
        obtain ⟨k, av, cv, hk, rfl, rfl, HRow, hbr⟩ := hrel
        have x0 := cell_below X0.out hbr
        have x1 := cell_below X1.out hbr
        rcases (by omega : k = 0 ∨ k = 1 ∨ k = 2) with rfl | rfl | rfl
        · rw [HP0.out] at HRow ⊢
          have HN : Hid (A.length = (preC A B 1).length ∧ clI A = clI (preC A B 1)) := Lib.hid (by rw [HP1.out]; exact ⟨rfl, rfl⟩)
          have hAw := Lib.hid (HAI.out.below hbr)
          go_wp2_with (first | (at_builtin; go_loud (refine app_ints _ rfl _ _ rfl w.heap.size av 0 cv [] (by rfl) HRow.out a1 A c1 (by rfl) hAw.out (by omega) hbr.size ?_)))
          intro b' c' w' hown' hb'
          have HO' := Lib.hid hown'
          clear hown' HRow
          go_wp2_with fail
          go_roundw
          case rel => exact ⟨1, b', c', by omega, rfl, by rw [← HN.out.1], Lib.hid (by rw [← HN.out.1, ← HN.out.2]; exact HO'.out), hbr.trans hb'⟩
          case measure => simp [intOf]
        · rw [HP1.out] at HRow ⊢
          have HN : Hid (A.length + B.length = (preC A B 2).length ∧ clI A ++ clI B = clI (preC A B 2)) := Lib.hid (by rw [HP2.out, cJ_app, List.length_append]; exact ⟨rfl, rfl⟩)
          have hBw := Lib.hid (HBI.out.below hbr)
          go_wp2_with (first | (at_builtin; go_loud (refine app_ints _ rfl _ _ rfl w.heap.size av A.length cv (clI A) (by rfl) HRow.out a2 B c2 (by rfl) hBw.out (by omega) hbr.size ?_)))
          intro b' c' w' hown' hb'
          have HO' := Lib.hid hown'
          clear hown' HRow
          go_wp2_with fail
          go_roundw
          case rel => exact ⟨2, b', c', by omega, rfl, by rw [← HN.out.1], Lib.hid (by rw [← HN.out.1, ← HN.out.2]; exact HO'.out), hbr.trans hb'⟩
          case measure => simp [intOf]
        · rw [HP2.out] at HRow ⊢
          go_wp2_with fail
          go_ret
          exact ⟨av, cv, rfl, HRow.out, hbr⟩
end Go.Proofs.YtneafbhiencjlaaGreatDoor

namespace Go.Proofs.YtneafbhiencjlaaGreatDoor
set_option linter.unusedVariables false
set_option linter.unusedSimpArgs false
open Go.RowKit

theorem line_iff (L : Int) (js : List Int) : lineB L js = true ↔ (1 ≤ L ∧ L ≤ 100000) ∧ js.length ≤ 50 ∧ (∀ x, x ∈ js → 0 < x ∧ x < L) ∧ js.Pairwise (· < ·) := by
  constructor
  · intro h
    have hj : ∀ k, k < js.length → jOk L js k = true := fun k hk => by
      cases e : jOk L js k with
      | true => rfl
      | false => rw [line_bad hk e] at h; cases h
    have h2 := line_end (L := L) (js := js) hj
    rw [h] at h2
    have h2 := h2.symm
    rw [Bool.and_eq_true, decide_eq_true_eq] at h2
    have hstep : ∀ k, k < js.length → prvR js k < gi js k ∧ gi js k < L := fun k hk => by
      have := hj k hk
      unfold jOk at this
      simpa using this
    refine ⟨by have := btw_ge h2.1; exact this, h2.2, fun x hx => ?_, ?_⟩
    · obtain ⟨k, hk, rfl⟩ := List.getElem_of_mem hx
      have h3 := hstep k hk
      have h4 := jOk_pos k (fun j hj' => hj j (by omega))
      rw [gi_at _ hk] at h3
      omega
    · rw [List.pairwise_iff_getElem]
      intro i j hi hj' hij
      induction j with
      | zero => omega
      | succ j ih =>
        have h3 := (hstep (j + 1) hj').1
        rw [gi_at _ hj'] at h3
        have h4 : prvR js (j + 1) = js[j]'(by omega) := by rw [prvR, gi_at _ (by omega)]
        by_cases e : i = j
        · subst e; omega
        · have := ih (by omega) (by omega); omega
  · rintro ⟨hL, hl, hx, hp⟩
    rw [line_end, Bool.and_eq_true, decide_eq_true_eq]
    · exact ⟨by unfold btw; simp; exact hL, hl⟩
    · intro k hk
      unfold jOk
      rw [Bool.and_eq_true, decide_eq_true_eq, decide_eq_true_eq, gi_at _ hk]
      refine ⟨?_, (hx _ (List.getElem_mem hk)).2⟩
      cases k with
      | zero => exact (hx _ (List.getElem_mem hk)).1
      | succ k =>
        rw [prvR, gi_at _ (by omega)]
        exact (List.pairwise_iff_getElem.1 hp) k (k + 1) (by omega) hk (by omega)
end Go.Proofs.YtneafbhiencjlaaGreatDoor

namespace Go.Proofs.YtneafbhiencjlaaGreatDoor
set_option linter.unusedVariables false
set_option linter.unusedSimpArgs false
open Go.RowKit

instance : Inhabited Edc := ⟨⟨0, 0, 0, 0, 0, 0, 0, 0⟩⟩
def encE (x : Edc) : List Value := [.int .i64 x.n, .int .i64 x.tp, .int .i64 x.v, .int .i64 x.d, .int .i64 x.fr, .int .i64 x.tt, .int .i64 x.st, .int .i64 x.en]
def clE (s : List Edc) : List Value := s.flatMap encE
theorem kp_grown {W : World} {o : Obj} {w' : World} {av : Option Addr} {n c g H : Nat} (hg : (W.alloc o).grownBy w' (Value.slice av n c).ownBlock) (hat : (Value.slice av n c).ownBlock = some g ∨ g = H) (hH : W.heap.size ≤ H) : KpB W w' av g := fun B hB hne => by
  refine ⟨(hg.block B (by simp; omega) fun e => ?_).trans (allocOld W _ hB), ?_⟩
  · cases av with
    | none => simp [Value.ownBlock] at e
    | some y => simp [Value.ownBlock] at e; exact hne y rfl e.symm
  · rcases hat with h9 | h9
    · cases av with
      | none => simp [Value.ownBlock] at h9
      | some y => simp [Value.ownBlock] at h9; rw [← h9]; exact hne y rfl
    · omega
end Go.Proofs.YtneafbhiencjlaaGreatDoor

namespace Go.Proofs.YtneafbhiencjlaaGreatDoor
set_option linter.unusedVariables false
set_option linter.unusedSimpArgs false
open Go.RowKit

/-- The four ways as the program's text lays them. -/
def WayTab (w : World) : Prop := 0 < w.heap.size ∧ w.cell? ⟨0, 0, none⟩ = some (.int .i64 1) ∧ w.cell? ⟨0, 1, none⟩ = some (.int .i64 1) ∧ w.cell? ⟨0, 2, none⟩ = some (.int .i64 1) ∧ w.cell? ⟨0, 3, none⟩ = some (.int .i64 (-1)) ∧ w.cell? ⟨0, 4, none⟩ = some (.int .i64 2) ∧ w.cell? ⟨0, 5, none⟩ = some (.int .i64 1) ∧ w.cell? ⟨0, 6, none⟩ = some (.int .i64 2) ∧ w.cell? ⟨0, 7, none⟩ = some (.int .i64 (-1))
theorem WayTab.below {w w' : World} (h : WayTab w) (hb : Below w.heap.size w w') : WayTab w' := by
  obtain ⟨hz, c0, c1, c2, c3, c4, c5, c6, c7⟩ := h
  exact ⟨Nat.lt_of_lt_of_le hz hb.size, cell_below c0 hb, cell_below c1 hb, cell_below c2 hb, cell_below c3 hb, cell_below c4 hb, cell_below c5 hb, cell_below c6 hb, cell_below c7 hb⟩
/-- What the closure of told reads. -/
def TMem (L : Int) (a : Option Addr) (js : List Int) (ca : Nat) (dir tp : Int) (row : List Pst) (ar : Option Addr) (cr rb wb lb : Nat) (aq : Option Addr) (w : World) : Prop :=
  PstS w ar row ∧ w.cell? ⟨rb, 0, none⟩ = some (.slice ar row.length cr) ∧ w.cell? ⟨wb, 0, none⟩ = some (.int .i64 tp) ∧ w.cell? ⟨wb, 1, none⟩ = some (.int .i64 dir) ∧ w.cell? ⟨lb, 0, none⟩ = some (.int .i64 L) ∧ w.cell? ⟨lb, 1, none⟩ = some (.slice a js.length ca) ∧ IntsS w aq (cutsK L dir row row.length)
theorem TMem.below {L : Int} {a : Option Addr} {js : List Int} {ca : Nat} {dir tp : Int} {row : List Pst} {ar : Option Addr} {cr rb wb lb : Nat} {aq : Option Addr} {w w' : World} (h : TMem L a js ca dir tp row ar cr rb wb lb aq w) (hb : Below w.heap.size w w') : TMem L a js ca dir tp row ar cr rb wb lb aq w' := by
  obtain ⟨h1, h2, h3, h4, h5, h6, h7⟩ := h
  exact ⟨h1.below hb, cell_below h2 hb, cell_below h3 hb, cell_below h4 hb, cell_below h5 hb, cell_below h6 hb, h7.below hb⟩
/-- What the closure of wanted reads. -/
def WMem (L : Int) (ae : Option Addr) (q : List Edc) (cq : Nat) (h tp dir : Int) (eb hb wb : Nat) (aq : Option Addr) (w : World) : Prop :=
  w.cell? ⟨eb, 0, none⟩ = some (.slice ae q.length cq) ∧ w.cell? ⟨hb, 0, none⟩ = some (.int .i64 h) ∧ w.cell? ⟨wb, 0, none⟩ = some (.int .i64 tp) ∧ w.cell? ⟨wb, 1, none⟩ = some (.int .i64 dir) ∧ IntsS w aq (cutsW L q q.length)
theorem WMem.below {L : Int} {ae : Option Addr} {q : List Edc} {cq : Nat} {h tp dir : Int} {eb hb wb : Nat} {aq : Option Addr} {w w' : World} (g : WMem L ae q cq h tp dir eb hb wb aq w) (hw : Below w.heap.size w w') : WMem L ae q cq h tp dir eb hb wb aq w' := by
  obtain ⟨h1, h2, h3, h4, h5⟩ := g
  exact ⟨cell_below h1 hw, cell_below h2 hw, cell_below h3 hw, cell_below h4 hw, h5.below hw⟩
theorem ints_farC {w w' : World} {a : Option Addr} {l : List Int} (h : IntsS w a l) (hf : ∀ b o k n, w.cell? ⟨b, o, none⟩ = some (.int k n) → w'.heap[b]? = w.heap[b]?) : IntsS w' a l := by
  obtain ⟨h0, h1, blk, off, h2, h3⟩ := h
  exact ⟨h0, h1, blk, off, h2, fun i hi => (World.cell?_of_block (w := w) (w' := w') (a := ⟨blk, off + i, none⟩) (hf _ _ _ _ (h3 i hi))).trans (h3 i hi)⟩
theorem nil_box {w : World} {B b : Nat} {fr : Nat × Nat} (hB : w.heap[B]? = some (.cells #[.nilFunc, .slice none 0 0] 67 fr)) : (∀ o k n, w.cell? ⟨b, o, none⟩ = some (.int k n) → b ≠ B) ∧ (∀ a n c, w.cell? ⟨b, 0, none⟩ = some (.slice a n c) → b ≠ B) := by
  refine ⟨fun o k n hc e => ?_, fun a n c hc e => ?_⟩
  · subst e
    rw [cell_of_row w b o _ _ _ hB] at hc
    rcases o with _ | _ | o
    · simp at hc
    · simp at hc
    · simp at hc
  · subst e
    rw [cell_of_row w b 0 _ _ _ hB] at hc
    simp at hc
section
variable {w w' : World} {B1 B2 : Nat} {f1 f2 : Nat × Nat}
theorem far_int (h1 : w.heap[B1]? = some (.cells #[.nilFunc, .slice none 0 0] 67 f1)) (h2 : w.heap[B2]? = some (.cells #[.nilFunc, .slice none 0 0] 67 f2)) (hf : ∀ b, b ≠ B1 → b ≠ B2 → w'.heap[b]? = w.heap[b]?) : ∀ b o k n, w.cell? ⟨b, o, none⟩ = some (.int k n) → w'.heap[b]? = w.heap[b]? :=
  fun b o k n hc => hf b ((nil_box h1).1 o k n hc) ((nil_box h2).1 o k n hc)
theorem far_sl (h1 : w.heap[B1]? = some (.cells #[.nilFunc, .slice none 0 0] 67 f1)) (h2 : w.heap[B2]? = some (.cells #[.nilFunc, .slice none 0 0] 67 f2)) (hf : ∀ b, b ≠ B1 → b ≠ B2 → w'.heap[b]? = w.heap[b]?) : ∀ b a n c, w.cell? ⟨b, 0, none⟩ = some (.slice a n c) → w'.heap[b]? = w.heap[b]? :=
  fun b a n c hc => hf b ((nil_box h1).2 a n c hc) ((nil_box h2).2 a n c hc)
theorem TMem.kept {L : Int} {a : Option Addr} {js : List Int} {ca : Nat} {dir tp : Int} {row : List Pst} {ar : Option Addr} {cr rb wb lb : Nat} {aq : Option Addr} (h : TMem L a js ca dir tp row ar cr rb wb lb aq w) (h1 : w.heap[B1]? = some (.cells #[.nilFunc, .slice none 0 0] 67 f1)) (h2 : w.heap[B2]? = some (.cells #[.nilFunc, .slice none 0 0] 67 f2)) (hf : ∀ b, b ≠ B1 → b ≠ B2 → w'.heap[b]? = w.heap[b]?) : TMem L a js ca dir tp row ar cr rb wb lb aq w' := by
  obtain ⟨g1, g2, g3, g4, g5, g6, g7⟩ := h
  have hi := far_int (w' := w') h1 h2 hf
  have tr : ∀ b o v, w'.heap[b]? = w.heap[b]? → w.cell? ⟨b, o, none⟩ = some v → w'.cell? ⟨b, o, none⟩ = some v := fun b o v hb hc => (World.cell?_of_block (w := w) (w' := w') (a := ⟨b, o, none⟩) hb).trans hc
  exact ⟨pst_far g1 hi, tr _ _ _ (far_sl (w' := w') h1 h2 hf _ _ _ _ g2) g2, tr _ _ _ (hi _ _ _ _ g3) g3, tr _ _ _ (hi _ _ _ _ g3) g4, tr _ _ _ (hi _ _ _ _ g5) g5, tr _ _ _ (hi _ _ _ _ g5) g6, ints_farC g7 hi⟩
theorem WMem.kept {L : Int} {ae : Option Addr} {q : List Edc} {cq : Nat} {h tp dir : Int} {eb hb wb : Nat} {aq : Option Addr} (g : WMem L ae q cq h tp dir eb hb wb aq w) (h1 : w.heap[B1]? = some (.cells #[.nilFunc, .slice none 0 0] 67 f1)) (h2 : w.heap[B2]? = some (.cells #[.nilFunc, .slice none 0 0] 67 f2)) (hf : ∀ b, b ≠ B1 → b ≠ B2 → w'.heap[b]? = w.heap[b]?) : WMem L ae q cq h tp dir eb hb wb aq w' := by
  obtain ⟨g1, g2, g3, g4, g5⟩ := g
  have hi := far_int (w' := w') h1 h2 hf
  have tr : ∀ b o v, w'.heap[b]? = w.heap[b]? → w.cell? ⟨b, o, none⟩ = some v → w'.cell? ⟨b, o, none⟩ = some v := fun b o v hb hc => (World.cell?_of_block (w := w) (w' := w') (a := ⟨b, o, none⟩) hb).trans hc
  exact ⟨tr _ _ _ (far_sl (w' := w') h1 h2 hf _ _ _ _ g1) g1, tr _ _ _ (hi _ _ _ _ g2) g2, tr _ _ _ (hi _ _ _ _ g3) g3, tr _ _ _ (hi _ _ _ _ g3) g4, ints_farC g5 hi⟩
end
/-- Gaps: topic, direction, from, to, what holds, what must hold. -/
abbrev Gp6 := Int × Int × Qud
def cl6 (s : List Gp6) : List Value := s.flatMap fun p => [.int .i64 p.1, .int .i64 p.2.1, .int .i64 p.2.2.1, .int .i64 p.2.2.2.1, .int .i64 p.2.2.2.2.1, .int .i64 p.2.2.2.2.2]
theorem cl6_app (s : List Gp6) (p : Gp6) : cl6 (s ++ [p]) = cl6 s ++ [.int .i64 p.1, .int .i64 p.2.1, .int .i64 p.2.2.1, .int .i64 p.2.2.2.1, .int .i64 p.2.2.2.2.1, .int .i64 p.2.2.2.2.2] := by simp [cl6]
theorem gapInfo : (Tryz.prog.info? 80).map (fun i => (i.zero, i.size, i.bytes)) = some (some (.agg #[.int .i64 0, .int .i64 0, .int .i64 0, .int .i64 0, .int .i64 0, .int .i64 0]), 6, 48) := by kernel_rfl
def skG (v : Int × Int) : Bool := v.1 == v.2
/-- What holds and what must hold. -/
def bothF (L : Int) (js : List Int) (l : List Sgn) (q : List Edc) (h tp dir m : Int) : Int × Int := (hldV L js l h dir tp m, mustV q h tp dir m)
/-- The gaps of a way. -/
def gapW (L : Int) (js : List Int) (l : List Sgn) (q : List Edc) (h tp dir : Int) : List Gp6 := (strV skG (bothF L js l q h tp dir) L.toNat).map fun p => (tp, dir, p)
def tpK (k : Nat) : Int := if k < 2 then 1 else 2
def drK (k : Nat) : Int := if k = 0 ∨ k = 2 then 1 else -1
/-- The gaps of the first k ways. -/
def gapK (L : Int) (js : List Int) (l : List Sgn) (q : List Edc) (h : Int) : Nat → List Gp6
  | 0 => []
  | k + 1 => gapK L js l q h k ++ gapW L js l q h (tpK k) (drK k)
theorem both_cuts {L : Int} {js : List Int} {dir h tp : Int} {l : List Sgn} {q : List Edc} {row : List Pst} (hV : lstE L js l q = 0) (hd : dirB dir = true) (ht : tp ≠ 0) (H : RowL L js dir h l row) :
    (fltV skG (prtV (ascL (cutsK L dir row row.length ++ cutsW L q q.length)) (fun m => (hldL tp (begK L dir m) row 0, mustV q h tp dir m)) (ascL (cutsK L dir row row.length ++ cutsW L q q.length)).length)).map (fun p => ((tp, dir, p) : Gp6)) = gapW L js l q h tp dir := by
  obtain ⟨hl, hL1, hL2⟩ := lst_line hV
  obtain ⟨c1, c2, c3⟩ := told_cuts hV hd H
  obtain ⟨d1, d2, d3⟩ := want_cuts hV
  obtain ⟨hn1, hn2⟩ := sgn_nums (lst_sgns hV)
  obtain ⟨e1, e2, e3⟩ := asc_ends (cuts := cutsK L dir row row.length ++ cutsW L q q.length) (List.mem_append_left _ c1) (List.mem_append_left _ c2) (fun c hc => by
    rcases List.mem_append.1 hc with hc | hc
    · exact c3 c hc
    · exact d3 c hc)
  have := parts_all (sk := skG) (f := fun m => (hldL tp (begK L dir m) row 0, mustV q h tp dir m)) (asc_pw _) e1 e2 e3 (fun k hk i h1 h2 => asc_const (f := fun m => (hldL tp (begK L dir m) row 0, mustV q h tp dir m)) (fun a m hc => by
    show (_, _) = (_, _)
    rw [told_const (t := tp) hV hd H a m (fun c hc2 => hc c (List.mem_append_left _ hc2)), want_const (q := q) (h := h) (t := tp) (d := dir) a m (fun c hc2 => hc c (List.mem_append_right _ hc2))]) k hk i h1 h2)
  rw [this]
  unfold gapW
  rw [strV_congr (g := bothF L js l q h tp dir) _ (fun i hi => ?_)]
  show (_, _) = bothF L js l q h tp dir i
  unfold bothF
  rw [show hldL tp (begK L dir i) row 0 = hldV L js l h dir tp i from hld_ins hn2 ht (beg_bd (by omega) hL2 (by omega) (by omega)).2 H]
theorem flt_snoc {P : List Qud} {k : Nat} (hk : k < P.length) : fltV skG (P.take (k + 1)) = if (gtV P k).2.2.1 = (gtV P k).2.2.2 then fltV skG (P.take k) else fltV skG (P.take k) ++ [gtV P k] := by
  have e : gtV P k = P[k] := by unfold gtV; simp [hk]
  rw [List.take_add_one, List.getElem?_eq_getElem hk, Option.toList_some, fltV_snoc, e]
  by_cases h : P[k].2.2.1 = P[k].2.2.2
  · rw [if_pos h, if_pos (by unfold skG; simp [h]), List.append_nil]
  · rw [if_neg h, if_neg (by unfold skG; simpa using h)]
theorem fltV_len (P : List Qud) : (fltV skG P).length ≤ P.length := List.length_filter_le _ _
/-- Gaps in memory. -/
def gg6 (l : List Gp6) (i : Nat) : Gp6 := l.getD i (0, 0, 0, 0, 0, 0)
def GapS (w : World) (a : Option Addr) (l : List Gp6) : Prop :=
  l.length ≤ 9223372036854775807 ∧ ∃ blk off, (l ≠ [] → a = some ⟨blk, off, none⟩) ∧ ∀ i, i < l.length → w.cell? ⟨blk, off + i * 6, none⟩ = some (.int .i64 (gg6 l i).1) ∧ w.cell? ⟨blk, off + i * 6 + 1, none⟩ = some (.int .i64 (gg6 l i).2.1) ∧ w.cell? ⟨blk, off + i * 6 + 2, none⟩ = some (.int .i64 (gg6 l i).2.2.1) ∧ w.cell? ⟨blk, off + i * 6 + 3, none⟩ = some (.int .i64 (gg6 l i).2.2.2.1) ∧ w.cell? ⟨blk, off + i * 6 + 4, none⟩ = some (.int .i64 (gg6 l i).2.2.2.2.1) ∧ w.cell? ⟨blk, off + i * 6 + 5, none⟩ = some (.int .i64 (gg6 l i).2.2.2.2.2)
theorem GapS.below {w w' : World} {a : Option Addr} {l : List Gp6} (h : GapS w a l) (hb : Below w.heap.size w w') : GapS w' a l := by
  obtain ⟨h0, blk, off, h2, h3⟩ := h
  exact ⟨h0, blk, off, h2, fun i hi => by
    obtain ⟨c0, c1, c2, c3, c4, c5⟩ := h3 i hi
    exact ⟨cell_below c0 hb, cell_below c1 hb, cell_below c2 hb, cell_below c3 hb, cell_below c4 hb, cell_below c5 hb⟩⟩
theorem cl6_c : ∀ (s : List Gp6) (i : Nat), i < s.length → (cl6 s)[i * 6]? = some (.int .i64 (gg6 s i).1) ∧ (cl6 s)[i * 6 + 1]? = some (.int .i64 (gg6 s i).2.1) ∧ (cl6 s)[i * 6 + 2]? = some (.int .i64 (gg6 s i).2.2.1) ∧ (cl6 s)[i * 6 + 3]? = some (.int .i64 (gg6 s i).2.2.2.1) ∧ (cl6 s)[i * 6 + 4]? = some (.int .i64 (gg6 s i).2.2.2.2.1) ∧ (cl6 s)[i * 6 + 5]? = some (.int .i64 (gg6 s i).2.2.2.2.2)
  | [], i, hi => by simp at hi
  | p :: s, 0, hi => by simp [cl6, gg6]
  | p :: s, i + 1, hi => by
    have ih := cl6_c s i (by simpa using hi)
    have e : ∀ c, c < 6 → (cl6 (p :: s))[(i + 1) * 6 + c]? = (cl6 s)[i * 6 + c]? := fun c hc => by
      unfold cl6
      rw [List.flatMap_cons, List.getElem?_append_right (by simp; omega), show (i + 1) * 6 + c - [Value.int .i64 p.1, .int .i64 p.2.1, .int .i64 p.2.2.1, .int .i64 p.2.2.2.1, .int .i64 p.2.2.2.2.1, .int .i64 p.2.2.2.2.2].length = i * 6 + c from by simp; omega]
    have g : gg6 (p :: s) (i + 1) = gg6 s i := rfl
    rw [g]
    exact ⟨(e 0 (by omega)).trans ih.1, (e 1 (by omega)).trans ih.2.1, (e 2 (by omega)).trans ih.2.2.1, (e 3 (by omega)).trans ih.2.2.2.1, (e 4 (by omega)).trans ih.2.2.2.2.1, (e 5 (by omega)).trans ih.2.2.2.2.2⟩
theorem gap_own {w : World} {base c : Nat} {a : Option Addr} {s : List Gp6} (h : w.ownsRow base 80 6 (.slice a s.length c) s.length (cl6 s)) (hn : s.length ≤ 9223372036854775807) : GapS w a s := by
  rcases h.2 with ⟨h1, h2⟩ | ⟨g2, c2, cur, h1, _⟩
  · have hs := List.eq_nil_of_length_eq_zero h2
    subst hs
    exact ⟨hn, 0, 0, fun h => absurd rfl h, fun i hi => absurd hi (Nat.not_lt_zero _)⟩
  · obtain ⟨rfl, rfl⟩ : a = some ⟨g2, 0, none⟩ ∧ c = c2 := by simpa using h1
    refine ⟨hn, g2, 0, fun _ => rfl, fun i hi => ?_⟩
    have hh := cl6_c s i hi
    rw [Nat.zero_add]
    refine ⟨?_, ?_, ?_, ?_, ?_, ?_⟩
    · rw [World.ownsRow.cellAt h (i * 6) (by omega)]; exact hh.1
    · rw [World.ownsRow.cellAt h (i * 6 + 1) (by omega)]; exact hh.2.1
    · rw [World.ownsRow.cellAt h (i * 6 + 2) (by omega)]; exact hh.2.2.1
    · rw [World.ownsRow.cellAt h (i * 6 + 3) (by omega)]; exact hh.2.2.2.1
    · rw [World.ownsRow.cellAt h (i * 6 + 4) (by omega)]; exact hh.2.2.2.2.1
    · rw [World.ownsRow.cellAt h (i * 6 + 5) (by omega)]; exact hh.2.2.2.2.2
/-- Gaps with an error. -/
def GapA (M : List Gp6) (E : Int) (w : World) (e : Ending) (w' : World) : Prop := ∃ b c, e = .returned (.tuple #[.slice b M.length c, .int .i64 E]) ∧ GapS w' b M ∧ Below w.heap.size w w'
end Go.Proofs.YtneafbhiencjlaaGreatDoor

namespace Go.Proofs.YtneafbhiencjlaaGreatDoor
set_option linter.unusedVariables false
set_option linter.unusedSimpArgs false
open Go.RowKit Go.ChangeShapes Go.WideShapes Go.ChangeAt

section
variable {P : Program} {W : World}
theorem laid_hereU {name : String} {d : DataW Unit} {rest : List (String × DataW Unit)} {g : Nat} {t : TypeId} (hg : P.globalNamed name = some g) (hty : (P.globals[g]?).map (·.type) = some t)
    (h : laidMet P ((name, d) :: rest) W) : ∃ cs fuel p, W.var? P name = some cs ∧ DataW.trod (fun _ => ()) P W 0 (fun _ => true) false fuel t cs.toList = some (d, p) := by
  obtain ⟨ps, ⟨g', t', cs, fuel, p, q, hg', ht', hvar, hd, _, _⟩, _⟩ := h
  obtain rfl := Option.some.inj (hg.symm.trans hg')
  obtain rfl := Option.some.inj (hty.symm.trans ht')
  exact ⟨cs, fuel, p, hvar, hd⟩
theorem laid_memU {name : String} {d : DataW Unit} {g : Nat} {t : TypeId} (hg : P.globalNamed name = some g) (hty : (P.globals[g]?).map (·.type) = some t) :
    ∀ {l : List (String × DataW Unit)}, laidMet P l W → (name, d) ∈ l → ∃ cs fuel p, W.var? P name = some cs ∧ DataW.trod (fun _ => ()) P W 0 (fun _ => true) false fuel t cs.toList = some (d, p)
  | [], _, hm => by cases hm
  | x :: r, h, hm => by
    rcases List.mem_cons.1 hm with rfl | hm
    · exact laid_hereU hg hty h
    · exact laid_memU hg hty h.tail hm
theorem take_partU {l : List Value} {a b c : Nat} {v : Value} (hc : c < b) (h : ((((l.drop a).take b)).drop c).take 1 = [v]) : l[a + c]? = some v := by
  have h0 : ((((l.drop a).take b).drop c).take 1)[0]? = some v := by rw [h]; rfl
  simp [hc] at h0
  exact h0
variable {H : Type} {enc : TypeId × Value → H} {base : Nat} {sp : Nat → Bool} {held : Bool} {fuel : Nat}
theorem pairs_of_trodU {t e : TypeId} {n : Nat} {f0 f1 : Field} {k : IntKind} {cs : List Value} {p : List MemPlace} {ks : List (Int × Int)} (ht : P.underlying t = some (.array n e)) (he : P.underlying e = some (.struct #[f0, f1])) (hce : P.cellsOf e = 2) (hn : ks.length = n)
    (o0 : f0.offset = 0) (o1 : f1.offset = 1) (c0 : P.cellsOf f0.type = 1) (c1 : P.cellsOf f1.type = 1)
    (t0 : P.underlying f0.type = some (.int k)) (t1 : P.underlying f1.type = some (.int k))
    (h : DataW.trod enc P W base sp held fuel t cs = some (.agg (ks.map fun x => .agg [.lit (.int k x.1), .lit (.int k x.2)]), p)) (i : Nat) (hi : i < ks.length) :
    cs[i * 2]? = some (.int k ks[i].1) ∧ cs[i * 2 + 1]? = some (.int k ks[i].2) := by
  obtain ⟨xs, m, _, ex, _, hl, hel⟩ := DataW.trod_array ht h
  have hE := hel i (by omega)
  rw [hce, List.getElem?_eq_getElem (by omega)] at hE
  have e3 := (DataW.agg.inj (Prod.mk.inj ex).1).symm
  have e4 := congrArg (·[i]?) e3
  simp only [List.getElem?_map, List.getElem?_eq_getElem (by omega : i < xs.length), List.getElem?_eq_getElem hi, Option.map_some, Option.some.injEq] at e4
  obtain ⟨ys, n', _, ey, _, hyl, hf⟩ := DataW.trod_struct he hE
  have g0 := hf 0 f0 rfl
  have g1 := hf 1 f1 rfl
  rw [o0, c0] at g0
  rw [o1, c1] at g1
  match ys, hyl with
  | [y0, y1], _ =>
    simp only [List.getElem?_cons_zero, List.getElem?_cons_succ] at g0 g1
    obtain ⟨z, a0, b0, _⟩ := DataW.trod_int t0 g0
    obtain ⟨z1, a1, b1, _⟩ := DataW.trod_int t1 g1
    rw [ey] at e4
    subst b0 b1
    simp only [List.map_cons, List.map_nil, DataW.agg.injEq, List.cons.injEq, DataW.lit.injEq, Lit.int.injEq, and_true, true_and] at e4
    obtain ⟨q0, q1⟩ := e4
    have r0 := take_partU (by decide) a0
    have r1 := take_partU (by decide) a1
    rw [q0] at r0
    rw [q1] at r1
    exact ⟨r0, r1⟩
theorem low_leU (h : W.ShapedOpen P) (hg : P.globals.size < P.low) : P.low ≤ W.heap.size := by
  obtain ⟨o, _, ho, _⟩ := h.2 (P.low - 1) (by omega) (by show P.low - 1 < P.low; omega)
  have : P.low - 1 < W.heap.size := by
    apply Nat.lt_of_not_le
    intro hle
    rw [Array.getElem?_eq_none hle] at ho
    cases ho
  omega
end
theorem gWays : Tryz.prog.globalNamed "blazon/rule.ways" = some 0 := by kernel_rfl
theorem yWays : (Tryz.prog.globals[0]?).map (·.type) = some 60 := by kernel_rfl
theorem cWay : Tryz.prog.cellsOf 59 = 2 := by kernel_rfl
theorem cIntU : Tryz.prog.cellsOf 3 = 1 := by kernel_rfl
theorem lowPU : (decide (0 < Tryz.prog.low)) = true := by kernel_rfl
def wRows : List (Int × Int) := [(1, 1), (1, -1), (2, 1), (2, -1)]
theorem tabs_ofU {W : World} {l : List (String × DataW Unit)} (h : laidMet Tryz.prog l W) (hsh : W.ShapedOpen Tryz.prog)
    (m0 : ("blazon/rule.ways", Rows.laid_blazon_rule_ways) ∈ l) : WayTab W := by
  have hlow : 0 < W.heap.size := by
    have h1 := of_decide_eq_true lowPU
    have h2 := low_leU hsh (of_decide_eq_true (by kernel_rfl))
    omega
  obtain ⟨cs0, f0, p0, v0, d0⟩ := laid_memU gWays yWays h m0
  have hp := pairs_of_trodU (ks := wRows) Tryz.underlying60 Tryz.underlying59 cWay rfl rfl rfl cIntU cIntU Tryz.underlying3 Tryz.underlying3 d0
  have e0 := hp 0 (by decide)
  have e1 := hp 1 (by decide)
  have e2 := hp 2 (by decide)
  have e3 := hp 3 (by decide)
  simp only [Array.getElem?_toList] at e0 e1 e2 e3
  refine ⟨hlow, ?_, ?_, ?_, ?_, ?_, ?_, ?_, ?_⟩ <;> rw [World.var?_cell gWays v0]
  · exact e0.1
  · exact e0.2
  · exact e1.1
  · exact e1.2
  · exact e2.1
  · exact e2.2
  · exact e3.1
  · exact e3.2
end Go.Proofs.YtneafbhiencjlaaGreatDoor
