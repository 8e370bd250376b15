/-
  Library functions laid at this program, in plain words. By an AI agent.; append of a slice that has no elements, whatever its address and its capacity: the slice stays. By an AI agent.; slices.Concat of two lists of ints. By an AI agent.; Lines and edicts that are valid, as lists say it. By an AI agent.; Rows of edicts as values; rows beside a box of another type. By an AI agent.
-/
import Derived.Test.YtlpdjinhkmgbgaaGreatDoorMgRuleWays2
import Derived.Test.YtlpdjinhkmgbgaaGreatDoorMgRuleWays9
import Derived.Test.YtlpdjinhkmgbgaaGreatDoorMgRuleWays10
import Derived.Shelf.Spec.SlicesGrow
import Derived.Ground.Names8Prog
import Derived.Test.YtlpdjinhkmgbgaaGreatDoorProg
import Derived.Deep.AppendLies
import Derived.Laws.AppendOwnNone
import Derived.Deep.RegionHeld3
import Derived.Deep.DeepCutAuto
import Derived.BigQuiet
import Derived.BigRegion
import Derived.StillTailTactics
import Derived.Laws.AppendOwn

namespace Go.Proofs
open Go.Shelf
def Tryz.laysGrowI_ren : Go.Shelf.Ren := ⟨fun | 4 => 76 | n => n, fun | 22 => 22 | 25 => 3 | 3 => 3 | 4 => 4 | 9 => 9 | 20 => 20 | 0 => 0 | n => n, fun | n => n⟩
theorem Tryz.laysGrowI : Go.Proofs.Lays8.n4 Tryz.prog Tryz.laysGrowI_ren := {
  mixed := by kernel_rfl
  f4 := ⟨Tryz.f76.name, by decide, Tryz.func76.trans (congrArg some (by kernel_rfl))⟩
  t0 := Tryz.underlying0
  a0 := Tryz.isAgg0
  z0 := Tryz.sizeOf0
  v0 := Tryz.zeroValue0
  t3 := Tryz.underlying3
  a3 := Tryz.isAgg3
  z3 := Tryz.sizeOf3
  v3 := Tryz.zeroValue3
  t4 := Tryz.underlying4
  a4 := Tryz.isAgg4
  z4 := Tryz.sizeOf4
  v4 := Tryz.zeroValue4
  t9 := Tryz.underlying9
  a9 := Tryz.isAgg9
  z9 := Tryz.sizeOf9
  v9 := Tryz.zeroValue9
  t20 := Tryz.underlying20
  a20 := Tryz.isAgg20
  z20 := Tryz.sizeOf20
  v20 := Tryz.zeroValue20
  t22 := Tryz.underlying22
  a22 := Tryz.isAgg22
  z22 := Tryz.sizeOf22
  v22 := Tryz.zeroValue22 }
end Go.Proofs

namespace Go.Proofs.YtlpdjinhkmgbgaaGreatDoor
set_option linter.unusedVariables false
set_option linter.unusedSimpArgs false
theorem loadNoneZ (P : Program) (w : World) (a : Addr) : (loadCells a 0).run P w = .ok #[] w := rfl
theorem run_append_zed {P : Program} {w : World} (base : Nat) (t ty e : TypeId) (i : TypeInfo) (size : Nat) (ht : P.underlying t = some (.slice e)) (hi : P.info? e = some i)
    (v : Value) (n : Nat) (xs : List Value) (hown : w.ownsRow base e size v n xs) (ao : Option Addr) (c : Nat) :
    (Builtin.append_ #[t, t] ty #[v, .slice ao 0 c]).run P w = .ok v w := by
  rcases hown.2 with ⟨rfl, rfl⟩ | ⟨g, cap, cur, rfl, _, _, hnc, _⟩
  · cases ao <;> simp [Builtin.append_, run_underlying ht, sizeOf, typeInfo, hi, Builtin.lenOf, Builtin.firstCells, loadNoneZ, Result.andThen]
  · cases ao <;> simp [Builtin.append_, run_underlying ht, sizeOf, typeInfo, hi, Builtin.lenOf, Builtin.firstCells, hnc, storeCells, loadNoneZ, Result.andThen]
theorem wpList_append_zed {P : Program} {w : World} {ops : Array Oper} {rest : List Oper} {o : Oper} {a : Act} {Q : Exit → Act → World → Prop} (hgd : o.guard = none) (s x : Operand) (t : TypeId)
    (ho : o.op = .call { callee := .builtin .append, args := #[s, x], argTypes := #[t, t] })
    (base : Nat) (e : TypeId) (i : TypeInfo) (size : Nat) (ht : P.underlying t = some (.slice e)) (hi : P.info? e = some i)
    (v : Value) (n : Nat) (xs : List Value) (hs : a.eval s = v) (hown : w.ownsRow base e size v n xs) (ao : Option Addr) (c : Nat) (hx : a.eval x = .slice ao 0 c)
    (h : wpList P ops Q rest (a.put o.dst v) w) : wpList P ops Q (o :: rest) a w := by
  refine wpList_plain hgd fun K hK => ?_
  have hrun := run_append_zed (P := P) (w := w) base t o.type e i size ht hi v n xs hown ao c
  unfold Oper.wp
  simp [execOp, ho, resolve, invoke, builtin, hs, hx, hrun, Result.andThen]
  exact hK _ _ h
end Go.Proofs.YtlpdjinhkmgbgaaGreatDoor

namespace Go.Proofs.YtlpdjinhkmgbgaaGreatDoor
set_option linter.unusedVariables false
set_option linter.unusedSimpArgs false
open Go.RowKit

theorem cJ_len (s : List Int) : (clI s).length = s.length * 1 := by unfold clI; simp
theorem cJ_app (s t : List Int) : clI (s ++ t) = clI s ++ clI t := by unfold clI; simp
theorem cJ_one (s : List Int) : ∀ x, x ∈ clI s → x.oneCell' = true := fun x hx => by
  unfold clI at hx
  obtain ⟨y, -, rfl⟩ := List.mem_map.1 hx
  rfl
theorem app_ints {ops : Array Oper} {rest : List Oper} {o : Oper} {a : Act} {Q : Exit → Act → World → Prop} (w : World) (hgd : o.guard = none) (s x : Operand)
    (ho : o.op = .call { callee := .builtin .append, args := #[s, x], argTypes := #[22, 22] })
    (base : Nat) (b : Option Addr) (n c : Nat) (xs : List Value) (hs : a.eval s = .slice b n c) (hown : w.ownsRow base 3 1 (.slice b n c) n xs)
    (ax : Option Addr) (l : List Int) (cx : Nat) (hx : a.eval x = .slice ax l.length cx) (hP : IntsS w ax l) (hlen : n + l.length ≤ 100000000) (hbase : base ≤ w.heap.size)
    (h : ∀ b' c' w', w'.ownsRow base 3 1 (.slice b' (n + l.length) c') (n + l.length) (xs ++ clI l) → Below base w w' → wpList Tryz.prog ops Q rest (a.put o.dst (.slice b' (n + l.length) c')) w') : wpList Tryz.prog ops Q (o :: rest) a w := by
  obtain ⟨n0, hi, hz0, hz1, hz2⟩ := info_parts infoInt
  by_cases h0 : l.length = 0
  · have hl := List.eq_nil_of_length_eq_zero h0
    subst hl
    refine wpList_append_zed hgd s x 22 ho base 3 n0 1 Tryz.underlying22 hi (.slice b n c) n xs hs hown ax cx hx ?_
    have := h b c w (by rw [show clI [] = [] from rfl, List.append_nil]; exact hown) (Below.refl _ _)
    exact this
  · obtain ⟨-, -, blk, off, hadr, hcell⟩ := hP
    obtain rfl := hadr (by rintro rfl; exact h0 rfl)
    refine wpList_append_lies w hgd s x 22 ho base 3 n0 _ 1 8 Tryz.underlying22 hi hz0 hz1 hz2 rfl (by decide) (.slice b n c) n xs hs hown ⟨blk, off, none⟩ l.length cx (clI l) hx (cJ_len l) (fun j u hu => ?_) (cJ_one l) (by omega) (by unfold maxLen; omega) (by omega) hbase _ rfl ?_
    · have hj : j < l.length := by
        have := (List.getElem?_eq_some_iff.1 hu).1
        rw [cJ_len] at this
        omega
      rw [Addr.add_lit]
      rw [clI_get l hj] at hu
      rw [hcell j hj]
      exact hu
    · intro g cap w' h1 h2 _ _
      exact h _ _ _ h1 ((Below.refl _ _).grown h2 hbase (fun z hz => owns_blockI hown hz))
set_option maxRecDepth 100000 in
set_option maxHeartbeats 4000000 in
theorem grow_r (n : Nat) (w : World) (h0 : 0 < n) (hn : n ≤ 1000000) : Calls Tryz.prog 76 #[.slice none 0 0, .int .i64 n] w fun e w' => ∃ a c, e = .returned (.slice a 0 c) ∧ w'.ownsRow w.heap.size 3 1 (.slice a 0 c) 0 [] ∧ Below w.heap.size w w' := by
  obtain ⟨n0, hi, hz0, hz1, hz2⟩ := info_parts infoInt
  have hg := grownCap_ge w (0 + n) 0 3
  have hg2 := grownCap_le_maxLen w (0 + n) 0 3 (by unfold maxLen; omega)
  refine (Any8.slices_Grow_grow Tryz.laysGrowI n0 (.int .i64 0) hi hz0 (by rw [hz1]; decide) none 0 0 n [] w (Nat.le_refl _) (by omega) (by rw [hz2]; omega) (by omega) (by simp) (fun _ => rfl) (fun a ha => by cases ha)).mono ?_
  rintro e w' ⟨rfl, rfl⟩
  refine ⟨_, _, rfl, ?_, ((Below.refl _ _).drew).alloc (Nat.le_refl _) _⟩
  refine ⟨rfl, .inr ⟨w.heap.size, _, _, rfl, Nat.le_refl _, heap_alloc_new _ _, Nat.zero_le _, hg2, ?_, rfl⟩⟩
  rw [Array.size_append, Array.size_append, size_zeroCells, size_zeroCells]
  simp [Value.cells]
  rw [Nat.zero_add] at hg
  have hg : n ≤ grownCap w n 0 (Tryz.laysGrowI_ren.t 25) := hg
  omega
/-- How many have been counted. -/
def szC (m n : Nat) (k : Nat) : Int := if k = 0 then 0 else if k = 1 then m else m + n
def preC (A B : List Int) (k : Nat) : List Int := if k = 0 then [] else if k = 1 then A else A ++ B
set_option maxRecDepth 100000 in
set_option maxHeartbeats 4000000 in
theorem concat2_r (gb : Nat) (a1 a2 : Option Addr) (A B : List Int) (c1 c2 : Nat) (w : World) (hA : IntsS w a1 A) (hB : IntsS w a2 B) (h0 : 0 < A.length) (hl : A.length + B.length ≤ 100000) (x0 : w.cell? ⟨gb, 0, none⟩ = some (.slice a1 A.length c1)) (x1 : w.cell? ⟨gb, 1, none⟩ = some (.slice a2 B.length c2)) :
    Calls Tryz.prog 33 #[.slice (some ⟨gb, 0, none⟩) 2 2] w fun e w' => ∃ a c, e = .returned (.slice a (A ++ B).length c) ∧ w'.ownsRow w.heap.size 3 1 (.slice a (A ++ B).length c) (A ++ B).length (clI (A ++ B)) ∧ Below w.heap.size w w' := by
  have S0 : szC A.length B.length 0 = 0 := rfl
  have HS1 : Hid (szC A.length B.length 1 = A.length) := Lib.hid rfl
  have HS2 : Hid (szC A.length B.length 2 = A.length + B.length) := Lib.hid rfl
  have HG := Lib.hid (fun W => grow_r (A.length + B.length) W (by omega) (by omega))
  have HP0 : Hid (preC A B 0 = []) := Lib.hid rfl
  have HP1 : Hid (preC A B 1 = A) := Lib.hid rfl
  have HP2 : Hid (preC A B 2 = A ++ B) := Lib.hid rfl
  have HAI := Lib.hid hA
  have HBI := Lib.hid hB
  have X0 := Lib.hid x0
  have X1 := Lib.hid x1
  clear hA hB
  go_enter Tryz.func33, Tryz.ntmps33
  go_wp2_with fail
  go_loop [3, 11] (fun s i => ∃ k : Nat, k ≤ 2 ∧ i = .int .i64 k ∧ s = .int .i64 (szC A.length B.length k)) (fun _ i => 2 - (intOf i).toNat)
  case atStart => exact ⟨0, by omega, rfl, rfl⟩
  case round =>
    obtain ⟨k, hk, rfl, rfl⟩ := hrel
    rcases (by omega : k = 0 ∨ k = 1 ∨ k = 2) with rfl | rfl | rfl
    · have hw1 : IntKind.i64.wrap (0 + (A.length : Int)) = A.length := by rw [Int.zero_add]; exact IntWalk.i64_in _ (by omega)
      have hw2 : ¬ ((A.length : Int) < 0) := by omega
      go_wp2_with fail
      go_round
      case rel => exact ⟨1, by omega, rfl, by rw [HS1.out]⟩
      case measure => simp [intOf]
    · rw [HS1.out]
      have hw1 : IntKind.i64.wrap ((A.length : Int) + (B.length : Int)) = A.length + B.length := IntWalk.i64_in _ (by omega)
      have hw2 : ¬ ((A.length : Int) + (B.length : Int) < 0) := by omega
      go_wp2_with fail
      go_round
      case rel => exact ⟨2, by omega, rfl, by rw [HS2.out]⟩
      case measure => simp [intOf]
    · rw [HS2.out]
      have hsum : (A.length : Int) + (B.length : Int) = ((A.length + B.length : Nat) : Int) := by omega
      rw [hsum]
      clear hsum
      go_wp2_with (go_at_call 76; refine (HG.out _).mono ?_; rintro e w1 ⟨ag, cg, rfl, ho1, hb1⟩; have HO1 := Lib.hid ho1; clear ho1)
      go_loopw [6, 27] (fun v i wr => ∃ (k : Nat) (a : Option Addr) (c : Nat), k ≤ 2 ∧ i = .int .i64 k ∧ v = .slice a (preC A B k).length c ∧ Hid (wr.ownsRow w.heap.size 3 1 (.slice a (preC A B k).length c) (preC A B k).length (clI (preC A B k))) ∧ Below w.heap.size w wr) (fun _ i _ => 2 - (intOf i).toNat)
      case atStart => exact ⟨0, ag, cg, by omega, rfl, by rw [HP0.out]; rfl, Lib.hid (by rw [HP0.out]; exact HO1.out), hb1⟩
      case round =>
        obtain ⟨k, av, cv, hk, rfl, rfl, HRow, hbr⟩ := hrel
        have x0 := cell_below X0.out hbr
        have x1 := cell_below X1.out hbr
        rcases (by omega : k = 0 ∨ k = 1 ∨ k = 2) with rfl | rfl | rfl
        · rw [HP0.out] at HRow ⊢
          have HN : Hid (A.length = (preC A B 1).length ∧ clI A = clI (preC A B 1)) := Lib.hid (by rw [HP1.out]; exact ⟨rfl, rfl⟩)
          have hAw := Lib.hid (HAI.out.below hbr)
          go_wp2_with (first | (at_builtin; go_loud (refine app_ints _ rfl _ _ rfl w.heap.size av 0 cv [] (by rfl) HRow.out a1 A c1 (by rfl) hAw.out (by omega) hbr.size ?_)))
          intro b' c' w' hown' hb'
          have HO' := Lib.hid hown'
          clear hown' HRow
          go_wp2_with fail
          go_roundw
          case rel => exact ⟨1, b', c', by omega, rfl, by rw [← HN.out.1], Lib.hid (by rw [← HN.out.1, ← HN.out.2]; exact HO'.out), hbr.trans hb'⟩
          case measure => simp [intOf]
        · rw [HP1.out] at HRow ⊢
          have HN : Hid (A.length + B.length = (preC A B 2).length ∧ clI A ++ clI B = clI (preC A B 2)) := Lib.hid (by rw [HP2.out, cJ_app, List.length_append]; exact ⟨rfl, rfl⟩)
          have hBw := Lib.hid (HBI.out.below hbr)
          go_wp2_with (first | (at_builtin; go_loud (refine app_ints _ rfl _ _ rfl w.heap.size av A.length cv (clI A) (by rfl) HRow.out a2 B c2 (by rfl) hBw.out (by omega) hbr.size ?_)))
          intro b' c' w' hown' hb'
          have HO' := Lib.hid hown'
          clear hown' HRow
          go_wp2_with fail
          go_roundw
          case rel => exact ⟨2, b', c', by omega, rfl, by rw [← HN.out.1], Lib.hid (by rw [← HN.out.1, ← HN.out.2]; exact HO'.out), hbr.trans hb'⟩
          case measure => simp [intOf]
        · rw [HP2.out] at HRow ⊢
          go_wp2_with fail
          go_ret
          exact ⟨av, cv, rfl, HRow.out, hbr⟩
end Go.Proofs.YtlpdjinhkmgbgaaGreatDoor

namespace Go.Proofs.YtlpdjinhkmgbgaaGreatDoor
set_option linter.unusedVariables false
set_option linter.unusedSimpArgs false
open Go.RowKit

theorem line_iff (L : Int) (js : List Int) : lineB L js = true ↔ (1 ≤ L ∧ L ≤ 100000) ∧ js.length ≤ 50 ∧ (∀ x, x ∈ js → 0 < x ∧ x < L) ∧ js.Pairwise (· < ·) := by
  constructor
  · intro h
    have hj : ∀ k, k < js.length → jOk L js k = true := fun k hk => by
      cases e : jOk L js k with
      | true => rfl
      | false => rw [line_bad hk e] at h; cases h
    have h2 := line_end (L := L) (js := js) hj
    rw [h] at h2
    have h2 := h2.symm
    rw [Bool.and_eq_true, decide_eq_true_eq] at h2
    have hstep : ∀ k, k < js.length → prvR js k < gi js k ∧ gi js k < L := fun k hk => by
      have := hj k hk
      unfold jOk at this
      simpa using this
    refine ⟨by have := btw_ge h2.1; exact this, h2.2, fun x hx => ?_, ?_⟩
    · obtain ⟨k, hk, rfl⟩ := List.getElem_of_mem hx
      have h3 := hstep k hk
      have h4 := jOk_pos k (fun j hj' => hj j (by omega))
      rw [gi_at _ hk] at h3
      omega
    · rw [List.pairwise_iff_getElem]
      intro i j hi hj' hij
      induction j with
      | zero => omega
      | succ j ih =>
        have h3 := (hstep (j + 1) hj').1
        rw [gi_at _ hj'] at h3
        have h4 : prvR js (j + 1) = js[j]'(by omega) := by rw [prvR, gi_at _ (by omega)]
        by_cases e : i = j
        · subst e; omega
        · have := ih (by omega) (by omega); omega
  · rintro ⟨hL, hl, hx, hp⟩
    rw [line_end, Bool.and_eq_true, decide_eq_true_eq]
    · exact ⟨by unfold btw; simp; exact hL, hl⟩
    · intro k hk
      unfold jOk
      rw [Bool.and_eq_true, decide_eq_true_eq, decide_eq_true_eq, gi_at _ hk]
      refine ⟨?_, (hx _ (List.getElem_mem hk)).2⟩
      cases k with
      | zero => exact (hx _ (List.getElem_mem hk)).1
      | succ k =>
        rw [prvR, gi_at _ (by omega)]
        exact (List.pairwise_iff_getElem.1 hp) k (k + 1) (by omega) hk (by omega)
theorem edcs_iff (L : Int) (js : List Int) (q : List Edc) : edcsB L js q = true ↔ lineB L js = true ∧ q.length ≤ 50 ∧ (∀ x, x ∈ q → (btw x.n 1 1000000000 = true ∧ edcB L x = true)) ∧ (q.map (·.n)).Nodup := by
  have ge_at : ∀ {k : Nat} (hk : k < q.length), ge q k = q[k] := fun {k} hk => by unfold ge; simp [hk]
  have hat : ∀ x, x ∈ q → ∃ k, k < q.length ∧ ge q k = x := fun x hx => by
    obtain ⟨k, hk, e⟩ := List.getElem_of_mem hx
    exact ⟨k, hk, by rw [ge_at hk, e]⟩
  constructor
  · intro h
    refine ⟨edcs_line h, ?_, fun x hx => ?_, ?_⟩
    · by_cases h9 : 50 < q.length
      · rw [e_bad9 h9] at h; cases h
      · omega
    · obtain ⟨k, hk, rfl⟩ := hat x hx
      constructor
      · cases e : btw (ge q k).n 1 1000000000 with
        | true => rfl
        | false => rw [e_bad1 hk e] at h; cases h
      · cases e : edcB L (ge q k) with
        | true => rfl
        | false => rw [e_bad2 hk e] at h; cases h
    · rw [List.nodup_iff_pairwise_ne, List.pairwise_iff_getElem]
      intro i j hi hj hij e
      rw [List.getElem_map, List.getElem_map] at e
      have hi : i < q.length := by simpa using hi
      have hj : j < q.length := by simpa using hj
      rw [← ge_at hi, ← ge_at hj] at e
      rw [e_bad3 hj hij e] at h; cases h
  · rintro ⟨h0, h9, h, hn⟩
    refine e_end h0 h9 fun k hk => ?_
    have hm : ge q k ∈ q := by rw [ge_at hk]; exact List.getElem_mem hk
    refine ⟨(h _ hm).1, (h _ hm).2, fun j hj e => ?_⟩
    rw [List.nodup_iff_pairwise_ne, List.pairwise_iff_getElem] at hn
    refine hn j k (by simpa using (by omega : j < q.length)) (by simpa using hk) hj ?_
    rw [List.getElem_map, List.getElem_map, ← ge_at (by omega : j < q.length), ← ge_at hk]
    exact e
end Go.Proofs.YtlpdjinhkmgbgaaGreatDoor

namespace Go.Proofs.YtlpdjinhkmgbgaaGreatDoor
set_option linter.unusedVariables false
set_option linter.unusedSimpArgs false
open Go.RowKit

instance : Inhabited Edc := ⟨⟨0, 0, 0, 0, 0, 0, 0, 0⟩⟩
def encE (x : Edc) : List Value := [.int .i64 x.n, .int .i64 x.tp, .int .i64 x.v, .int .i64 x.d, .int .i64 x.fr, .int .i64 x.tt, .int .i64 x.st, .int .i64 x.en]
theorem encE_len (x : Edc) : (encE x).length = 8 := rfl
def clE (s : List Edc) : List Value := s.flatMap encE
theorem clE_app (s t : List Edc) : clE (s ++ t) = clE s ++ clE t := by simp [clE]
theorem clE_len (s : List Edc) : (clE s).length = s.length * 8 := by
  induction s with
  | nil => rfl
  | cons p s ih => unfold clE at *; rw [List.flatMap_cons, List.length_append, ih, encE_len, List.length_cons]; omega
theorem clE_one (s : List Edc) : ∀ v ∈ clE s, v.oneCell' = true := by
  intro v hv
  unfold clE at hv
  rw [List.mem_flatMap] at hv
  obtain ⟨p, _, h⟩ := hv
  simp [encE] at h
  rcases h with rfl | rfl | rfl | rfl | rfl | rfl | rfl | rfl <;> rfl
theorem clE_c : ∀ (s : List Edc) (i : Nat), i < s.length → ∀ c, c < 8 → (clE s)[i * 8 + c]? = (encE s[i]!)[c]?
  | [], i, hi, c, hc => by simp at hi
  | p :: s, 0, hi, c, hc => by
    unfold clE
    rw [List.flatMap_cons, List.getElem?_append_left (by rw [encE_len]; omega), Nat.zero_mul, Nat.zero_add]; rfl
  | p :: s, i + 1, hi, c, hc => by
    have ih := clE_c s i (by simpa using hi) c hc
    unfold clE at *
    rw [List.flatMap_cons, List.getElem?_append_right (by rw [encE_len]; omega), encE_len, show (i + 1) * 8 + c - 8 = i * 8 + c by omega, ih]
    rfl
theorem clE_take : ∀ (s : List Edc) (k : Nat), (clE s).take (k * 8) = clE (s.take k)
  | s, 0 => by simp [clE]
  | [], k + 1 => by simp [clE]
  | p :: s, k + 1 => by
    have ih := clE_take s k
    unfold clE at *
    rw [List.take_succ_cons, List.flatMap_cons, List.flatMap_cons, List.take_append, List.take_of_length_le (by rw [encE_len]; omega), encE_len, show (k + 1) * 8 - 8 = k * 8 by omega, ih]
theorem clE_drop : ∀ (s : List Edc) (k : Nat), (clE s).drop (k * 8) = clE (s.drop k)
  | s, 0 => by simp [clE]
  | [], k + 1 => by simp [clE]
  | p :: s, k + 1 => by
    have ih := clE_drop s k
    unfold clE at *
    rw [List.drop_succ_cons, List.flatMap_cons, List.drop_append, List.drop_of_length_le (by rw [encE_len]; omega), encE_len, show (k + 1) * 8 - 8 = k * 8 by omega, ih]
    rfl
theorem clE_snoc (S : List Edc) (X : Edc) : clE (S ++ [X]) = clE S ++ encE X := by rw [clE_app]; simp [clE]
/-- A row of values as edicts. -/
theorem ownE {w : World} {base c : Nat} {a : Option Addr} {s : List Edc} (h : w.ownsRow base 126 8 (.slice a s.length c) s.length (clE s)) (hn : s.length ≤ 9223372036854775807) : EdS w a s := by
  have hm : ∀ i, i < s.length → ge s i = s[i]! := fun i hi => by
    rw [getElem!_pos s i hi]; unfold ge; simp [hi]
  refine ⟨hn, ?_⟩
  rcases h.2 with ⟨h1, h2⟩ | ⟨g2, c2, cur, h1, _⟩
  · exact ⟨0, 0, (fun hne => absurd (List.eq_nil_of_length_eq_zero h2) hne), fun i hi => by omega⟩
  · obtain ⟨rfl, rfl⟩ : a = some ⟨g2, 0, none⟩ ∧ c = c2 := by simpa using h1
    refine ⟨g2, 0, fun _ => rfl, fun i hi => ?_⟩
    have hc := fun j hj => (World.ownsRow.cellAt h (i * 8 + j) (by omega)).trans (clE_c s i hi j hj)
    rw [hm i hi, Nat.zero_add]
    exact ⟨hc 0 (by omega), hc 1 (by omega), hc 2 (by omega), hc 3 (by omega), hc 4 (by omega), hc 5 (by omega), hc 6 (by omega), hc 7 (by omega)⟩
/-- A store into a block of another type leaves a row. -/
theorem own_set {w : World} {B : Nat} {T T2 : TypeId} {K : Nat} {a : Option Addr} {n c m b o : Nat} {xs : List Value} {cs : Array Value} {fr : Nat × Nat} (v : Value) (h : w.ownsRow B T K (.slice a n c) m xs) (hb : w.heap[b]? = some (.cells cs T2 fr)) (hT : T ≠ T2) : (w.setCell ⟨b, o, none⟩ v).ownsRow B T K (.slice a n c) m xs := by
  have hk : KpB w (w.setCell ⟨b, o, none⟩ v) (some ⟨b, 0, none⟩) w.heap.size := fun B' hB hne => by
    have h1 : b ≠ B' := hne _ rfl
    exact ⟨heap_setCell_other _ _ _ _ (Ne.symm h1), by omega⟩
  refine (own_kept h hk fun x y hx hy e => ?_).1
  cases hx
  exact own_type h hb hT y hy e.symm
theorem apB_type {w : World} {B B2 : Nat} {T T2 : TypeId} {K K2 : Nat} {a a2 : Option Addr} {n c m n2 c2 m2 : Nat} {xs xs2 : List Value} (h : w.ownsRow B T K (.slice a n c) m xs) (h2 : w.ownsRow B2 T2 K2 (.slice a2 n2 c2) m2 xs2) (hT : T ≠ T2) : apB a a2 := by
  intro x y hx hy e
  rcases h2.2 with ⟨e1, _⟩ | ⟨g2, c3, cur, e1, _, e3, _⟩
  · injection e1 with e1 _ _
    rw [hy] at e1; cases e1
  · injection e1 with e1 _ _
    rw [hy] at e1
    injection e1 with e1
    subst e1
    exact own_type h e3 hT x hx e
theorem kp_grown {W : World} {o : Obj} {w' : World} {av : Option Addr} {n c g H : Nat} (hg : (W.alloc o).grownBy w' (Value.slice av n c).ownBlock) (hat : (Value.slice av n c).ownBlock = some g ∨ g = H) (hH : W.heap.size ≤ H) : KpB W w' av g := fun B hB hne => by
  refine ⟨(hg.block B (by simp; omega) fun e => ?_).trans (allocOld W _ hB), ?_⟩
  · cases av with
    | none => simp [Value.ownBlock] at e
    | some y => simp [Value.ownBlock] at e; exact hne y rfl e.symm
  · rcases hat with h9 | h9
    · cases av with
      | none => simp [Value.ownBlock] at h9
      | some y => simp [Value.ownBlock] at h9; rw [← h9]; exact hne y rfl
    · omega
end Go.Proofs.YtlpdjinhkmgbgaaGreatDoor
