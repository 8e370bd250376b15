/-
  Library functions laid at this program, in plain words. By an AI agent.; append of a slice that has no elements, whatever its address and its capacity: the slice stays. By an AI agent.; slices.Concat of two lists of ints. By an AI agent.; What faults the signs of a row have: endsAny, code, faulty. By an AI agent.; Library functions laid at this program, in plain words. By an AI agent.
-/
import Derived.Test.YtlpdjinhkmgbgaaGreatDoorMgRuleCW1
import Derived.Test.YtlpdjinhkmgbgaaGreatDoorMgRuleCW3
import Derived.Test.YtlpdjinhkmgbgaaGreatDoorMgRuleCW9
import Derived.Test.YtlpdjinhkmgbgaaGreatDoorMgRuleCW10
import Derived.Shelf.Spec.SlicesGrow
import Derived.Ground.Names8Prog
import Derived.Test.YtlpdjinhkmgbgaaGreatDoorProg
import Derived.Deep.AppendLies
import Derived.Laws.AppendOwnNone
import Derived.Deep.RegionHeld3
import Derived.Deep.DeepCutAuto
import Derived.BigQuiet
import Derived.BigRegion
import Derived.StillTailTactics
import Derived.Laws.AppendOwn
import Derived.Shelf.SlSortCmp.WholeK
import Derived.Ground.SlsfProg

namespace Go.Proofs
open Go.Shelf
def Tryz.laysGrowI_ren : Go.Shelf.Ren := ⟨fun | 4 => 76 | n => n, fun | 22 => 22 | 25 => 3 | 3 => 3 | 4 => 4 | 9 => 9 | 20 => 20 | 0 => 0 | n => n, fun | n => n⟩
theorem Tryz.laysGrowI : Go.Proofs.Lays8.n4 Tryz.prog Tryz.laysGrowI_ren := {
  mixed := by kernel_rfl
  f4 := ⟨Tryz.f76.name, by decide, Tryz.func76.trans (congrArg some (by kernel_rfl))⟩
  t0 := Tryz.underlying0
  a0 := Tryz.isAgg0
  z0 := Tryz.sizeOf0
  v0 := Tryz.zeroValue0
  t3 := Tryz.underlying3
  a3 := Tryz.isAgg3
  z3 := Tryz.sizeOf3
  v3 := Tryz.zeroValue3
  t4 := Tryz.underlying4
  a4 := Tryz.isAgg4
  z4 := Tryz.sizeOf4
  v4 := Tryz.zeroValue4
  t9 := Tryz.underlying9
  a9 := Tryz.isAgg9
  z9 := Tryz.sizeOf9
  v9 := Tryz.zeroValue9
  t20 := Tryz.underlying20
  a20 := Tryz.isAgg20
  z20 := Tryz.sizeOf20
  v20 := Tryz.zeroValue20
  t22 := Tryz.underlying22
  a22 := Tryz.isAgg22
  z22 := Tryz.sizeOf22
  v22 := Tryz.zeroValue22 }
end Go.Proofs

namespace Go.Proofs.YtlpdjinhkmgbgaaGreatDoor
set_option linter.unusedVariables false
set_option linter.unusedSimpArgs false
theorem loadNoneZ (P : Program) (w : World) (a : Addr) : (loadCells a 0).run P w = .ok #[] w := rfl
theorem run_append_zed {P : Program} {w : World} (base : Nat) (t ty e : TypeId) (i : TypeInfo) (size : Nat) (ht : P.underlying t = some (.slice e)) (hi : P.info? e = some i)
    (v : Value) (n : Nat) (xs : List Value) (hown : w.ownsRow base e size v n xs) (ao : Option Addr) (c : Nat) :
    (Builtin.append_ #[t, t] ty #[v, .slice ao 0 c]).run P w = .ok v w := by
  rcases hown.2 with ⟨rfl, rfl⟩ | ⟨g, cap, cur, rfl, _, _, hnc, _⟩
  · cases ao <;> simp [Builtin.append_, run_underlying ht, sizeOf, typeInfo, hi, Builtin.lenOf, Builtin.firstCells, loadNoneZ, Result.andThen]
  · cases ao <;> simp [Builtin.append_, run_underlying ht, sizeOf, typeInfo, hi, Builtin.lenOf, Builtin.firstCells, hnc, storeCells, loadNoneZ, Result.andThen]
theorem wpList_append_zed {P : Program} {w : World} {ops : Array Oper} {rest : List Oper} {o : Oper} {a : Act} {Q : Exit → Act → World → Prop} (hgd : o.guard = none) (s x : Operand) (t : TypeId)
    (ho : o.op = .call { callee := .builtin .append, args := #[s, x], argTypes := #[t, t] })
    (base : Nat) (e : TypeId) (i : TypeInfo) (size : Nat) (ht : P.underlying t = some (.slice e)) (hi : P.info? e = some i)
    (v : Value) (n : Nat) (xs : List Value) (hs : a.eval s = v) (hown : w.ownsRow base e size v n xs) (ao : Option Addr) (c : Nat) (hx : a.eval x = .slice ao 0 c)
    (h : wpList P ops Q rest (a.put o.dst v) w) : wpList P ops Q (o :: rest) a w := by
  refine wpList_plain hgd fun K hK => ?_
  have hrun := run_append_zed (P := P) (w := w) base t o.type e i size ht hi v n xs hown ao c
  unfold Oper.wp
  simp [execOp, ho, resolve, invoke, builtin, hs, hx, hrun, Result.andThen]
  exact hK _ _ h
end Go.Proofs.YtlpdjinhkmgbgaaGreatDoor

namespace Go.Proofs.YtlpdjinhkmgbgaaGreatDoor
set_option linter.unusedVariables false
set_option linter.unusedSimpArgs false
open Go.RowKit

theorem cJ_len (s : List Int) : (clI s).length = s.length * 1 := by unfold clI; simp
theorem cJ_app (s t : List Int) : clI (s ++ t) = clI s ++ clI t := by unfold clI; simp
theorem cJ_one (s : List Int) : ∀ x, x ∈ clI s → x.oneCell' = true := fun x hx => by
  unfold clI at hx
  obtain ⟨y, -, rfl⟩ := List.mem_map.1 hx
  rfl
theorem app_ints {ops : Array Oper} {rest : List Oper} {o : Oper} {a : Act} {Q : Exit → Act → World → Prop} (w : World) (hgd : o.guard = none) (s x : Operand)
    (ho : o.op = .call { callee := .builtin .append, args := #[s, x], argTypes := #[22, 22] })
    (base : Nat) (b : Option Addr) (n c : Nat) (xs : List Value) (hs : a.eval s = .slice b n c) (hown : w.ownsRow base 3 1 (.slice b n c) n xs)
    (ax : Option Addr) (l : List Int) (cx : Nat) (hx : a.eval x = .slice ax l.length cx) (hP : IntsS w ax l) (hlen : n + l.length ≤ 100000000) (hbase : base ≤ w.heap.size)
    (h : ∀ b' c' w', w'.ownsRow base 3 1 (.slice b' (n + l.length) c') (n + l.length) (xs ++ clI l) → Below base w w' → wpList Tryz.prog ops Q rest (a.put o.dst (.slice b' (n + l.length) c')) w') : wpList Tryz.prog ops Q (o :: rest) a w := by
  obtain ⟨n0, hi, hz0, hz1, hz2⟩ := info_parts infoInt
  by_cases h0 : l.length = 0
  · have hl := List.eq_nil_of_length_eq_zero h0
    subst hl
    refine wpList_append_zed hgd s x 22 ho base 3 n0 1 Tryz.underlying22 hi (.slice b n c) n xs hs hown ax cx hx ?_
    have := h b c w (by rw [show clI [] = [] from rfl, List.append_nil]; exact hown) (Below.refl _ _)
    exact this
  · obtain ⟨-, -, blk, off, hadr, hcell⟩ := hP
    obtain rfl := hadr (by rintro rfl; exact h0 rfl)
    refine wpList_append_lies w hgd s x 22 ho base 3 n0 _ 1 8 Tryz.underlying22 hi hz0 hz1 hz2 rfl (by decide) (.slice b n c) n xs hs hown ⟨blk, off, none⟩ l.length cx (clI l) hx (cJ_len l) (fun j u hu => ?_) (cJ_one l) (by omega) (by unfold maxLen; omega) (by omega) hbase _ rfl ?_
    · have hj : j < l.length := by
        have := (List.getElem?_eq_some_iff.1 hu).1
        rw [cJ_len] at this
        omega
      rw [Addr.add_lit]
      rw [clI_get l hj] at hu
      rw [hcell j hj]
      exact hu
    · intro g cap w' h1 h2 _ _
      exact h _ _ _ h1 ((Below.refl _ _).grown h2 hbase (fun z hz => owns_blockI hown hz))
set_option maxRecDepth 100000 in
set_option maxHeartbeats 4000000 in
theorem grow_r (n : Nat) (w : World) (h0 : 0 < n) (hn : n ≤ 1000000) : Calls Tryz.prog 76 #[.slice none 0 0, .int .i64 n] w fun e w' => ∃ a c, e = .returned (.slice a 0 c) ∧ w'.ownsRow w.heap.size 3 1 (.slice a 0 c) 0 [] ∧ Below w.heap.size w w' := by
  obtain ⟨n0, hi, hz0, hz1, hz2⟩ := info_parts infoInt
  have hg := grownCap_ge w (0 + n) 0 3
  have hg2 := grownCap_le_maxLen w (0 + n) 0 3 (by unfold maxLen; omega)
  refine (Any8.slices_Grow_grow Tryz.laysGrowI n0 (.int .i64 0) hi hz0 (by rw [hz1]; decide) none 0 0 n [] w (Nat.le_refl _) (by omega) (by rw [hz2]; omega) (by omega) (by simp) (fun _ => rfl) (fun a ha => by cases ha)).mono ?_
  rintro e w' ⟨rfl, rfl⟩
  refine ⟨_, _, rfl, ?_, ((Below.refl _ _).drew).alloc (Nat.le_refl _) _⟩
  refine ⟨rfl, .inr ⟨w.heap.size, _, _, rfl, Nat.le_refl _, heap_alloc_new _ _, Nat.zero_le _, hg2, ?_, rfl⟩⟩
  rw [Array.size_append, Array.size_append, size_zeroCells, size_zeroCells]
  simp [Value.cells]
  rw [Nat.zero_add] at hg
  have hg : n ≤ grownCap w n 0 (Tryz.laysGrowI_ren.t 25) := hg
  omega
/-- How many have been counted. -/
def szC (m n : Nat) (k : Nat) : Int := if k = 0 then 0 else if k = 1 then m else m + n
def preC (A B : List Int) (k : Nat) : List Int := if k = 0 then [] else if k = 1 then A else A ++ B
set_option maxRecDepth 100000 in
set_option maxHeartbeats 4000000 in
theorem concat2_r (gb : Nat) (a1 a2 : Option Addr) (A B : List Int) (c1 c2 : Nat) (w : World) (hA : IntsS w a1 A) (hB : IntsS w a2 B) (h0 : 0 < A.length) (hl : A.length + B.length ≤ 100000) (x0 : w.cell? ⟨gb, 0, none⟩ = some (.slice a1 A.length c1)) (x1 : w.cell? ⟨gb, 1, none⟩ = some (.slice a2 B.length c2)) :
    Calls Tryz.prog 33 #[.slice (some ⟨gb, 0, none⟩) 2 2] w fun e w' => ∃ a c, e = .returned (.slice a (A ++ B).length c) ∧ w'.ownsRow w.heap.size 3 1 (.slice a (A ++ B).length c) (A ++ B).length (clI (A ++ B)) ∧ Below w.heap.size w w' := by
  have S0 : szC A.length B.length 0 = 0 := rfl
  have HS1 : Hid (szC A.length B.length 1 = A.length) := Lib.hid rfl
  have HS2 : Hid (szC A.length B.length 2 = A.length + B.length) := Lib.hid rfl
  have HG := Lib.hid (fun W => grow_r (A.length + B.length) W (by omega) (by omega))
  have HP0 : Hid (preC A B 0 = []) := Lib.hid rfl
  have HP1 : Hid (preC A B 1 = A) := Lib.hid rfl
  have HP2 : Hid (preC A B 2 = A ++ B) := Lib.hid rfl
  have HAI := Lib.hid hA
  have HBI := Lib.hid hB
  have X0 := Lib.hid x0
  have X1 := Lib.hid x1
  clear hA hB
  go_enter Tryz.func33, Tryz.ntmps33
  go_wp2_with fail
  go_loop [3, 11] (fun s i => ∃ k : Nat, k ≤ 2 ∧ i = .int .i64 k ∧ s = .int .i64 (szC A.length B.length k)) (fun _ i => 2 - (intOf i).toNat)
  case atStart => exact ⟨0, by omega, rfl, rfl⟩
  case round =>
    obtain ⟨k, hk, rfl, rfl⟩ := hrel
    rcases (by omega : k = 0 ∨ k = 1 ∨ k = 2) with rfl | rfl | rfl
    · have hw1 : IntKind.i64.wrap (0 + (A.length : Int)) = A.length := by rw [Int.zero_add]; exact IntWalk.i64_in _ (by omega)
      have hw2 : ¬ ((A.length : Int) < 0) := by omega
      go_wp2_with fail
      go_round
      case rel => exact ⟨1, by omega, rfl, by rw [HS1.out]⟩
      case measure => simp [intOf]
    · rw [HS1.out]
      have hw1 : IntKind.i64.wrap ((A.length : Int) + (B.length : Int)) = A.length + B.length := IntWalk.i64_in _ (by omega)
      have hw2 : ¬ ((A.length : Int) + (B.length : Int) < 0) := by omega
      go_wp2_with fail
      go_round
      case rel => exact ⟨2, by omega, rfl, by rw [HS2.out]⟩
      case measure => simp [intOf]
    · rw [HS2.out]
      have hsum : (A.length : Int) + (B.length : Int) = ((A.length + B.length : Nat) : Int) := by omega
      rw [hsum]
      clear hsum
      go_wp2_with (go_at_call 76; refine (HG.out _).mono ?_; rintro e w1 ⟨ag, cg, rfl, ho1, hb1⟩; have HO1 := Lib.hid ho1; clear ho1)
      go_loopw [6, 27] (fun v i wr => ∃ (k : Nat) (a : Option Addr) (c : Nat), k ≤ 2 ∧ i = .int .i64 k ∧ v = .slice a (preC A B k).length c ∧ Hid (wr.ownsRow w.heap.size 3 1 (.slice a (preC A B k).length c) (preC A B k).length (clI (preC A B k))) ∧ Below w.heap.size w wr) (fun _ i _ => 2 - (intOf i).toNat)
      case atStart => exact ⟨0, ag, cg, by omega, rfl, by rw [HP0.out]; rfl, Lib.hid (by rw [HP0.out]; exact HO1.out), hb1⟩
      case round =>
        obtain ⟨k, av, cv, hk, rfl, rfl, HRow, hbr⟩ := hrel
        have x0 := cell_below X0.out hbr
        have x1 := cell_below X1.out hbr
        rcases (by omega : k = 0 ∨ k = 1 ∨ k = 2) with rfl | rfl | rfl
        · rw [HP0.out] at HRow ⊢
          have HN : Hid (A.length = (preC A B 1).length ∧ clI A = clI (preC A B 1)) := Lib.hid (by rw [HP1.out]; exact ⟨rfl, rfl⟩)
          have hAw := Lib.hid (HAI.out.below hbr)
          go_wp2_with (first | (at_builtin; go_loud (refine app_ints _ rfl _ _ rfl w.heap.size av 0 cv [] (by rfl) HRow.out a1 A c1 (by rfl) hAw.out (by omega) hbr.size ?_)))
          intro b' c' w' hown' hb'
          have HO' := Lib.hid hown'
          clear hown' HRow
          go_wp2_with fail
          go_roundw
          case rel => exact ⟨1, b', c', by omega, rfl, by rw [← HN.out.1], Lib.hid (by rw [← HN.out.1, ← HN.out.2]; exact HO'.out), hbr.trans hb'⟩
          case measure => simp [intOf]
        · rw [HP1.out] at HRow ⊢
          have HN : Hid (A.length + B.length = (preC A B 2).length ∧ clI A ++ clI B = clI (preC A B 2)) := Lib.hid (by rw [HP2.out, cJ_app, List.length_append]; exact ⟨rfl, rfl⟩)
          have hBw := Lib.hid (HBI.out.below hbr)
          go_wp2_with (first | (at_builtin; go_loud (refine app_ints _ rfl _ _ rfl w.heap.size av A.length cv (clI A) (by rfl) HRow.out a2 B c2 (by rfl) hBw.out (by omega) hbr.size ?_)))
          intro b' c' w' hown' hb'
          have HO' := Lib.hid hown'
          clear hown' HRow
          go_wp2_with fail
          go_roundw
          case rel => exact ⟨2, b', c', by omega, rfl, by rw [← HN.out.1], Lib.hid (by rw [← HN.out.1, ← HN.out.2]; exact HO'.out), hbr.trans hb'⟩
          case measure => simp [intOf]
        · rw [HP2.out] at HRow ⊢
          go_wp2_with fail
          go_ret
          exact ⟨av, cv, rfl, HRow.out, hbr⟩
end Go.Proofs.YtlpdjinhkmgbgaaGreatDoor

namespace Go.Proofs.YtlpdjinhkmgbgaaGreatDoor
set_option linter.unusedVariables false
set_option linter.unusedSimpArgs false
open Go.RowKit

set_option maxRecDepth 100000 in
set_option maxHeartbeats 1000000 in
theorem idxEa_any (aa : Option Addr) (l : List (Int)) (ca : Nat) (lb : Array Value) (p : Nat → Bool) (w : World) (hA : IntsS w aa l)
    (hp : ∀ j W, j < l.length → Below w.heap.size w W → Calls Tryz.prog 126 (#[.int .i64 (gi l j)] ++ lb) W fun e w' => e = .returned (.bool (p j)) ∧ Below W.heap.size W w') :
    Calls Tryz.prog 150 #[.slice aa l.length ca, .func (.func 126) #[] lb] w fun e w' => e = .returned (.int .i64 (idxK p l.length)) ∧ Below w.heap.size w w' := by
  obtain ⟨hlen, -, blk, off, hadr, hc⟩ := hA
  have HP := Lib.hid hp
  have HC := Lib.hid hc
  have HH : Hid (∀ k, k < l.length → p k = true → (∀ j, j < k → p j = false) → idxK p l.length = k) := Lib.hid fun k hk h hb => idxK_hit h hb _ hk
  have HM : Hid ((∀ j, j < l.length → p j = false) → idxK p l.length = -1) := Lib.hid fun h => idxK_miss _ h
  have HL : Hid (0 < l.length → aa = some ⟨blk, off, none⟩) := Lib.hid fun h => hadr (pos_ne (n := 0) h)
  generalize idxK p l.length = R at *
  clear hp hc hadr
  go_enter Tryz.func150, Tryz.ntmps150
  go_wp2_with fail
  go_loopw [8] (fun i wr => ∃ k : Nat, k ≤ l.length ∧ i = .int .i64 k ∧ Below w.heap.size w wr ∧ Hid (∀ j, j < k → p j = false)) (fun i _ => l.length - (intOf i).toNat)
  case atStart => exact ⟨0, Nat.zero_le _, rfl, Below.refl _ _, Lib.hid fun j hj => absurd hj (Nat.not_lt_zero _)⟩
  case round =>
    obtain ⟨k, hk, rfl, hb, HA⟩ := hrel
    by_cases hlt : k < l.length
    · obtain rfl := HL.out (by omega)
      have c0 := cell_below (HC.out k hlt) hb
      have HK := Lib.hid (fun W => HP.out k W hlt)
      have HHk := Lib.hid (HH.out k hlt)
      have HN : Hid (p k = false → ∀ j, j < k + 1 → p j = false) := Lib.hid fun h j hj => by
        by_cases e : j = k
        · subst e; exact h
        · exact HA.out j (by omega)
      clear HP HC HM HL HH
      generalize (gi l k) = x0 at *
      cases hpk : p k with
      | true =>
        have HR := Lib.hid (HHk.out hpk HA.out)
        rw [hpk] at HK
        clear hpk HHk HN
        go_wp2_with fail
        refine (HK.out _ hb).mono ?_
        rintro e w1 ⟨rfl, hb1⟩
        go_wp2_with fail
        go_ret
        rw [HR.out]
        exact ⟨rfl, hb.trans (hb1.mono hb.size)⟩
      | false =>
        have HR := Lib.hid (HN.out hpk)
        rw [hpk] at HK
        clear hpk HHk HN
        go_wp2_with fail
        refine (HK.out _ hb).mono ?_
        rintro e w1 ⟨rfl, hb1⟩
        go_wp2_with fail
        go_roundw
        case rel => exact ⟨k + 1, by omega, by go_num, hb.trans (hb1.mono hb.size), HR⟩
        case measure => simp [intOf]; omega
    · obtain rfl : k = l.length := by omega
      have HR := Lib.hid (HM.out HA.out)
      go_wp2_with fail
      go_ret
      rw [HR.out]
      exact ⟨rfl, hb⟩

set_option maxRecDepth 100000 in
theorem containsEa_any (aa : Option Addr) (l : List (Int)) (ca : Nat) (lb : Array Value) (p : Nat → Bool) (w : World) (hA : IntsS w aa l)
    (hp : ∀ j W, j < l.length → Below w.heap.size w W → Calls Tryz.prog 126 (#[.int .i64 (gi l j)] ++ lb) W fun e w' => e = .returned (.bool (p j)) ∧ Below W.heap.size W w') :
    Calls Tryz.prog 125 #[.slice aa l.length ca, .func (.func 126) #[] lb] w fun e w' => e = .returned (.bool (anyK p l.length)) ∧ Below w.heap.size w w' := by
  have H := Lib.hid (idxEa_any aa l ca lb p w hA hp)
  have hq := Lib.hid (idxK_any p l.length)
  clear hp hA
  generalize idxK p l.length = R at *
  generalize anyK p l.length = B at *
  have hq := hq.out
  subst hq
  go_enter Tryz.func125, Tryz.ntmps125
  go_wp2_with fail
  refine H.out.mono ?_
  rintro e w1 ⟨rfl, hb1⟩
  go_wp2_with fail
  all_goals
    go_ret
    exact ⟨by simp_all, hb1⟩

/-- Is an end one of a topic of which something holds ahead of it? -/
def endP (row : List Pst) (p : Pst) (t : Int) : Bool := endB p.s.k t && (hldL t (p.d - 1) row 0 != 0)
/-- The fault of a sign of a row, or 0. -/
def codP (L : Int) (row : List Pst) (p : Pst) : Int :=
  if p.s.k = 7 then (if p.b = false ∨ L - p.d < p.s.v then 1 else 0)
  else if p.s.k = 6 then (if p.d = L ∨ hldL 1 p.d row 0 ≠ p.s.v then 2 else 0)
  else if p.s.k = 2 ∨ p.s.k = 4 ∨ p.s.k = 5 then (if (endP row p 1 || endP row p 2) = true then 0 else 3)
  else if p.s.k = 1 ∨ p.s.k = 3 then (if p.d = L then 4 else 0) else 0
set_option maxRecDepth 100000 in
set_option maxHeartbeats 2000000 in
theorem endsAny1_r (L : Int) (ar : Option Addr) (row : List Pst) (cr : Nat) (p : Pst) (ad : Option Addr) (cp pb ib : Nat) (t : Int) (hd : -100000 ≤ p.d ∧ p.d ≤ 100000) (w : World) (hR : PstS w ar row) (c1 : w.cell? ⟨pb, 1, none⟩ = some (.int .i64 p.s.k)) (c9 : w.cell? ⟨pb, 9, none⟩ = some (.int .i64 p.d)) (i1 : w.cell? ⟨ib, 1, none⟩ = some (.slice ar row.length cr)) :
    Calls Tryz.prog 126 (#[.int .i64 t] ++ #[.pointer (some ⟨pb, 0, none⟩), .pointer (some ⟨ib, 0, none⟩)]) w fun e w' => e = .returned (.bool (endP row p t)) ∧ Below w.heap.size w w' := by
  change Calls Tryz.prog 126 #[.int .i64 t, .pointer (some ⟨pb, 0, none⟩), .pointer (some ⟨ib, 0, none⟩)] w _
  have HE := Lib.hid (fun W => isEnd_r p.s.k t W)
  have HH := Lib.hid (fun W (hW : Below w.heap.size w W) => holdsAt_r ar row cr t (p.d - 1) W (hR.below hW))
  have HP : Hid (endP row p t = (endB p.s.k t && (hldL t (p.d - 1) row 0 != 0))) := Lib.hid rfl
  generalize hldL t (p.d - 1) row 0 = V at *
  generalize endB p.s.k t = eb at *
  clear hR
  cases eb with
  | false =>
    have hv : Hid (endP row p t = false) := Lib.hid (by rw [HP.out]; rfl)
    clear HP HH
    go_enter Tryz.func126, Tryz.ntmps126
    go_wp2_with (go_at_call 86; refine (HE.out _).mono ?_; rintro e w2 ⟨rfl, rfl⟩)
    go_ret
    exact ⟨by rw [hv.out] <;> rfl, Below.refl _ _⟩
  | true =>
    by_cases h0 : V = 0
    · have hv : Hid (endP row p t = false) := Lib.hid (by rw [HP.out, h0]; rfl)
      have d0 : (V != 0) = false := by rw [h0]; rfl
      clear HP h0
      go_enter Tryz.func126, Tryz.ntmps126
      go_wp2_with (first | (go_at_call 86; refine (HE.out _).mono ?_; rintro e w2 ⟨rfl, rfl⟩) | (go_at_call 49; refine (HH.out _ (Below.refl _ _)).mono ?_; rintro e w3 ⟨rfl, hb3⟩))
      go_ret
      exact ⟨by rw [hv.out] <;> rfl, hb3⟩
    · have d0 : (V != 0) = true := by simp [h0]
      have hv : Hid (endP row p t = true) := Lib.hid (by rw [HP.out, d0]; rfl)
      clear HP h0
      go_enter Tryz.func126, Tryz.ntmps126
      go_wp2_with (first | (go_at_call 86; refine (HE.out _).mono ?_; rintro e w2 ⟨rfl, rfl⟩) | (go_at_call 49; refine (HH.out _ (Below.refl _ _)).mono ?_; rintro e w3 ⟨rfl, hb3⟩))
      go_ret
      exact ⟨by rw [hv.out] <;> rfl, hb3⟩
set_option maxRecDepth 100000 in
set_option maxHeartbeats 2000000 in
theorem endsAny_r (L : Int) (ar : Option Addr) (row : List Pst) (cr : Nat) (p : Pst) (ad : Option Addr) (cp : Nat) (g : Nat) (hd : -100000 ≤ p.d ∧ p.d ≤ 100000) (w : World) (hR : PstS w ar row) (hT : IntsS w (some ⟨g, 0, none⟩) [1, 2]) :
    Calls Tryz.prog 97 #[.agg #[.int .i64 L, .slice ar row.length cr], .agg #[.int .i64 p.s.n, .int .i64 p.s.k, .int .i64 p.s.v, .int .i64 p.s.c, .int .i64 p.s.d, .int .i64 p.s.rk, .int .i64 p.s.up, .int .i64 p.s.dn, .slice ad p.s.cv.length cp, .int .i64 p.d, .int .i64 p.u, .bool p.b], .slice (some ⟨g, 0, none⟩) 2 2] w fun e w' => e = .returned (.bool (endP row p 1 || endP row p 2)) ∧ Below w.heap.size w w' := by
  have HC := Lib.hid (fun W (hW : Below w.heap.size w W) (c1 : W.cell? ⟨w.heap.size + 1, 1, none⟩ = some (.int .i64 p.s.k)) (c9 : W.cell? ⟨w.heap.size + 1, 9, none⟩ = some (.int .i64 p.d)) (i1 : W.cell? ⟨w.heap.size, 1, none⟩ = some (.slice ar row.length cr)) => containsEa_any (some ⟨g, 0, none⟩) [1, 2] 2 #[.pointer (some ⟨w.heap.size + 1, 0, none⟩), .pointer (some ⟨w.heap.size, 0, none⟩)] (fun j => endP row p (gi [1, 2] j)) W (hT.below hW) (fun j W' hj hb' => endsAny1_r L ar row cr p ad cp (w.heap.size + 1) w.heap.size (gi [1, 2] j) hd W' ((hR.below hW).below hb') (cell_below c1 hb') (cell_below c9 hb') (cell_below i1 hb')))
  have HV : Hid (anyK (fun j => endP row p (gi [1, 2] j)) [(1 : Int), 2].length = (endP row p 1 || endP row p 2)) := Lib.hid (by show ((false || endP row p 1) || endP row p 2) = _; rw [Bool.false_or])
  clear hR hT
  go_enter Tryz.func97, Tryz.ntmps97
  go_upto_region 1 with (fail)
  obtain ⟨wB, hwB⟩ : ∃ wB, (w.alloc (.cells #[.int .i64 L, .slice ar row.length cr] 108)).alloc (.cells #[.int .i64 p.s.n, .int .i64 p.s.k, .int .i64 p.s.v, .int .i64 p.s.c, .int .i64 p.s.d, .int .i64 p.s.rk, .int .i64 p.s.up, .int .i64 p.s.dn, .slice ad p.s.cv.length cp, .int .i64 p.d, .int .i64 p.u, .bool p.b] 124) = wB := ⟨_, rfl⟩
  have hb : Below w.heap.size w wB := by rw [← hwB]; exact ((Below.refl _ _).alloc (Nat.le_refl _) _).alloc (by simp) _
  have i0 : wB.cell? ⟨w.heap.size, 0, none⟩ = some (.int .i64 L) := by rw [← hwB]; simp [go_sem]
  have i1 : wB.cell? ⟨w.heap.size, 1, none⟩ = some (.slice ar row.length cr) := by rw [← hwB]; simp [go_sem]
  have x0 : wB.cell? ⟨w.heap.size + 1, 0, none⟩ = some (.int .i64 p.s.n) := by rw [← hwB]; simp [go_sem]
  have x1 : wB.cell? ⟨w.heap.size + 1, 1, none⟩ = some (.int .i64 p.s.k) := by rw [← hwB]; simp [go_sem]
  have x2 : wB.cell? ⟨w.heap.size + 1, 2, none⟩ = some (.int .i64 p.s.v) := by rw [← hwB]; simp [go_sem]
  have x3 : wB.cell? ⟨w.heap.size + 1, 3, none⟩ = some (.int .i64 p.s.c) := by rw [← hwB]; simp [go_sem]
  have x4 : wB.cell? ⟨w.heap.size + 1, 4, none⟩ = some (.int .i64 p.s.d) := by rw [← hwB]; simp [go_sem]
  have x5 : wB.cell? ⟨w.heap.size + 1, 5, none⟩ = some (.int .i64 p.s.rk) := by rw [← hwB]; simp [go_sem]
  have x6 : wB.cell? ⟨w.heap.size + 1, 6, none⟩ = some (.int .i64 p.s.up) := by rw [← hwB]; simp [go_sem]
  have x7 : wB.cell? ⟨w.heap.size + 1, 7, none⟩ = some (.int .i64 p.s.dn) := by rw [← hwB]; simp [go_sem]
  have x8 : wB.cell? ⟨w.heap.size + 1, 8, none⟩ = some (.slice ad p.s.cv.length cp) := by rw [← hwB]; simp [go_sem]
  have x9 : wB.cell? ⟨w.heap.size + 1, 9, none⟩ = some (.int .i64 p.d) := by rw [← hwB]; simp [go_sem]
  have x10 : wB.cell? ⟨w.heap.size + 1, 10, none⟩ = some (.int .i64 p.u) := by rw [← hwB]; simp [go_sem]
  have x11 : wB.cell? ⟨w.heap.size + 1, 11, none⟩ = some (.bool p.b) := by rw [← hwB]; simp [go_sem]
  rw [hwB]
  clear hwB
  have HCc := Lib.hid (HC.out wB hb x1 x9 i1)
  rw [HV.out] at HCc
  clear HC HV x0 x1 x2 x3 x4 x5 x6 x7 x8 x9 x10 x11 i0 i1
  go_wp2_with (go_at_call 125; refine HCc.out.mono ?_; rintro e w2 ⟨rfl, hb2⟩)
  go_ret
  exact ⟨rfl, hb.trans (hb2.mono hb.size)⟩
theorem ex_ints2 (w : World) : IntsS (w.alloc (.cells #[.int .i64 1, .int .i64 2] 3)) (some ⟨w.heap.size, 0, none⟩) [1, 2] := by
  refine ⟨by decide, fun i hi => ?_, w.heap.size, 0, fun _ => rfl, fun i hi => ?_⟩
  · have hi : i < 2 := hi
    by_cases e : i = 0
    · subst e; exact ⟨by decide, by decide⟩
    · obtain rfl : i = 1 := by omega
      exact ⟨by decide, by decide⟩
  · have hi : i < 2 := hi
    by_cases e : i = 0
    · subst e; simp [go_sem]; rfl
    · obtain rfl : i = 1 := by omega
      simp [go_sem]; rfl
set_option maxRecDepth 100000 in
set_option maxHeartbeats 8000000 in
theorem code_r (L : Int) (ar : Option Addr) (row : List Pst) (cr : Nat) (p : Pst) (ad : Option Addr) (cp : Nat) (hL : 0 ≤ L ∧ L ≤ 100000) (hd : -100000 ≤ p.d ∧ p.d ≤ 100000) (hv1 : -100000 ≤ p.s.v ∧ p.s.v ≤ 100000) (w : World) (hR : PstS w ar row) :
    Calls Tryz.prog 57 #[.agg #[.int .i64 L, .slice ar row.length cr], .agg #[.int .i64 p.s.n, .int .i64 p.s.k, .int .i64 p.s.v, .int .i64 p.s.c, .int .i64 p.s.d, .int .i64 p.s.rk, .int .i64 p.s.up, .int .i64 p.s.dn, .slice ad p.s.cv.length cp, .int .i64 p.d, .int .i64 p.u, .bool p.b]] w fun e w' => e = .returned (.int .i64 (codP L row p)) ∧ Below w.heap.size w w' := by
  have HH := Lib.hid (fun W (hW : Below w.heap.size w W) => holdsAt_r ar row cr 1 p.d W (hR.below hW))
  have HE := Lib.hid (fun W g (hW : Below w.heap.size w W) hT => endsAny_r L ar row cr p ad cp g hd W (hR.below hW) hT)
  obtain ⟨V, hV⟩ : ∃ V, hldL 1 p.d row 0 = V := ⟨_, rfl⟩
  have HVe := Lib.hid hV
  rw [hV] at HH
  obtain ⟨eb, heb⟩ : ∃ eb, (endP row p 1 || endP row p 2) = eb := ⟨_, rfl⟩
  have HEe := Lib.hid heb
  rw [heb] at HE
  clear hR hV heb
  by_cases h7 : p.s.k = 7
  · have k7 : (p.s.k == 7) = true := by rw [h7]; rfl
    rcases Bool.eq_false_or_eq_true p.b with hpb | hpb
    rotate_left
    · skip
      have hv : Hid (codP L row p = 1) := Lib.hid (by unfold codP; rw [if_pos h7, if_pos (.inl hpb)])
      have HPB := Lib.hid hpb
      clear h7 HH HE hpb
      go_enter Tryz.func57, Tryz.ntmps57
      go_upto_region 1 with (fail)
      obtain ⟨wB, hwB⟩ : ∃ wB, (w.alloc (.cells #[.int .i64 L, .slice ar row.length cr] 108)).alloc (.cells #[.int .i64 p.s.n, .int .i64 p.s.k, .int .i64 p.s.v, .int .i64 p.s.c, .int .i64 p.s.d, .int .i64 p.s.rk, .int .i64 p.s.up, .int .i64 p.s.dn, .slice ad p.s.cv.length cp, .int .i64 p.d, .int .i64 p.u, .bool p.b] 124) = wB := ⟨_, rfl⟩
      have hb : Below w.heap.size w wB := by rw [← hwB]; exact ((Below.refl _ _).alloc (Nat.le_refl _) _).alloc (by simp) _
      have i0 : wB.cell? ⟨w.heap.size, 0, none⟩ = some (.int .i64 L) := by rw [← hwB]; simp [go_sem]
      have i1 : wB.cell? ⟨w.heap.size, 1, none⟩ = some (.slice ar row.length cr) := by rw [← hwB]; simp [go_sem]
      have x0 : wB.cell? ⟨w.heap.size + 1, 0, none⟩ = some (.int .i64 p.s.n) := by rw [← hwB]; simp [go_sem]
      have x1 : wB.cell? ⟨w.heap.size + 1, 1, none⟩ = some (.int .i64 p.s.k) := by rw [← hwB]; simp [go_sem]
      have x2 : wB.cell? ⟨w.heap.size + 1, 2, none⟩ = some (.int .i64 p.s.v) := by rw [← hwB]; simp [go_sem]
      have x3 : wB.cell? ⟨w.heap.size + 1, 3, none⟩ = some (.int .i64 p.s.c) := by rw [← hwB]; simp [go_sem]
      have x4 : wB.cell? ⟨w.heap.size + 1, 4, none⟩ = some (.int .i64 p.s.d) := by rw [← hwB]; simp [go_sem]
      have x5 : wB.cell? ⟨w.heap.size + 1, 5, none⟩ = some (.int .i64 p.s.rk) := by rw [← hwB]; simp [go_sem]
      have x6 : wB.cell? ⟨w.heap.size + 1, 6, none⟩ = some (.int .i64 p.s.up) := by rw [← hwB]; simp [go_sem]
      have x7 : wB.cell? ⟨w.heap.size + 1, 7, none⟩ = some (.int .i64 p.s.dn) := by rw [← hwB]; simp [go_sem]
      have x8 : wB.cell? ⟨w.heap.size + 1, 8, none⟩ = some (.slice ad p.s.cv.length cp) := by rw [← hwB]; simp [go_sem]
      have x9 : wB.cell? ⟨w.heap.size + 1, 9, none⟩ = some (.int .i64 p.d) := by rw [← hwB]; simp [go_sem]
      have x10 : wB.cell? ⟨w.heap.size + 1, 10, none⟩ = some (.int .i64 p.u) := by rw [← hwB]; simp [go_sem]
      have x11 : wB.cell? ⟨w.heap.size + 1, 11, none⟩ = some (.bool p.b) := by rw [← hwB]; simp [go_sem]
      rw [hwB]
      clear hwB
      rw [HPB.out] at x11
      go_wp2_with fail
      go_ret
      exact ⟨by rw [hv.out] <;> rfl, hb⟩
    · by_cases hvv : L - p.d < p.s.v
      · have hv : Hid (codP L row p = 1) := Lib.hid (by unfold codP; rw [if_pos h7, if_pos (.inr hvv)])
        have HPB := Lib.hid hpb
        clear h7 HH HE hpb
        go_enter Tryz.func57, Tryz.ntmps57
        go_upto_region 1 with (fail)
        obtain ⟨wB, hwB⟩ : ∃ wB, (w.alloc (.cells #[.int .i64 L, .slice ar row.length cr] 108)).alloc (.cells #[.int .i64 p.s.n, .int .i64 p.s.k, .int .i64 p.s.v, .int .i64 p.s.c, .int .i64 p.s.d, .int .i64 p.s.rk, .int .i64 p.s.up, .int .i64 p.s.dn, .slice ad p.s.cv.length cp, .int .i64 p.d, .int .i64 p.u, .bool p.b] 124) = wB := ⟨_, rfl⟩
        have hb : Below w.heap.size w wB := by rw [← hwB]; exact ((Below.refl _ _).alloc (Nat.le_refl _) _).alloc (by simp) _
        have i0 : wB.cell? ⟨w.heap.size, 0, none⟩ = some (.int .i64 L) := by rw [← hwB]; simp [go_sem]
        have i1 : wB.cell? ⟨w.heap.size, 1, none⟩ = some (.slice ar row.length cr) := by rw [← hwB]; simp [go_sem]
        have x0 : wB.cell? ⟨w.heap.size + 1, 0, none⟩ = some (.int .i64 p.s.n) := by rw [← hwB]; simp [go_sem]
        have x1 : wB.cell? ⟨w.heap.size + 1, 1, none⟩ = some (.int .i64 p.s.k) := by rw [← hwB]; simp [go_sem]
        have x2 : wB.cell? ⟨w.heap.size + 1, 2, none⟩ = some (.int .i64 p.s.v) := by rw [← hwB]; simp [go_sem]
        have x3 : wB.cell? ⟨w.heap.size + 1, 3, none⟩ = some (.int .i64 p.s.c) := by rw [← hwB]; simp [go_sem]
        have x4 : wB.cell? ⟨w.heap.size + 1, 4, none⟩ = some (.int .i64 p.s.d) := by rw [← hwB]; simp [go_sem]
        have x5 : wB.cell? ⟨w.heap.size + 1, 5, none⟩ = some (.int .i64 p.s.rk) := by rw [← hwB]; simp [go_sem]
        have x6 : wB.cell? ⟨w.heap.size + 1, 6, none⟩ = some (.int .i64 p.s.up) := by rw [← hwB]; simp [go_sem]
        have x7 : wB.cell? ⟨w.heap.size + 1, 7, none⟩ = some (.int .i64 p.s.dn) := by rw [← hwB]; simp [go_sem]
        have x8 : wB.cell? ⟨w.heap.size + 1, 8, none⟩ = some (.slice ad p.s.cv.length cp) := by rw [← hwB]; simp [go_sem]
        have x9 : wB.cell? ⟨w.heap.size + 1, 9, none⟩ = some (.int .i64 p.d) := by rw [← hwB]; simp [go_sem]
        have x10 : wB.cell? ⟨w.heap.size + 1, 10, none⟩ = some (.int .i64 p.u) := by rw [← hwB]; simp [go_sem]
        have x11 : wB.cell? ⟨w.heap.size + 1, 11, none⟩ = some (.bool p.b) := by rw [← hwB]; simp [go_sem]
        rw [hwB]
        clear hwB
        rw [HPB.out] at x11
        go_wp2_with fail
        go_ret
        exact ⟨by rw [hv.out] <;> rfl, hb⟩
      · have hv : Hid (codP L row p = 0) := Lib.hid (by unfold codP; rw [if_pos h7, if_neg (by rw [hpb]; simp; omega)])
        have HPB := Lib.hid hpb
        clear h7 HH HE hpb
        go_enter Tryz.func57, Tryz.ntmps57
        go_upto_region 1 with (fail)
        obtain ⟨wB, hwB⟩ : ∃ wB, (w.alloc (.cells #[.int .i64 L, .slice ar row.length cr] 108)).alloc (.cells #[.int .i64 p.s.n, .int .i64 p.s.k, .int .i64 p.s.v, .int .i64 p.s.c, .int .i64 p.s.d, .int .i64 p.s.rk, .int .i64 p.s.up, .int .i64 p.s.dn, .slice ad p.s.cv.length cp, .int .i64 p.d, .int .i64 p.u, .bool p.b] 124) = wB := ⟨_, rfl⟩
        have hb : Below w.heap.size w wB := by rw [← hwB]; exact ((Below.refl _ _).alloc (Nat.le_refl _) _).alloc (by simp) _
        have i0 : wB.cell? ⟨w.heap.size, 0, none⟩ = some (.int .i64 L) := by rw [← hwB]; simp [go_sem]
        have i1 : wB.cell? ⟨w.heap.size, 1, none⟩ = some (.slice ar row.length cr) := by rw [← hwB]; simp [go_sem]
        have x0 : wB.cell? ⟨w.heap.size + 1, 0, none⟩ = some (.int .i64 p.s.n) := by rw [← hwB]; simp [go_sem]
        have x1 : wB.cell? ⟨w.heap.size + 1, 1, none⟩ = some (.int .i64 p.s.k) := by rw [← hwB]; simp [go_sem]
        have x2 : wB.cell? ⟨w.heap.size + 1, 2, none⟩ = some (.int .i64 p.s.v) := by rw [← hwB]; simp [go_sem]
        have x3 : wB.cell? ⟨w.heap.size + 1, 3, none⟩ = some (.int .i64 p.s.c) := by rw [← hwB]; simp [go_sem]
        have x4 : wB.cell? ⟨w.heap.size + 1, 4, none⟩ = some (.int .i64 p.s.d) := by rw [← hwB]; simp [go_sem]
        have x5 : wB.cell? ⟨w.heap.size + 1, 5, none⟩ = some (.int .i64 p.s.rk) := by rw [← hwB]; simp [go_sem]
        have x6 : wB.cell? ⟨w.heap.size + 1, 6, none⟩ = some (.int .i64 p.s.up) := by rw [← hwB]; simp [go_sem]
        have x7 : wB.cell? ⟨w.heap.size + 1, 7, none⟩ = some (.int .i64 p.s.dn) := by rw [← hwB]; simp [go_sem]
        have x8 : wB.cell? ⟨w.heap.size + 1, 8, none⟩ = some (.slice ad p.s.cv.length cp) := by rw [← hwB]; simp [go_sem]
        have x9 : wB.cell? ⟨w.heap.size + 1, 9, none⟩ = some (.int .i64 p.d) := by rw [← hwB]; simp [go_sem]
        have x10 : wB.cell? ⟨w.heap.size + 1, 10, none⟩ = some (.int .i64 p.u) := by rw [← hwB]; simp [go_sem]
        have x11 : wB.cell? ⟨w.heap.size + 1, 11, none⟩ = some (.bool p.b) := by rw [← hwB]; simp [go_sem]
        rw [hwB]
        clear hwB
        rw [HPB.out] at x11
        go_wp2_with fail
        go_ret
        exact ⟨by rw [hv.out] <;> rfl, hb⟩
  by_cases h6 : p.s.k = 6
  · have k7 : (p.s.k == 7) = false := beq_false_of_ne h7
    have k6 : (p.s.k == 6) = true := by rw [h6]; rfl
    by_cases hdl : p.d = L
    · have dd : (p.d == L) = true := by rw [hdl]; simp
      have hv : Hid (codP L row p = 2) := Lib.hid (by unfold codP; rw [if_neg h7, if_pos h6, if_pos (.inl hdl)])
      clear h7 h6 hdl HE HH
      go_enter Tryz.func57, Tryz.ntmps57
      go_upto_region 1 with (fail)
      obtain ⟨wB, hwB⟩ : ∃ wB, (w.alloc (.cells #[.int .i64 L, .slice ar row.length cr] 108)).alloc (.cells #[.int .i64 p.s.n, .int .i64 p.s.k, .int .i64 p.s.v, .int .i64 p.s.c, .int .i64 p.s.d, .int .i64 p.s.rk, .int .i64 p.s.up, .int .i64 p.s.dn, .slice ad p.s.cv.length cp, .int .i64 p.d, .int .i64 p.u, .bool p.b] 124) = wB := ⟨_, rfl⟩
      have hb : Below w.heap.size w wB := by rw [← hwB]; exact ((Below.refl _ _).alloc (Nat.le_refl _) _).alloc (by simp) _
      have i0 : wB.cell? ⟨w.heap.size, 0, none⟩ = some (.int .i64 L) := by rw [← hwB]; simp [go_sem]
      have i1 : wB.cell? ⟨w.heap.size, 1, none⟩ = some (.slice ar row.length cr) := by rw [← hwB]; simp [go_sem]
      have x0 : wB.cell? ⟨w.heap.size + 1, 0, none⟩ = some (.int .i64 p.s.n) := by rw [← hwB]; simp [go_sem]
      have x1 : wB.cell? ⟨w.heap.size + 1, 1, none⟩ = some (.int .i64 p.s.k) := by rw [← hwB]; simp [go_sem]
      have x2 : wB.cell? ⟨w.heap.size + 1, 2, none⟩ = some (.int .i64 p.s.v) := by rw [← hwB]; simp [go_sem]
      have x3 : wB.cell? ⟨w.heap.size + 1, 3, none⟩ = some (.int .i64 p.s.c) := by rw [← hwB]; simp [go_sem]
      have x4 : wB.cell? ⟨w.heap.size + 1, 4, none⟩ = some (.int .i64 p.s.d) := by rw [← hwB]; simp [go_sem]
      have x5 : wB.cell? ⟨w.heap.size + 1, 5, none⟩ = some (.int .i64 p.s.rk) := by rw [← hwB]; simp [go_sem]
      have x6 : wB.cell? ⟨w.heap.size + 1, 6, none⟩ = some (.int .i64 p.s.up) := by rw [← hwB]; simp [go_sem]
      have x7 : wB.cell? ⟨w.heap.size + 1, 7, none⟩ = some (.int .i64 p.s.dn) := by rw [← hwB]; simp [go_sem]
      have x8 : wB.cell? ⟨w.heap.size + 1, 8, none⟩ = some (.slice ad p.s.cv.length cp) := by rw [← hwB]; simp [go_sem]
      have x9 : wB.cell? ⟨w.heap.size + 1, 9, none⟩ = some (.int .i64 p.d) := by rw [← hwB]; simp [go_sem]
      have x10 : wB.cell? ⟨w.heap.size + 1, 10, none⟩ = some (.int .i64 p.u) := by rw [← hwB]; simp [go_sem]
      have x11 : wB.cell? ⟨w.heap.size + 1, 11, none⟩ = some (.bool p.b) := by rw [← hwB]; simp [go_sem]
      rw [hwB]
      clear hwB
      have hzi := block_lt i0
      have hzx := block_lt x0
      go_wp2_with fail
      refine wp_region_held_drew (S := fun w' => Below wB.heap.size wB w') (by kernel_rfl) ((Below.refl _ _).drew) (fun hHeld => ?_)
      refine takeU (i := 0) (some 26) (.pointer (some ⟨w.heap.size + 1, 9, none⟩)) (by kernel_rfl) (by kernel_rfl) (by kernel_rfl) (by kernel_rfl) (by kernel_rfl) (fun _ => by kernel_rfl) (fun _ _ _ h => h) hHeld ?_
      refine wpAnyH_take (i := 1) (oi := { dst := some 27, op := Go.Op.load 3 (Go.Operand.tmp 26), type := 3, pos := "fault.go:52", after := #[{ on := 0, ground := Go.Ground.data }], guard := none }) (v := .int .i64 p.d) rfl (by kernel_rfl) (by kernel_rfl) (by kernel_rfl) (fun _ _ _ h => h) (.inl ⟨by kernel_rfl, fun w9 h9 => by
        clear hHeld
        have d0 := (h9.cell (p := ⟨w.heap.size + 1, 9, none⟩) hzx).trans x9
        clear h9
        go_simp⟩) hHeld ?_
      refine takeU (i := 2) (some 28) (.pointer (some ⟨w.heap.size, 0, none⟩)) (by kernel_rfl) (by kernel_rfl) (by kernel_rfl) (by kernel_rfl) (by kernel_rfl) (fun _ => by kernel_rfl) (fun _ _ _ h => h) hHeld ?_
      refine wpAnyH_take (i := 3) (oi := { dst := some 29, op := Go.Op.load 3 (Go.Operand.tmp 28), type := 3, pos := "fault.go:52", after := #[{ on := 2, ground := Go.Ground.data }], guard := none }) (v := .int .i64 L) rfl (by kernel_rfl) (by kernel_rfl) (by kernel_rfl) (fun _ _ _ h => h) (.inl ⟨by kernel_rfl, fun w9 h9 => by
        clear hHeld
        have d0 := (h9.cell (p := ⟨w.heap.size, 0, none⟩) hzi).trans i0
        clear h9
        go_simp⟩) hHeld ?_
      refine wpAnyH_take (i := 4) (oi := { dst := some 30, op := Go.Op.binOp Go.BinOp.eql 3 (Go.Operand.tmp 27) (Go.Operand.tmp 29) 3, type := 4, pos := "fault.go:52", after := #[{ on := 1, ground := Go.Ground.data }, { on := 3, ground := Go.Ground.data }], guard := none }) (v := .bool true) rfl (by kernel_rfl) (by kernel_rfl) (by kernel_rfl) (fun _ _ _ h => h) (.inl ⟨by kernel_rfl, fun w9 h9 => by
        clear hHeld h9
        go_simp⟩) hHeld ?_
      refine takeU (i := 5) (some 31) (.bool true) (by kernel_rfl) (by kernel_rfl) (by kernel_rfl) (by kernel_rfl) (by kernel_rfl) (fun _ => by kernel_rfl) (fun _ _ _ h => h) hHeld ?_
      refine skipU (i := 6) (some 32) (by kernel_rfl) (by kernel_rfl) (by kernel_rfl) (by kernel_rfl) (by kernel_rfl) (fun _ _ _ h => h) hHeld ?_
      refine skipU (i := 7) (some 33) (by kernel_rfl) (by kernel_rfl) (by kernel_rfl) (by kernel_rfl) (by kernel_rfl) (fun _ _ _ h => h) hHeld ?_
      refine skipU (i := 8) (some 34) (by kernel_rfl) (by kernel_rfl) (by kernel_rfl) (by kernel_rfl) (by kernel_rfl) (fun _ _ _ h => h) hHeld ?_
      refine skipU (i := 9) (some 35) (by kernel_rfl) (by kernel_rfl) (by kernel_rfl) (by kernel_rfl) (by kernel_rfl) (fun _ _ _ h => h) hHeld ?_
      refine skipU (i := 10) (some 36) (by kernel_rfl) (by kernel_rfl) (by kernel_rfl) (by kernel_rfl) (by kernel_rfl) (fun _ _ _ h => h) hHeld ?_
      refine skipU (i := 11) (some 37) (by kernel_rfl) (by kernel_rfl) (by kernel_rfl) (by kernel_rfl) (by kernel_rfl) (fun _ _ _ h => h) hHeld ?_
      refine skipU (i := 12) (some 38) (by kernel_rfl) (by kernel_rfl) (by kernel_rfl) (by kernel_rfl) (by kernel_rfl) (fun _ _ _ h => h) hHeld ?_
      refine skipU (i := 13) (some 39) (by kernel_rfl) (by kernel_rfl) (by kernel_rfl) (by kernel_rfl) (by kernel_rfl) (fun _ _ _ h => h) hHeld ?_
      refine skipU (i := 14) (some 40) (by kernel_rfl) (by kernel_rfl) (by kernel_rfl) (by kernel_rfl) (by kernel_rfl) (fun _ _ _ h => h) hHeld ?_
      refine takeU (i := 15) (some 41) (.bool true) (by kernel_rfl) (by kernel_rfl) (by kernel_rfl) (by kernel_rfl) (by kernel_rfl) (fun _ => by kernel_rfl) (fun _ _ _ h => h) hHeld ?_
      refine wpAnyH_done (by kernel_rfl) ?_ _
      try simp only [Act.put, List.setIfInBounds_toArray, List.set_cons_zero, List.set_cons_succ]
      go_wp2_with fail
      go_ret
      exact ⟨by rw [hv.out] <;> rfl, hb.trans (hHeld.mono hb.size)⟩
    · have dd : (p.d == L) = false := beq_false_of_ne hdl
      by_cases hvv : V = p.s.v
      · have d2 : (V != p.s.v) = false := by rw [hvv]; simp
        have hv : Hid (codP L row p = 0) := Lib.hid (by unfold codP; rw [if_neg h7, if_pos h6, if_neg (by rw [HVe.out]; simp [hdl, hvv])])
        clear h7 h6 hdl HE hvv
        go_enter Tryz.func57, Tryz.ntmps57
        go_upto_region 1 with (fail)
        obtain ⟨wB, hwB⟩ : ∃ wB, (w.alloc (.cells #[.int .i64 L, .slice ar row.length cr] 108)).alloc (.cells #[.int .i64 p.s.n, .int .i64 p.s.k, .int .i64 p.s.v, .int .i64 p.s.c, .int .i64 p.s.d, .int .i64 p.s.rk, .int .i64 p.s.up, .int .i64 p.s.dn, .slice ad p.s.cv.length cp, .int .i64 p.d, .int .i64 p.u, .bool p.b] 124) = wB := ⟨_, rfl⟩
        have hb : Below w.heap.size w wB := by rw [← hwB]; exact ((Below.refl _ _).alloc (Nat.le_refl _) _).alloc (by simp) _
        have i0 : wB.cell? ⟨w.heap.size, 0, none⟩ = some (.int .i64 L) := by rw [← hwB]; simp [go_sem]
        have i1 : wB.cell? ⟨w.heap.size, 1, none⟩ = some (.slice ar row.length cr) := by rw [← hwB]; simp [go_sem]
        have x0 : wB.cell? ⟨w.heap.size + 1, 0, none⟩ = some (.int .i64 p.s.n) := by rw [← hwB]; simp [go_sem]
        have x1 : wB.cell? ⟨w.heap.size + 1, 1, none⟩ = some (.int .i64 p.s.k) := by rw [← hwB]; simp [go_sem]
        have x2 : wB.cell? ⟨w.heap.size + 1, 2, none⟩ = some (.int .i64 p.s.v) := by rw [← hwB]; simp [go_sem]
        have x3 : wB.cell? ⟨w.heap.size + 1, 3, none⟩ = some (.int .i64 p.s.c) := by rw [← hwB]; simp [go_sem]
        have x4 : wB.cell? ⟨w.heap.size + 1, 4, none⟩ = some (.int .i64 p.s.d) := by rw [← hwB]; simp [go_sem]
        have x5 : wB.cell? ⟨w.heap.size + 1, 5, none⟩ = some (.int .i64 p.s.rk) := by rw [← hwB]; simp [go_sem]
        have x6 : wB.cell? ⟨w.heap.size + 1, 6, none⟩ = some (.int .i64 p.s.up) := by rw [← hwB]; simp [go_sem]
        have x7 : wB.cell? ⟨w.heap.size + 1, 7, none⟩ = some (.int .i64 p.s.dn) := by rw [← hwB]; simp [go_sem]
        have x8 : wB.cell? ⟨w.heap.size + 1, 8, none⟩ = some (.slice ad p.s.cv.length cp) := by rw [← hwB]; simp [go_sem]
        have x9 : wB.cell? ⟨w.heap.size + 1, 9, none⟩ = some (.int .i64 p.d) := by rw [← hwB]; simp [go_sem]
        have x10 : wB.cell? ⟨w.heap.size + 1, 10, none⟩ = some (.int .i64 p.u) := by rw [← hwB]; simp [go_sem]
        have x11 : wB.cell? ⟨w.heap.size + 1, 11, none⟩ = some (.bool p.b) := by rw [← hwB]; simp [go_sem]
        rw [hwB]
        clear hwB
        have hzi := block_lt i0
        have hzx := block_lt x0
        go_wp2_with fail
        refine wp_region_held_drew (S := fun w' => Below wB.heap.size wB w') (by kernel_rfl) ((Below.refl _ _).drew) (fun hHeld => ?_)
        refine takeU (i := 0) (some 26) (.pointer (some ⟨w.heap.size + 1, 9, none⟩)) (by kernel_rfl) (by kernel_rfl) (by kernel_rfl) (by kernel_rfl) (by kernel_rfl) (fun _ => by kernel_rfl) (fun _ _ _ h => h) hHeld ?_
        refine wpAnyH_take (i := 1) (oi := { dst := some 27, op := Go.Op.load 3 (Go.Operand.tmp 26), type := 3, pos := "fault.go:52", after := #[{ on := 0, ground := Go.Ground.data }], guard := none }) (v := .int .i64 p.d) rfl (by kernel_rfl) (by kernel_rfl) (by kernel_rfl) (fun _ _ _ h => h) (.inl ⟨by kernel_rfl, fun w9 h9 => by
          clear hHeld
          have d0 := (h9.cell (p := ⟨w.heap.size + 1, 9, none⟩) hzx).trans x9
          clear h9
          go_simp⟩) hHeld ?_
        refine takeU (i := 2) (some 28) (.pointer (some ⟨w.heap.size, 0, none⟩)) (by kernel_rfl) (by kernel_rfl) (by kernel_rfl) (by kernel_rfl) (by kernel_rfl) (fun _ => by kernel_rfl) (fun _ _ _ h => h) hHeld ?_
        refine wpAnyH_take (i := 3) (oi := { dst := some 29, op := Go.Op.load 3 (Go.Operand.tmp 28), type := 3, pos := "fault.go:52", after := #[{ on := 2, ground := Go.Ground.data }], guard := none }) (v := .int .i64 L) rfl (by kernel_rfl) (by kernel_rfl) (by kernel_rfl) (fun _ _ _ h => h) (.inl ⟨by kernel_rfl, fun w9 h9 => by
          clear hHeld
          have d0 := (h9.cell (p := ⟨w.heap.size, 0, none⟩) hzi).trans i0
          clear h9
          go_simp⟩) hHeld ?_
        refine wpAnyH_take (i := 4) (oi := { dst := some 30, op := Go.Op.binOp Go.BinOp.eql 3 (Go.Operand.tmp 27) (Go.Operand.tmp 29) 3, type := 4, pos := "fault.go:52", after := #[{ on := 1, ground := Go.Ground.data }, { on := 3, ground := Go.Ground.data }], guard := none }) (v := .bool false) rfl (by kernel_rfl) (by kernel_rfl) (by kernel_rfl) (fun _ _ _ h => h) (.inl ⟨by kernel_rfl, fun w9 h9 => by
          clear hHeld h9
          go_simp⟩) hHeld ?_
        refine takeU (i := 5) (some 31) (.bool false) (by kernel_rfl) (by kernel_rfl) (by kernel_rfl) (by kernel_rfl) (by kernel_rfl) (fun _ => by kernel_rfl) (fun _ _ _ h => h) hHeld ?_
        refine takeU (i := 6) (some 32) (.pointer (some ⟨w.heap.size, 1, none⟩)) (by kernel_rfl) (by kernel_rfl) (by kernel_rfl) (by kernel_rfl) (by kernel_rfl) (fun _ => by kernel_rfl) (fun _ _ _ h => h) hHeld ?_
        refine wpAnyH_take (i := 7) (oi := { dst := some 33, op := Go.Op.load 99 (Go.Operand.tmp 32), type := 99, pos := "fault.go:52", after := #[{ on := 6, ground := Go.Ground.data }, { on := 5, ground := Go.Ground.guard }], guard := some (5, false) }) (v := .slice ar row.length cr) rfl (by kernel_rfl) (by kernel_rfl) (by kernel_rfl) (fun _ _ _ h => h) (.inl ⟨by kernel_rfl, fun w9 h9 => by
          clear hHeld
          have d0 := (h9.cell (p := ⟨w.heap.size, 1, none⟩) hzi).trans i1
          clear h9
          go_simp⟩) hHeld ?_
        refine takeU (i := 8) (some 34) (.pointer (some ⟨w.heap.size + 1, 9, none⟩)) (by kernel_rfl) (by kernel_rfl) (by kernel_rfl) (by kernel_rfl) (by kernel_rfl) (fun _ => by kernel_rfl) (fun _ _ _ h => h) hHeld ?_
        refine wpAnyH_take (i := 9) (oi := { dst := some 35, op := Go.Op.load 3 (Go.Operand.tmp 34), type := 3, pos := "fault.go:52", after := #[{ on := 8, ground := Go.Ground.data }, { on := 5, ground := Go.Ground.guard }], guard := some (5, false) }) (v := .int .i64 p.d) rfl (by kernel_rfl) (by kernel_rfl) (by kernel_rfl) (fun _ _ _ h => h) (.inl ⟨by kernel_rfl, fun w9 h9 => by
          clear hHeld
          have d0 := (h9.cell (p := ⟨w.heap.size + 1, 9, none⟩) hzx).trans x9
          clear h9
          go_simp⟩) hHeld ?_
        refine takeU (i := 11) (some 37) (.pointer (some ⟨w.heap.size + 1, 0, none⟩)) (by kernel_rfl) (by kernel_rfl) (by kernel_rfl) (by kernel_rfl) (by kernel_rfl) (fun _ => by kernel_rfl) (fun _ _ _ h => h) hHeld ?_
        refine takeU (i := 12) (some 38) (.pointer (some ⟨w.heap.size + 1, 2, none⟩)) (by kernel_rfl) (by kernel_rfl) (by kernel_rfl) (by kernel_rfl) (by kernel_rfl) (fun _ => by kernel_rfl) (fun _ _ _ h => h) hHeld ?_
        refine wpAnyH_take (i := 13) (oi := { dst := some 39, op := Go.Op.load 3 (Go.Operand.tmp 38), type := 3, pos := "fault.go:52", after := #[{ on := 12, ground := Go.Ground.data }, { on := 5, ground := Go.Ground.guard }], guard := some (5, false) }) (v := .int .i64 p.s.v) rfl (by kernel_rfl) (by kernel_rfl) (by kernel_rfl) (fun _ _ _ h => h) (.inl ⟨by kernel_rfl, fun w9 h9 => by
          clear hHeld
          have d0 := (h9.cell (p := ⟨w.heap.size + 1, 2, none⟩) hzx).trans x2
          clear h9
          go_simp⟩) hHeld ?_
        try simp only [Act.put, List.setIfInBounds_toArray, List.set_cons_zero, List.set_cons_succ]
        refine wpAnyH_ready (rs := [10]) (by kernel_rfl) (by simp) ?_
        refine AllReadyH.cons (o := { dst := some 36, op := Go.Op.call { callee := Go.Callee.value (Go.Operand.func 49), args := #[Go.Operand.tmp 33, Go.Operand.const (Go.Value.int Go.IntKind.i64 1), Go.Operand.tmp 35], argTypes := #[99, 3, 3] }, type := 3, pos := "fault.go:52", after := #[{ on := 7, ground := Go.Ground.data }, { on := 9, ground := Go.Ground.data }, { on := 5, ground := Go.Ground.chain }, { on := 5, ground := Go.Ground.guard }], guard := some (5, false) }) rfl (fun K hK => ?_) AllReadyH.nil
        go_simp
        go_at_call 49
        refine (HH.out _ (hb.trans (hHeld.mono hb.size))).mono ?_
        rintro e w109 ⟨rfl, hb109⟩
        refine hK.out _ _ (hHeld.trans (hb109.mono hHeld.size)) (fun hHeld => ?_)
        clear hK K hb109
        try simp only [Act.put, List.setIfInBounds_toArray, List.set_cons_zero, List.set_cons_succ]
        refine wpAnyH_take (i := 14) (oi := { dst := some 40, op := Go.Op.binOp Go.BinOp.neq 3 (Go.Operand.tmp 36) (Go.Operand.tmp 39) 3, type := 4, pos := "fault.go:52", after := #[{ on := 10, ground := Go.Ground.data }, { on := 13, ground := Go.Ground.data }, { on := 5, ground := Go.Ground.guard }], guard := some (5, false) }) (v := .bool false) rfl (by kernel_rfl) (by kernel_rfl) (by kernel_rfl) (fun _ _ _ h => h) (.inl ⟨by kernel_rfl, fun w9 h9 => by
          clear hHeld h9
          go_simp⟩) hHeld ?_
        refine takeU (i := 15) (some 41) (.bool false) (by kernel_rfl) (by kernel_rfl) (by kernel_rfl) (by kernel_rfl) (by kernel_rfl) (fun _ => by kernel_rfl) (fun _ _ _ h => h) hHeld ?_
        refine wpAnyH_done (by kernel_rfl) ?_ _
        try simp only [Act.put, List.setIfInBounds_toArray, List.set_cons_zero, List.set_cons_succ]
        go_wp2_with fail
        go_ret
        exact ⟨by rw [hv.out] <;> rfl, hb.trans (hHeld.mono hb.size)⟩
      · have d2 : (V != p.s.v) = true := by simp [hvv]
        have hv : Hid (codP L row p = 2) := Lib.hid (by unfold codP; rw [if_neg h7, if_pos h6, if_pos (.inr (by rw [HVe.out]; exact hvv))])
        clear h7 h6 hdl HE hvv
        go_enter Tryz.func57, Tryz.ntmps57
        go_upto_region 1 with (fail)
        obtain ⟨wB, hwB⟩ : ∃ wB, (w.alloc (.cells #[.int .i64 L, .slice ar row.length cr] 108)).alloc (.cells #[.int .i64 p.s.n, .int .i64 p.s.k, .int .i64 p.s.v, .int .i64 p.s.c, .int .i64 p.s.d, .int .i64 p.s.rk, .int .i64 p.s.up, .int .i64 p.s.dn, .slice ad p.s.cv.length cp, .int .i64 p.d, .int .i64 p.u, .bool p.b] 124) = wB := ⟨_, rfl⟩
        have hb : Below w.heap.size w wB := by rw [← hwB]; exact ((Below.refl _ _).alloc (Nat.le_refl _) _).alloc (by simp) _
        have i0 : wB.cell? ⟨w.heap.size, 0, none⟩ = some (.int .i64 L) := by rw [← hwB]; simp [go_sem]
        have i1 : wB.cell? ⟨w.heap.size, 1, none⟩ = some (.slice ar row.length cr) := by rw [← hwB]; simp [go_sem]
        have x0 : wB.cell? ⟨w.heap.size + 1, 0, none⟩ = some (.int .i64 p.s.n) := by rw [← hwB]; simp [go_sem]
        have x1 : wB.cell? ⟨w.heap.size + 1, 1, none⟩ = some (.int .i64 p.s.k) := by rw [← hwB]; simp [go_sem]
        have x2 : wB.cell? ⟨w.heap.size + 1, 2, none⟩ = some (.int .i64 p.s.v) := by rw [← hwB]; simp [go_sem]
        have x3 : wB.cell? ⟨w.heap.size + 1, 3, none⟩ = some (.int .i64 p.s.c) := by rw [← hwB]; simp [go_sem]
        have x4 : wB.cell? ⟨w.heap.size + 1, 4, none⟩ = some (.int .i64 p.s.d) := by rw [← hwB]; simp [go_sem]
        have x5 : wB.cell? ⟨w.heap.size + 1, 5, none⟩ = some (.int .i64 p.s.rk) := by rw [← hwB]; simp [go_sem]
        have x6 : wB.cell? ⟨w.heap.size + 1, 6, none⟩ = some (.int .i64 p.s.up) := by rw [← hwB]; simp [go_sem]
        have x7 : wB.cell? ⟨w.heap.size + 1, 7, none⟩ = some (.int .i64 p.s.dn) := by rw [← hwB]; simp [go_sem]
        have x8 : wB.cell? ⟨w.heap.size + 1, 8, none⟩ = some (.slice ad p.s.cv.length cp) := by rw [← hwB]; simp [go_sem]
        have x9 : wB.cell? ⟨w.heap.size + 1, 9, none⟩ = some (.int .i64 p.d) := by rw [← hwB]; simp [go_sem]
        have x10 : wB.cell? ⟨w.heap.size + 1, 10, none⟩ = some (.int .i64 p.u) := by rw [← hwB]; simp [go_sem]
        have x11 : wB.cell? ⟨w.heap.size + 1, 11, none⟩ = some (.bool p.b) := by rw [← hwB]; simp [go_sem]
        rw [hwB]
        clear hwB
        have hzi := block_lt i0
        have hzx := block_lt x0
        go_wp2_with fail
        refine wp_region_held_drew (S := fun w' => Below wB.heap.size wB w') (by kernel_rfl) ((Below.refl _ _).drew) (fun hHeld => ?_)
        refine takeU (i := 0) (some 26) (.pointer (some ⟨w.heap.size + 1, 9, none⟩)) (by kernel_rfl) (by kernel_rfl) (by kernel_rfl) (by kernel_rfl) (by kernel_rfl) (fun _ => by kernel_rfl) (fun _ _ _ h => h) hHeld ?_
        refine wpAnyH_take (i := 1) (oi := { dst := some 27, op := Go.Op.load 3 (Go.Operand.tmp 26), type := 3, pos := "fault.go:52", after := #[{ on := 0, ground := Go.Ground.data }], guard := none }) (v := .int .i64 p.d) rfl (by kernel_rfl) (by kernel_rfl) (by kernel_rfl) (fun _ _ _ h => h) (.inl ⟨by kernel_rfl, fun w9 h9 => by
          clear hHeld
          have d0 := (h9.cell (p := ⟨w.heap.size + 1, 9, none⟩) hzx).trans x9
          clear h9
          go_simp⟩) hHeld ?_
        refine takeU (i := 2) (some 28) (.pointer (some ⟨w.heap.size, 0, none⟩)) (by kernel_rfl) (by kernel_rfl) (by kernel_rfl) (by kernel_rfl) (by kernel_rfl) (fun _ => by kernel_rfl) (fun _ _ _ h => h) hHeld ?_
        refine wpAnyH_take (i := 3) (oi := { dst := some 29, op := Go.Op.load 3 (Go.Operand.tmp 28), type := 3, pos := "fault.go:52", after := #[{ on := 2, ground := Go.Ground.data }], guard := none }) (v := .int .i64 L) rfl (by kernel_rfl) (by kernel_rfl) (by kernel_rfl) (fun _ _ _ h => h) (.inl ⟨by kernel_rfl, fun w9 h9 => by
          clear hHeld
          have d0 := (h9.cell (p := ⟨w.heap.size, 0, none⟩) hzi).trans i0
          clear h9
          go_simp⟩) hHeld ?_
        refine wpAnyH_take (i := 4) (oi := { dst := some 30, op := Go.Op.binOp Go.BinOp.eql 3 (Go.Operand.tmp 27) (Go.Operand.tmp 29) 3, type := 4, pos := "fault.go:52", after := #[{ on := 1, ground := Go.Ground.data }, { on := 3, ground := Go.Ground.data }], guard := none }) (v := .bool false) rfl (by kernel_rfl) (by kernel_rfl) (by kernel_rfl) (fun _ _ _ h => h) (.inl ⟨by kernel_rfl, fun w9 h9 => by
          clear hHeld h9
          go_simp⟩) hHeld ?_
        refine takeU (i := 5) (some 31) (.bool false) (by kernel_rfl) (by kernel_rfl) (by kernel_rfl) (by kernel_rfl) (by kernel_rfl) (fun _ => by kernel_rfl) (fun _ _ _ h => h) hHeld ?_
        refine takeU (i := 6) (some 32) (.pointer (some ⟨w.heap.size, 1, none⟩)) (by kernel_rfl) (by kernel_rfl) (by kernel_rfl) (by kernel_rfl) (by kernel_rfl) (fun _ => by kernel_rfl) (fun _ _ _ h => h) hHeld ?_
        refine wpAnyH_take (i := 7) (oi := { dst := some 33, op := Go.Op.load 99 (Go.Operand.tmp 32), type := 99, pos := "fault.go:52", after := #[{ on := 6, ground := Go.Ground.data }, { on := 5, ground := Go.Ground.guard }], guard := some (5, false) }) (v := .slice ar row.length cr) rfl (by kernel_rfl) (by kernel_rfl) (by kernel_rfl) (fun _ _ _ h => h) (.inl ⟨by kernel_rfl, fun w9 h9 => by
          clear hHeld
          have d0 := (h9.cell (p := ⟨w.heap.size, 1, none⟩) hzi).trans i1
          clear h9
          go_simp⟩) hHeld ?_
        refine takeU (i := 8) (some 34) (.pointer (some ⟨w.heap.size + 1, 9, none⟩)) (by kernel_rfl) (by kernel_rfl) (by kernel_rfl) (by kernel_rfl) (by kernel_rfl) (fun _ => by kernel_rfl) (fun _ _ _ h => h) hHeld ?_
        refine wpAnyH_take (i := 9) (oi := { dst := some 35, op := Go.Op.load 3 (Go.Operand.tmp 34), type := 3, pos := "fault.go:52", after := #[{ on := 8, ground := Go.Ground.data }, { on := 5, ground := Go.Ground.guard }], guard := some (5, false) }) (v := .int .i64 p.d) rfl (by kernel_rfl) (by kernel_rfl) (by kernel_rfl) (fun _ _ _ h => h) (.inl ⟨by kernel_rfl, fun w9 h9 => by
          clear hHeld
          have d0 := (h9.cell (p := ⟨w.heap.size + 1, 9, none⟩) hzx).trans x9
          clear h9
          go_simp⟩) hHeld ?_
        refine takeU (i := 11) (some 37) (.pointer (some ⟨w.heap.size + 1, 0, none⟩)) (by kernel_rfl) (by kernel_rfl) (by kernel_rfl) (by kernel_rfl) (by kernel_rfl) (fun _ => by kernel_rfl) (fun _ _ _ h => h) hHeld ?_
        refine takeU (i := 12) (some 38) (.pointer (some ⟨w.heap.size + 1, 2, none⟩)) (by kernel_rfl) (by kernel_rfl) (by kernel_rfl) (by kernel_rfl) (by kernel_rfl) (fun _ => by kernel_rfl) (fun _ _ _ h => h) hHeld ?_
        refine wpAnyH_take (i := 13) (oi := { dst := some 39, op := Go.Op.load 3 (Go.Operand.tmp 38), type := 3, pos := "fault.go:52", after := #[{ on := 12, ground := Go.Ground.data }, { on := 5, ground := Go.Ground.guard }], guard := some (5, false) }) (v := .int .i64 p.s.v) rfl (by kernel_rfl) (by kernel_rfl) (by kernel_rfl) (fun _ _ _ h => h) (.inl ⟨by kernel_rfl, fun w9 h9 => by
          clear hHeld
          have d0 := (h9.cell (p := ⟨w.heap.size + 1, 2, none⟩) hzx).trans x2
          clear h9
          go_simp⟩) hHeld ?_
        try simp only [Act.put, List.setIfInBounds_toArray, List.set_cons_zero, List.set_cons_succ]
        refine wpAnyH_ready (rs := [10]) (by kernel_rfl) (by simp) ?_
        refine AllReadyH.cons (o := { dst := some 36, op := Go.Op.call { callee := Go.Callee.value (Go.Operand.func 49), args := #[Go.Operand.tmp 33, Go.Operand.const (Go.Value.int Go.IntKind.i64 1), Go.Operand.tmp 35], argTypes := #[99, 3, 3] }, type := 3, pos := "fault.go:52", after := #[{ on := 7, ground := Go.Ground.data }, { on := 9, ground := Go.Ground.data }, { on := 5, ground := Go.Ground.chain }, { on := 5, ground := Go.Ground.guard }], guard := some (5, false) }) rfl (fun K hK => ?_) AllReadyH.nil
        go_simp
        go_at_call 49
        refine (HH.out _ (hb.trans (hHeld.mono hb.size))).mono ?_
        rintro e w109 ⟨rfl, hb109⟩
        refine hK.out _ _ (hHeld.trans (hb109.mono hHeld.size)) (fun hHeld => ?_)
        clear hK K hb109
        try simp only [Act.put, List.setIfInBounds_toArray, List.set_cons_zero, List.set_cons_succ]
        refine wpAnyH_take (i := 14) (oi := { dst := some 40, op := Go.Op.binOp Go.BinOp.neq 3 (Go.Operand.tmp 36) (Go.Operand.tmp 39) 3, type := 4, pos := "fault.go:52", after := #[{ on := 10, ground := Go.Ground.data }, { on := 13, ground := Go.Ground.data }, { on := 5, ground := Go.Ground.guard }], guard := some (5, false) }) (v := .bool true) rfl (by kernel_rfl) (by kernel_rfl) (by kernel_rfl) (fun _ _ _ h => h) (.inl ⟨by kernel_rfl, fun w9 h9 => by
          clear hHeld h9
          go_simp⟩) hHeld ?_
        refine takeU (i := 15) (some 41) (.bool true) (by kernel_rfl) (by kernel_rfl) (by kernel_rfl) (by kernel_rfl) (by kernel_rfl) (fun _ => by kernel_rfl) (fun _ _ _ h => h) hHeld ?_
        refine wpAnyH_done (by kernel_rfl) ?_ _
        try simp only [Act.put, List.setIfInBounds_toArray, List.set_cons_zero, List.set_cons_succ]
        go_wp2_with fail
        go_ret
        exact ⟨by rw [hv.out] <;> rfl, hb.trans (hHeld.mono hb.size)⟩
  by_cases h2 : p.s.k = 2
  · cases eb with
    | true =>
      have hv : Hid (codP L row p = 0) := Lib.hid (by unfold codP; rw [if_neg h7, if_neg h6, if_pos (.inl h2), HEe.out, if_pos rfl])
      have k7 : (p.s.k == 7) = false := beq_false_of_ne h7
      have k6 : (p.s.k == 6) = false := beq_false_of_ne h6
      have k2 : (p.s.k == 2) = true := by rw [h2]; rfl
      clear h7 h6 h2 HH
      go_enter Tryz.func57, Tryz.ntmps57
      go_upto_region 1 with (fail)
      obtain ⟨wB, hwB⟩ : ∃ wB, (w.alloc (.cells #[.int .i64 L, .slice ar row.length cr] 108)).alloc (.cells #[.int .i64 p.s.n, .int .i64 p.s.k, .int .i64 p.s.v, .int .i64 p.s.c, .int .i64 p.s.d, .int .i64 p.s.rk, .int .i64 p.s.up, .int .i64 p.s.dn, .slice ad p.s.cv.length cp, .int .i64 p.d, .int .i64 p.u, .bool p.b] 124) = wB := ⟨_, rfl⟩
      have hb : Below w.heap.size w wB := by rw [← hwB]; exact ((Below.refl _ _).alloc (Nat.le_refl _) _).alloc (by simp) _
      have i0 : wB.cell? ⟨w.heap.size, 0, none⟩ = some (.int .i64 L) := by rw [← hwB]; simp [go_sem]
      have i1 : wB.cell? ⟨w.heap.size, 1, none⟩ = some (.slice ar row.length cr) := by rw [← hwB]; simp [go_sem]
      have x0 : wB.cell? ⟨w.heap.size + 1, 0, none⟩ = some (.int .i64 p.s.n) := by rw [← hwB]; simp [go_sem]
      have x1 : wB.cell? ⟨w.heap.size + 1, 1, none⟩ = some (.int .i64 p.s.k) := by rw [← hwB]; simp [go_sem]
      have x2 : wB.cell? ⟨w.heap.size + 1, 2, none⟩ = some (.int .i64 p.s.v) := by rw [← hwB]; simp [go_sem]
      have x3 : wB.cell? ⟨w.heap.size + 1, 3, none⟩ = some (.int .i64 p.s.c) := by rw [← hwB]; simp [go_sem]
      have x4 : wB.cell? ⟨w.heap.size + 1, 4, none⟩ = some (.int .i64 p.s.d) := by rw [← hwB]; simp [go_sem]
      have x5 : wB.cell? ⟨w.heap.size + 1, 5, none⟩ = some (.int .i64 p.s.rk) := by rw [← hwB]; simp [go_sem]
      have x6 : wB.cell? ⟨w.heap.size + 1, 6, none⟩ = some (.int .i64 p.s.up) := by rw [← hwB]; simp [go_sem]
      have x7 : wB.cell? ⟨w.heap.size + 1, 7, none⟩ = some (.int .i64 p.s.dn) := by rw [← hwB]; simp [go_sem]
      have x8 : wB.cell? ⟨w.heap.size + 1, 8, none⟩ = some (.slice ad p.s.cv.length cp) := by rw [← hwB]; simp [go_sem]
      have x9 : wB.cell? ⟨w.heap.size + 1, 9, none⟩ = some (.int .i64 p.d) := by rw [← hwB]; simp [go_sem]
      have x10 : wB.cell? ⟨w.heap.size + 1, 10, none⟩ = some (.int .i64 p.u) := by rw [← hwB]; simp [go_sem]
      have x11 : wB.cell? ⟨w.heap.size + 1, 11, none⟩ = some (.bool p.b) := by rw [← hwB]; simp [go_sem]
      rw [hwB]
      clear hwB
      go_wp2_with (go_at_call 97; refine (HE.out _ (wB.heap.size) ((hb.alloc hb.size _)) (by have := ex_ints2 wB; exact this)).mono ?_; rintro e w2 ⟨rfl, hb2⟩)
      go_ret
      exact ⟨by rw [hv.out] <;> rfl, (hb.alloc hb.size _).trans (hb2.mono (hb.alloc hb.size _).size)⟩
    | false =>
      have hv : Hid (codP L row p = 3) := Lib.hid (by unfold codP; rw [if_neg h7, if_neg h6, if_pos (.inl h2), HEe.out, if_neg (by simp)])
      have k7 : (p.s.k == 7) = false := beq_false_of_ne h7
      have k6 : (p.s.k == 6) = false := beq_false_of_ne h6
      have k2 : (p.s.k == 2) = true := by rw [h2]; rfl
      clear h7 h6 h2 HH
      go_enter Tryz.func57, Tryz.ntmps57
      go_upto_region 1 with (fail)
      obtain ⟨wB, hwB⟩ : ∃ wB, (w.alloc (.cells #[.int .i64 L, .slice ar row.length cr] 108)).alloc (.cells #[.int .i64 p.s.n, .int .i64 p.s.k, .int .i64 p.s.v, .int .i64 p.s.c, .int .i64 p.s.d, .int .i64 p.s.rk, .int .i64 p.s.up, .int .i64 p.s.dn, .slice ad p.s.cv.length cp, .int .i64 p.d, .int .i64 p.u, .bool p.b] 124) = wB := ⟨_, rfl⟩
      have hb : Below w.heap.size w wB := by rw [← hwB]; exact ((Below.refl _ _).alloc (Nat.le_refl _) _).alloc (by simp) _
      have i0 : wB.cell? ⟨w.heap.size, 0, none⟩ = some (.int .i64 L) := by rw [← hwB]; simp [go_sem]
      have i1 : wB.cell? ⟨w.heap.size, 1, none⟩ = some (.slice ar row.length cr) := by rw [← hwB]; simp [go_sem]
      have x0 : wB.cell? ⟨w.heap.size + 1, 0, none⟩ = some (.int .i64 p.s.n) := by rw [← hwB]; simp [go_sem]
      have x1 : wB.cell? ⟨w.heap.size + 1, 1, none⟩ = some (.int .i64 p.s.k) := by rw [← hwB]; simp [go_sem]
      have x2 : wB.cell? ⟨w.heap.size + 1, 2, none⟩ = some (.int .i64 p.s.v) := by rw [← hwB]; simp [go_sem]
      have x3 : wB.cell? ⟨w.heap.size + 1, 3, none⟩ = some (.int .i64 p.s.c) := by rw [← hwB]; simp [go_sem]
      have x4 : wB.cell? ⟨w.heap.size + 1, 4, none⟩ = some (.int .i64 p.s.d) := by rw [← hwB]; simp [go_sem]
      have x5 : wB.cell? ⟨w.heap.size + 1, 5, none⟩ = some (.int .i64 p.s.rk) := by rw [← hwB]; simp [go_sem]
      have x6 : wB.cell? ⟨w.heap.size + 1, 6, none⟩ = some (.int .i64 p.s.up) := by rw [← hwB]; simp [go_sem]
      have x7 : wB.cell? ⟨w.heap.size + 1, 7, none⟩ = some (.int .i64 p.s.dn) := by rw [← hwB]; simp [go_sem]
      have x8 : wB.cell? ⟨w.heap.size + 1, 8, none⟩ = some (.slice ad p.s.cv.length cp) := by rw [← hwB]; simp [go_sem]
      have x9 : wB.cell? ⟨w.heap.size + 1, 9, none⟩ = some (.int .i64 p.d) := by rw [← hwB]; simp [go_sem]
      have x10 : wB.cell? ⟨w.heap.size + 1, 10, none⟩ = some (.int .i64 p.u) := by rw [← hwB]; simp [go_sem]
      have x11 : wB.cell? ⟨w.heap.size + 1, 11, none⟩ = some (.bool p.b) := by rw [← hwB]; simp [go_sem]
      rw [hwB]
      clear hwB
      go_wp2_with (go_at_call 97; refine (HE.out _ (wB.heap.size) ((hb.alloc hb.size _)) (by have := ex_ints2 wB; exact this)).mono ?_; rintro e w2 ⟨rfl, hb2⟩)
      go_ret
      exact ⟨by rw [hv.out] <;> rfl, (hb.alloc hb.size _).trans (hb2.mono (hb.alloc hb.size _).size)⟩
  by_cases h4 : p.s.k = 4
  · cases eb with
    | true =>
      have hv : Hid (codP L row p = 0) := Lib.hid (by unfold codP; rw [if_neg h7, if_neg h6, if_pos (.inr (.inl h4)), HEe.out, if_pos rfl])
      have k7 : (p.s.k == 7) = false := beq_false_of_ne h7
      have k6 : (p.s.k == 6) = false := beq_false_of_ne h6
      have k2 : (p.s.k == 2) = false := beq_false_of_ne h2
      have k4 : (p.s.k == 4) = true := by rw [h4]; rfl
      clear h7 h6 h2 h4 HH
      go_enter Tryz.func57, Tryz.ntmps57
      go_upto_region 1 with (fail)
      obtain ⟨wB, hwB⟩ : ∃ wB, (w.alloc (.cells #[.int .i64 L, .slice ar row.length cr] 108)).alloc (.cells #[.int .i64 p.s.n, .int .i64 p.s.k, .int .i64 p.s.v, .int .i64 p.s.c, .int .i64 p.s.d, .int .i64 p.s.rk, .int .i64 p.s.up, .int .i64 p.s.dn, .slice ad p.s.cv.length cp, .int .i64 p.d, .int .i64 p.u, .bool p.b] 124) = wB := ⟨_, rfl⟩
      have hb : Below w.heap.size w wB := by rw [← hwB]; exact ((Below.refl _ _).alloc (Nat.le_refl _) _).alloc (by simp) _
      have i0 : wB.cell? ⟨w.heap.size, 0, none⟩ = some (.int .i64 L) := by rw [← hwB]; simp [go_sem]
      have i1 : wB.cell? ⟨w.heap.size, 1, none⟩ = some (.slice ar row.length cr) := by rw [← hwB]; simp [go_sem]
      have x0 : wB.cell? ⟨w.heap.size + 1, 0, none⟩ = some (.int .i64 p.s.n) := by rw [← hwB]; simp [go_sem]
      have x1 : wB.cell? ⟨w.heap.size + 1, 1, none⟩ = some (.int .i64 p.s.k) := by rw [← hwB]; simp [go_sem]
      have x2 : wB.cell? ⟨w.heap.size + 1, 2, none⟩ = some (.int .i64 p.s.v) := by rw [← hwB]; simp [go_sem]
      have x3 : wB.cell? ⟨w.heap.size + 1, 3, none⟩ = some (.int .i64 p.s.c) := by rw [← hwB]; simp [go_sem]
      have x4 : wB.cell? ⟨w.heap.size + 1, 4, none⟩ = some (.int .i64 p.s.d) := by rw [← hwB]; simp [go_sem]
      have x5 : wB.cell? ⟨w.heap.size + 1, 5, none⟩ = some (.int .i64 p.s.rk) := by rw [← hwB]; simp [go_sem]
      have x6 : wB.cell? ⟨w.heap.size + 1, 6, none⟩ = some (.int .i64 p.s.up) := by rw [← hwB]; simp [go_sem]
      have x7 : wB.cell? ⟨w.heap.size + 1, 7, none⟩ = some (.int .i64 p.s.dn) := by rw [← hwB]; simp [go_sem]
      have x8 : wB.cell? ⟨w.heap.size + 1, 8, none⟩ = some (.slice ad p.s.cv.length cp) := by rw [← hwB]; simp [go_sem]
      have x9 : wB.cell? ⟨w.heap.size + 1, 9, none⟩ = some (.int .i64 p.d) := by rw [← hwB]; simp [go_sem]
      have x10 : wB.cell? ⟨w.heap.size + 1, 10, none⟩ = some (.int .i64 p.u) := by rw [← hwB]; simp [go_sem]
      have x11 : wB.cell? ⟨w.heap.size + 1, 11, none⟩ = some (.bool p.b) := by rw [← hwB]; simp [go_sem]
      rw [hwB]
      clear hwB
      go_wp2_with (go_at_call 97; refine (HE.out _ (wB.heap.size) ((hb.alloc hb.size _)) (by have := ex_ints2 wB; exact this)).mono ?_; rintro e w2 ⟨rfl, hb2⟩)
      go_ret
      exact ⟨by rw [hv.out] <;> rfl, (hb.alloc hb.size _).trans (hb2.mono (hb.alloc hb.size _).size)⟩
    | false =>
      have hv : Hid (codP L row p = 3) := Lib.hid (by unfold codP; rw [if_neg h7, if_neg h6, if_pos (.inr (.inl h4)), HEe.out, if_neg (by simp)])
      have k7 : (p.s.k == 7) = false := beq_false_of_ne h7
      have k6 : (p.s.k == 6) = false := beq_false_of_ne h6
      have k2 : (p.s.k == 2) = false := beq_false_of_ne h2
      have k4 : (p.s.k == 4) = true := by rw [h4]; rfl
      clear h7 h6 h2 h4 HH
      go_enter Tryz.func57, Tryz.ntmps57
      go_upto_region 1 with (fail)
      obtain ⟨wB, hwB⟩ : ∃ wB, (w.alloc (.cells #[.int .i64 L, .slice ar row.length cr] 108)).alloc (.cells #[.int .i64 p.s.n, .int .i64 p.s.k, .int .i64 p.s.v, .int .i64 p.s.c, .int .i64 p.s.d, .int .i64 p.s.rk, .int .i64 p.s.up, .int .i64 p.s.dn, .slice ad p.s.cv.length cp, .int .i64 p.d, .int .i64 p.u, .bool p.b] 124) = wB := ⟨_, rfl⟩
      have hb : Below w.heap.size w wB := by rw [← hwB]; exact ((Below.refl _ _).alloc (Nat.le_refl _) _).alloc (by simp) _
      have i0 : wB.cell? ⟨w.heap.size, 0, none⟩ = some (.int .i64 L) := by rw [← hwB]; simp [go_sem]
      have i1 : wB.cell? ⟨w.heap.size, 1, none⟩ = some (.slice ar row.length cr) := by rw [← hwB]; simp [go_sem]
      have x0 : wB.cell? ⟨w.heap.size + 1, 0, none⟩ = some (.int .i64 p.s.n) := by rw [← hwB]; simp [go_sem]
      have x1 : wB.cell? ⟨w.heap.size + 1, 1, none⟩ = some (.int .i64 p.s.k) := by rw [← hwB]; simp [go_sem]
      have x2 : wB.cell? ⟨w.heap.size + 1, 2, none⟩ = some (.int .i64 p.s.v) := by rw [← hwB]; simp [go_sem]
      have x3 : wB.cell? ⟨w.heap.size + 1, 3, none⟩ = some (.int .i64 p.s.c) := by rw [← hwB]; simp [go_sem]
      have x4 : wB.cell? ⟨w.heap.size + 1, 4, none⟩ = some (.int .i64 p.s.d) := by rw [← hwB]; simp [go_sem]
      have x5 : wB.cell? ⟨w.heap.size + 1, 5, none⟩ = some (.int .i64 p.s.rk) := by rw [← hwB]; simp [go_sem]
      have x6 : wB.cell? ⟨w.heap.size + 1, 6, none⟩ = some (.int .i64 p.s.up) := by rw [← hwB]; simp [go_sem]
      have x7 : wB.cell? ⟨w.heap.size + 1, 7, none⟩ = some (.int .i64 p.s.dn) := by rw [← hwB]; simp [go_sem]
      have x8 : wB.cell? ⟨w.heap.size + 1, 8, none⟩ = some (.slice ad p.s.cv.length cp) := by rw [← hwB]; simp [go_sem]
      have x9 : wB.cell? ⟨w.heap.size + 1, 9, none⟩ = some (.int .i64 p.d) := by rw [← hwB]; simp [go_sem]
      have x10 : wB.cell? ⟨w.heap.size + 1, 10, none⟩ = some (.int .i64 p.u) := by rw [← hwB]; simp [go_sem]
      have x11 : wB.cell? ⟨w.heap.size + 1, 11, none⟩ = some (.bool p.b) := by rw [← hwB]; simp [go_sem]
      rw [hwB]
      clear hwB
      go_wp2_with (go_at_call 97; refine (HE.out _ (wB.heap.size) ((hb.alloc hb.size _)) (by have := ex_ints2 wB; exact this)).mono ?_; rintro e w2 ⟨rfl, hb2⟩)
      go_ret
      exact ⟨by rw [hv.out] <;> rfl, (hb.alloc hb.size _).trans (hb2.mono (hb.alloc hb.size _).size)⟩
  by_cases h5 : p.s.k = 5
  · cases eb with
    | true =>
      have hv : Hid (codP L row p = 0) := Lib.hid (by unfold codP; rw [if_neg h7, if_neg h6, if_pos (.inr (.inr h5)), HEe.out, if_pos rfl])
      have k7 : (p.s.k == 7) = false := beq_false_of_ne h7
      have k6 : (p.s.k == 6) = false := beq_false_of_ne h6
      have k2 : (p.s.k == 2) = false := beq_false_of_ne h2
      have k4 : (p.s.k == 4) = false := beq_false_of_ne h4
      have k5 : (p.s.k == 5) = true := by rw [h5]; rfl
      clear h7 h6 h2 h4 h5 HH
      go_enter Tryz.func57, Tryz.ntmps57
      go_upto_region 1 with (fail)
      obtain ⟨wB, hwB⟩ : ∃ wB, (w.alloc (.cells #[.int .i64 L, .slice ar row.length cr] 108)).alloc (.cells #[.int .i64 p.s.n, .int .i64 p.s.k, .int .i64 p.s.v, .int .i64 p.s.c, .int .i64 p.s.d, .int .i64 p.s.rk, .int .i64 p.s.up, .int .i64 p.s.dn, .slice ad p.s.cv.length cp, .int .i64 p.d, .int .i64 p.u, .bool p.b] 124) = wB := ⟨_, rfl⟩
      have hb : Below w.heap.size w wB := by rw [← hwB]; exact ((Below.refl _ _).alloc (Nat.le_refl _) _).alloc (by simp) _
      have i0 : wB.cell? ⟨w.heap.size, 0, none⟩ = some (.int .i64 L) := by rw [← hwB]; simp [go_sem]
      have i1 : wB.cell? ⟨w.heap.size, 1, none⟩ = some (.slice ar row.length cr) := by rw [← hwB]; simp [go_sem]
      have x0 : wB.cell? ⟨w.heap.size + 1, 0, none⟩ = some (.int .i64 p.s.n) := by rw [← hwB]; simp [go_sem]
      have x1 : wB.cell? ⟨w.heap.size + 1, 1, none⟩ = some (.int .i64 p.s.k) := by rw [← hwB]; simp [go_sem]
      have x2 : wB.cell? ⟨w.heap.size + 1, 2, none⟩ = some (.int .i64 p.s.v) := by rw [← hwB]; simp [go_sem]
      have x3 : wB.cell? ⟨w.heap.size + 1, 3, none⟩ = some (.int .i64 p.s.c) := by rw [← hwB]; simp [go_sem]
      have x4 : wB.cell? ⟨w.heap.size + 1, 4, none⟩ = some (.int .i64 p.s.d) := by rw [← hwB]; simp [go_sem]
      have x5 : wB.cell? ⟨w.heap.size + 1, 5, none⟩ = some (.int .i64 p.s.rk) := by rw [← hwB]; simp [go_sem]
      have x6 : wB.cell? ⟨w.heap.size + 1, 6, none⟩ = some (.int .i64 p.s.up) := by rw [← hwB]; simp [go_sem]
      have x7 : wB.cell? ⟨w.heap.size + 1, 7, none⟩ = some (.int .i64 p.s.dn) := by rw [← hwB]; simp [go_sem]
      have x8 : wB.cell? ⟨w.heap.size + 1, 8, none⟩ = some (.slice ad p.s.cv.length cp) := by rw [← hwB]; simp [go_sem]
      have x9 : wB.cell? ⟨w.heap.size + 1, 9, none⟩ = some (.int .i64 p.d) := by rw [← hwB]; simp [go_sem]
      have x10 : wB.cell? ⟨w.heap.size + 1, 10, none⟩ = some (.int .i64 p.u) := by rw [← hwB]; simp [go_sem]
      have x11 : wB.cell? ⟨w.heap.size + 1, 11, none⟩ = some (.bool p.b) := by rw [← hwB]; simp [go_sem]
      rw [hwB]
      clear hwB
      go_wp2_with (go_at_call 97; refine (HE.out _ (wB.heap.size) ((hb.alloc hb.size _)) (by have := ex_ints2 wB; exact this)).mono ?_; rintro e w2 ⟨rfl, hb2⟩)
      go_ret
      exact ⟨by rw [hv.out] <;> rfl, (hb.alloc hb.size _).trans (hb2.mono (hb.alloc hb.size _).size)⟩
    | false =>
      have hv : Hid (codP L row p = 3) := Lib.hid (by unfold codP; rw [if_neg h7, if_neg h6, if_pos (.inr (.inr h5)), HEe.out, if_neg (by simp)])
      have k7 : (p.s.k == 7) = false := beq_false_of_ne h7
      have k6 : (p.s.k == 6) = false := beq_false_of_ne h6
      have k2 : (p.s.k == 2) = false := beq_false_of_ne h2
      have k4 : (p.s.k == 4) = false := beq_false_of_ne h4
      have k5 : (p.s.k == 5) = true := by rw [h5]; rfl
      clear h7 h6 h2 h4 h5 HH
      go_enter Tryz.func57, Tryz.ntmps57
      go_upto_region 1 with (fail)
      obtain ⟨wB, hwB⟩ : ∃ wB, (w.alloc (.cells #[.int .i64 L, .slice ar row.length cr] 108)).alloc (.cells #[.int .i64 p.s.n, .int .i64 p.s.k, .int .i64 p.s.v, .int .i64 p.s.c, .int .i64 p.s.d, .int .i64 p.s.rk, .int .i64 p.s.up, .int .i64 p.s.dn, .slice ad p.s.cv.length cp, .int .i64 p.d, .int .i64 p.u, .bool p.b] 124) = wB := ⟨_, rfl⟩
      have hb : Below w.heap.size w wB := by rw [← hwB]; exact ((Below.refl _ _).alloc (Nat.le_refl _) _).alloc (by simp) _
      have i0 : wB.cell? ⟨w.heap.size, 0, none⟩ = some (.int .i64 L) := by rw [← hwB]; simp [go_sem]
      have i1 : wB.cell? ⟨w.heap.size, 1, none⟩ = some (.slice ar row.length cr) := by rw [← hwB]; simp [go_sem]
      have x0 : wB.cell? ⟨w.heap.size + 1, 0, none⟩ = some (.int .i64 p.s.n) := by rw [← hwB]; simp [go_sem]
      have x1 : wB.cell? ⟨w.heap.size + 1, 1, none⟩ = some (.int .i64 p.s.k) := by rw [← hwB]; simp [go_sem]
      have x2 : wB.cell? ⟨w.heap.size + 1, 2, none⟩ = some (.int .i64 p.s.v) := by rw [← hwB]; simp [go_sem]
      have x3 : wB.cell? ⟨w.heap.size + 1, 3, none⟩ = some (.int .i64 p.s.c) := by rw [← hwB]; simp [go_sem]
      have x4 : wB.cell? ⟨w.heap.size + 1, 4, none⟩ = some (.int .i64 p.s.d) := by rw [← hwB]; simp [go_sem]
      have x5 : wB.cell? ⟨w.heap.size + 1, 5, none⟩ = some (.int .i64 p.s.rk) := by rw [← hwB]; simp [go_sem]
      have x6 : wB.cell? ⟨w.heap.size + 1, 6, none⟩ = some (.int .i64 p.s.up) := by rw [← hwB]; simp [go_sem]
      have x7 : wB.cell? ⟨w.heap.size + 1, 7, none⟩ = some (.int .i64 p.s.dn) := by rw [← hwB]; simp [go_sem]
      have x8 : wB.cell? ⟨w.heap.size + 1, 8, none⟩ = some (.slice ad p.s.cv.length cp) := by rw [← hwB]; simp [go_sem]
      have x9 : wB.cell? ⟨w.heap.size + 1, 9, none⟩ = some (.int .i64 p.d) := by rw [← hwB]; simp [go_sem]
      have x10 : wB.cell? ⟨w.heap.size + 1, 10, none⟩ = some (.int .i64 p.u) := by rw [← hwB]; simp [go_sem]
      have x11 : wB.cell? ⟨w.heap.size + 1, 11, none⟩ = some (.bool p.b) := by rw [← hwB]; simp [go_sem]
      rw [hwB]
      clear hwB
      go_wp2_with (go_at_call 97; refine (HE.out _ (wB.heap.size) ((hb.alloc hb.size _)) (by have := ex_ints2 wB; exact this)).mono ?_; rintro e w2 ⟨rfl, hb2⟩)
      go_ret
      exact ⟨by rw [hv.out] <;> rfl, (hb.alloc hb.size _).trans (hb2.mono (hb.alloc hb.size _).size)⟩
  by_cases h1 : p.s.k = 1
  · have k7 : (p.s.k == 7) = false := beq_false_of_ne h7
    have k6 : (p.s.k == 6) = false := beq_false_of_ne h6
    have k2 : (p.s.k == 2) = false := beq_false_of_ne h2
    have k4 : (p.s.k == 4) = false := beq_false_of_ne h4
    have k5 : (p.s.k == 5) = false := beq_false_of_ne h5
    have k1 : (p.s.k == 1) = true := by rw [h1]; rfl
    by_cases hdl : p.d = L
    · have hv : Hid (codP L row p = 4) := Lib.hid (by unfold codP; rw [if_neg h7, if_neg h6, if_neg (by omega), if_pos (.inl h1), if_pos hdl])
      have dd : (p.d == L) = true := by rw [hdl]; simp
      clear hdl HH HE h7 h6 h2 h4 h5 h1
      go_enter Tryz.func57, Tryz.ntmps57
      go_upto_region 1 with (fail)
      obtain ⟨wB, hwB⟩ : ∃ wB, (w.alloc (.cells #[.int .i64 L, .slice ar row.length cr] 108)).alloc (.cells #[.int .i64 p.s.n, .int .i64 p.s.k, .int .i64 p.s.v, .int .i64 p.s.c, .int .i64 p.s.d, .int .i64 p.s.rk, .int .i64 p.s.up, .int .i64 p.s.dn, .slice ad p.s.cv.length cp, .int .i64 p.d, .int .i64 p.u, .bool p.b] 124) = wB := ⟨_, rfl⟩
      have hb : Below w.heap.size w wB := by rw [← hwB]; exact ((Below.refl _ _).alloc (Nat.le_refl _) _).alloc (by simp) _
      have i0 : wB.cell? ⟨w.heap.size, 0, none⟩ = some (.int .i64 L) := by rw [← hwB]; simp [go_sem]
      have i1 : wB.cell? ⟨w.heap.size, 1, none⟩ = some (.slice ar row.length cr) := by rw [← hwB]; simp [go_sem]
      have x0 : wB.cell? ⟨w.heap.size + 1, 0, none⟩ = some (.int .i64 p.s.n) := by rw [← hwB]; simp [go_sem]
      have x1 : wB.cell? ⟨w.heap.size + 1, 1, none⟩ = some (.int .i64 p.s.k) := by rw [← hwB]; simp [go_sem]
      have x2 : wB.cell? ⟨w.heap.size + 1, 2, none⟩ = some (.int .i64 p.s.v) := by rw [← hwB]; simp [go_sem]
      have x3 : wB.cell? ⟨w.heap.size + 1, 3, none⟩ = some (.int .i64 p.s.c) := by rw [← hwB]; simp [go_sem]
      have x4 : wB.cell? ⟨w.heap.size + 1, 4, none⟩ = some (.int .i64 p.s.d) := by rw [← hwB]; simp [go_sem]
      have x5 : wB.cell? ⟨w.heap.size + 1, 5, none⟩ = some (.int .i64 p.s.rk) := by rw [← hwB]; simp [go_sem]
      have x6 : wB.cell? ⟨w.heap.size + 1, 6, none⟩ = some (.int .i64 p.s.up) := by rw [← hwB]; simp [go_sem]
      have x7 : wB.cell? ⟨w.heap.size + 1, 7, none⟩ = some (.int .i64 p.s.dn) := by rw [← hwB]; simp [go_sem]
      have x8 : wB.cell? ⟨w.heap.size + 1, 8, none⟩ = some (.slice ad p.s.cv.length cp) := by rw [← hwB]; simp [go_sem]
      have x9 : wB.cell? ⟨w.heap.size + 1, 9, none⟩ = some (.int .i64 p.d) := by rw [← hwB]; simp [go_sem]
      have x10 : wB.cell? ⟨w.heap.size + 1, 10, none⟩ = some (.int .i64 p.u) := by rw [← hwB]; simp [go_sem]
      have x11 : wB.cell? ⟨w.heap.size + 1, 11, none⟩ = some (.bool p.b) := by rw [← hwB]; simp [go_sem]
      rw [hwB]
      clear hwB
      go_wp2_with fail
      go_ret
      exact ⟨by rw [hv.out] <;> rfl, hb⟩
    · have hv : Hid (codP L row p = 0) := Lib.hid (by unfold codP; rw [if_neg h7, if_neg h6, if_neg (by omega), if_pos (.inl h1), if_neg hdl])
      have dd : (p.d == L) = false := beq_false_of_ne hdl
      clear hdl HH HE h7 h6 h2 h4 h5 h1
      go_enter Tryz.func57, Tryz.ntmps57
      go_upto_region 1 with (fail)
      obtain ⟨wB, hwB⟩ : ∃ wB, (w.alloc (.cells #[.int .i64 L, .slice ar row.length cr] 108)).alloc (.cells #[.int .i64 p.s.n, .int .i64 p.s.k, .int .i64 p.s.v, .int .i64 p.s.c, .int .i64 p.s.d, .int .i64 p.s.rk, .int .i64 p.s.up, .int .i64 p.s.dn, .slice ad p.s.cv.length cp, .int .i64 p.d, .int .i64 p.u, .bool p.b] 124) = wB := ⟨_, rfl⟩
      have hb : Below w.heap.size w wB := by rw [← hwB]; exact ((Below.refl _ _).alloc (Nat.le_refl _) _).alloc (by simp) _
      have i0 : wB.cell? ⟨w.heap.size, 0, none⟩ = some (.int .i64 L) := by rw [← hwB]; simp [go_sem]
      have i1 : wB.cell? ⟨w.heap.size, 1, none⟩ = some (.slice ar row.length cr) := by rw [← hwB]; simp [go_sem]
      have x0 : wB.cell? ⟨w.heap.size + 1, 0, none⟩ = some (.int .i64 p.s.n) := by rw [← hwB]; simp [go_sem]
      have x1 : wB.cell? ⟨w.heap.size + 1, 1, none⟩ = some (.int .i64 p.s.k) := by rw [← hwB]; simp [go_sem]
      have x2 : wB.cell? ⟨w.heap.size + 1, 2, none⟩ = some (.int .i64 p.s.v) := by rw [← hwB]; simp [go_sem]
      have x3 : wB.cell? ⟨w.heap.size + 1, 3, none⟩ = some (.int .i64 p.s.c) := by rw [← hwB]; simp [go_sem]
      have x4 : wB.cell? ⟨w.heap.size + 1, 4, none⟩ = some (.int .i64 p.s.d) := by rw [← hwB]; simp [go_sem]
      have x5 : wB.cell? ⟨w.heap.size + 1, 5, none⟩ = some (.int .i64 p.s.rk) := by rw [← hwB]; simp [go_sem]
      have x6 : wB.cell? ⟨w.heap.size + 1, 6, none⟩ = some (.int .i64 p.s.up) := by rw [← hwB]; simp [go_sem]
      have x7 : wB.cell? ⟨w.heap.size + 1, 7, none⟩ = some (.int .i64 p.s.dn) := by rw [← hwB]; simp [go_sem]
      have x8 : wB.cell? ⟨w.heap.size + 1, 8, none⟩ = some (.slice ad p.s.cv.length cp) := by rw [← hwB]; simp [go_sem]
      have x9 : wB.cell? ⟨w.heap.size + 1, 9, none⟩ = some (.int .i64 p.d) := by rw [← hwB]; simp [go_sem]
      have x10 : wB.cell? ⟨w.heap.size + 1, 10, none⟩ = some (.int .i64 p.u) := by rw [← hwB]; simp [go_sem]
      have x11 : wB.cell? ⟨w.heap.size + 1, 11, none⟩ = some (.bool p.b) := by rw [← hwB]; simp [go_sem]
      rw [hwB]
      clear hwB
      go_wp2_with fail
      go_ret
      exact ⟨by rw [hv.out] <;> rfl, hb⟩
  by_cases h3 : p.s.k = 3
  · have k7 : (p.s.k == 7) = false := beq_false_of_ne h7
    have k6 : (p.s.k == 6) = false := beq_false_of_ne h6
    have k2 : (p.s.k == 2) = false := beq_false_of_ne h2
    have k4 : (p.s.k == 4) = false := beq_false_of_ne h4
    have k5 : (p.s.k == 5) = false := beq_false_of_ne h5
    have k1 : (p.s.k == 1) = false := beq_false_of_ne h1
    have k3 : (p.s.k == 3) = true := by rw [h3]; rfl
    by_cases hdl : p.d = L
    · have hv : Hid (codP L row p = 4) := Lib.hid (by unfold codP; rw [if_neg h7, if_neg h6, if_neg (by omega), if_pos (.inr h3), if_pos hdl])
      have dd : (p.d == L) = true := by rw [hdl]; simp
      clear hdl HH HE h7 h6 h2 h4 h5 h1 h3
      go_enter Tryz.func57, Tryz.ntmps57
      go_upto_region 1 with (fail)
      obtain ⟨wB, hwB⟩ : ∃ wB, (w.alloc (.cells #[.int .i64 L, .slice ar row.length cr] 108)).alloc (.cells #[.int .i64 p.s.n, .int .i64 p.s.k, .int .i64 p.s.v, .int .i64 p.s.c, .int .i64 p.s.d, .int .i64 p.s.rk, .int .i64 p.s.up, .int .i64 p.s.dn, .slice ad p.s.cv.length cp, .int .i64 p.d, .int .i64 p.u, .bool p.b] 124) = wB := ⟨_, rfl⟩
      have hb : Below w.heap.size w wB := by rw [← hwB]; exact ((Below.refl _ _).alloc (Nat.le_refl _) _).alloc (by simp) _
      have i0 : wB.cell? ⟨w.heap.size, 0, none⟩ = some (.int .i64 L) := by rw [← hwB]; simp [go_sem]
      have i1 : wB.cell? ⟨w.heap.size, 1, none⟩ = some (.slice ar row.length cr) := by rw [← hwB]; simp [go_sem]
      have x0 : wB.cell? ⟨w.heap.size + 1, 0, none⟩ = some (.int .i64 p.s.n) := by rw [← hwB]; simp [go_sem]
      have x1 : wB.cell? ⟨w.heap.size + 1, 1, none⟩ = some (.int .i64 p.s.k) := by rw [← hwB]; simp [go_sem]
      have x2 : wB.cell? ⟨w.heap.size + 1, 2, none⟩ = some (.int .i64 p.s.v) := by rw [← hwB]; simp [go_sem]
      have x3 : wB.cell? ⟨w.heap.size + 1, 3, none⟩ = some (.int .i64 p.s.c) := by rw [← hwB]; simp [go_sem]
      have x4 : wB.cell? ⟨w.heap.size + 1, 4, none⟩ = some (.int .i64 p.s.d) := by rw [← hwB]; simp [go_sem]
      have x5 : wB.cell? ⟨w.heap.size + 1, 5, none⟩ = some (.int .i64 p.s.rk) := by rw [← hwB]; simp [go_sem]
      have x6 : wB.cell? ⟨w.heap.size + 1, 6, none⟩ = some (.int .i64 p.s.up) := by rw [← hwB]; simp [go_sem]
      have x7 : wB.cell? ⟨w.heap.size + 1, 7, none⟩ = some (.int .i64 p.s.dn) := by rw [← hwB]; simp [go_sem]
      have x8 : wB.cell? ⟨w.heap.size + 1, 8, none⟩ = some (.slice ad p.s.cv.length cp) := by rw [← hwB]; simp [go_sem]
      have x9 : wB.cell? ⟨w.heap.size + 1, 9, none⟩ = some (.int .i64 p.d) := by rw [← hwB]; simp [go_sem]
      have x10 : wB.cell? ⟨w.heap.size + 1, 10, none⟩ = some (.int .i64 p.u) := by rw [← hwB]; simp [go_sem]
      have x11 : wB.cell? ⟨w.heap.size + 1, 11, none⟩ = some (.bool p.b) := by rw [← hwB]; simp [go_sem]
      rw [hwB]
      clear hwB
      go_wp2_with fail
      go_ret
      exact ⟨by rw [hv.out] <;> rfl, hb⟩
    · have hv : Hid (codP L row p = 0) := Lib.hid (by unfold codP; rw [if_neg h7, if_neg h6, if_neg (by omega), if_pos (.inr h3), if_neg hdl])
      have dd : (p.d == L) = false := beq_false_of_ne hdl
      clear hdl HH HE h7 h6 h2 h4 h5 h1 h3
      go_enter Tryz.func57, Tryz.ntmps57
      go_upto_region 1 with (fail)
      obtain ⟨wB, hwB⟩ : ∃ wB, (w.alloc (.cells #[.int .i64 L, .slice ar row.length cr] 108)).alloc (.cells #[.int .i64 p.s.n, .int .i64 p.s.k, .int .i64 p.s.v, .int .i64 p.s.c, .int .i64 p.s.d, .int .i64 p.s.rk, .int .i64 p.s.up, .int .i64 p.s.dn, .slice ad p.s.cv.length cp, .int .i64 p.d, .int .i64 p.u, .bool p.b] 124) = wB := ⟨_, rfl⟩
      have hb : Below w.heap.size w wB := by rw [← hwB]; exact ((Below.refl _ _).alloc (Nat.le_refl _) _).alloc (by simp) _
      have i0 : wB.cell? ⟨w.heap.size, 0, none⟩ = some (.int .i64 L) := by rw [← hwB]; simp [go_sem]
      have i1 : wB.cell? ⟨w.heap.size, 1, none⟩ = some (.slice ar row.length cr) := by rw [← hwB]; simp [go_sem]
      have x0 : wB.cell? ⟨w.heap.size + 1, 0, none⟩ = some (.int .i64 p.s.n) := by rw [← hwB]; simp [go_sem]
      have x1 : wB.cell? ⟨w.heap.size + 1, 1, none⟩ = some (.int .i64 p.s.k) := by rw [← hwB]; simp [go_sem]
      have x2 : wB.cell? ⟨w.heap.size + 1, 2, none⟩ = some (.int .i64 p.s.v) := by rw [← hwB]; simp [go_sem]
      have x3 : wB.cell? ⟨w.heap.size + 1, 3, none⟩ = some (.int .i64 p.s.c) := by rw [← hwB]; simp [go_sem]
      have x4 : wB.cell? ⟨w.heap.size + 1, 4, none⟩ = some (.int .i64 p.s.d) := by rw [← hwB]; simp [go_sem]
      have x5 : wB.cell? ⟨w.heap.size + 1, 5, none⟩ = some (.int .i64 p.s.rk) := by rw [← hwB]; simp [go_sem]
      have x6 : wB.cell? ⟨w.heap.size + 1, 6, none⟩ = some (.int .i64 p.s.up) := by rw [← hwB]; simp [go_sem]
      have x7 : wB.cell? ⟨w.heap.size + 1, 7, none⟩ = some (.int .i64 p.s.dn) := by rw [← hwB]; simp [go_sem]
      have x8 : wB.cell? ⟨w.heap.size + 1, 8, none⟩ = some (.slice ad p.s.cv.length cp) := by rw [← hwB]; simp [go_sem]
      have x9 : wB.cell? ⟨w.heap.size + 1, 9, none⟩ = some (.int .i64 p.d) := by rw [← hwB]; simp [go_sem]
      have x10 : wB.cell? ⟨w.heap.size + 1, 10, none⟩ = some (.int .i64 p.u) := by rw [← hwB]; simp [go_sem]
      have x11 : wB.cell? ⟨w.heap.size + 1, 11, none⟩ = some (.bool p.b) := by rw [← hwB]; simp [go_sem]
      rw [hwB]
      clear hwB
      go_wp2_with fail
      go_ret
      exact ⟨by rw [hv.out] <;> rfl, hb⟩
  have hv : Hid (codP L row p = 0) := Lib.hid (by unfold codP; rw [if_neg h7, if_neg h6, if_neg (by omega), if_neg (by omega)])
  have k7 : (p.s.k == 7) = false := beq_false_of_ne h7
  have k6 : (p.s.k == 6) = false := beq_false_of_ne h6
  have k2 : (p.s.k == 2) = false := beq_false_of_ne h2
  have k4 : (p.s.k == 4) = false := beq_false_of_ne h4
  have k5 : (p.s.k == 5) = false := beq_false_of_ne h5
  have k1 : (p.s.k == 1) = false := beq_false_of_ne h1
  have k3 : (p.s.k == 3) = false := beq_false_of_ne h3
  clear h7 h6 h2 h4 h5 h1 h3 HH HE
  go_enter Tryz.func57, Tryz.ntmps57
  go_upto_region 1 with (fail)
  obtain ⟨wB, hwB⟩ : ∃ wB, (w.alloc (.cells #[.int .i64 L, .slice ar row.length cr] 108)).alloc (.cells #[.int .i64 p.s.n, .int .i64 p.s.k, .int .i64 p.s.v, .int .i64 p.s.c, .int .i64 p.s.d, .int .i64 p.s.rk, .int .i64 p.s.up, .int .i64 p.s.dn, .slice ad p.s.cv.length cp, .int .i64 p.d, .int .i64 p.u, .bool p.b] 124) = wB := ⟨_, rfl⟩
  have hb : Below w.heap.size w wB := by rw [← hwB]; exact ((Below.refl _ _).alloc (Nat.le_refl _) _).alloc (by simp) _
  have i0 : wB.cell? ⟨w.heap.size, 0, none⟩ = some (.int .i64 L) := by rw [← hwB]; simp [go_sem]
  have i1 : wB.cell? ⟨w.heap.size, 1, none⟩ = some (.slice ar row.length cr) := by rw [← hwB]; simp [go_sem]
  have x0 : wB.cell? ⟨w.heap.size + 1, 0, none⟩ = some (.int .i64 p.s.n) := by rw [← hwB]; simp [go_sem]
  have x1 : wB.cell? ⟨w.heap.size + 1, 1, none⟩ = some (.int .i64 p.s.k) := by rw [← hwB]; simp [go_sem]
  have x2 : wB.cell? ⟨w.heap.size + 1, 2, none⟩ = some (.int .i64 p.s.v) := by rw [← hwB]; simp [go_sem]
  have x3 : wB.cell? ⟨w.heap.size + 1, 3, none⟩ = some (.int .i64 p.s.c) := by rw [← hwB]; simp [go_sem]
  have x4 : wB.cell? ⟨w.heap.size + 1, 4, none⟩ = some (.int .i64 p.s.d) := by rw [← hwB]; simp [go_sem]
  have x5 : wB.cell? ⟨w.heap.size + 1, 5, none⟩ = some (.int .i64 p.s.rk) := by rw [← hwB]; simp [go_sem]
  have x6 : wB.cell? ⟨w.heap.size + 1, 6, none⟩ = some (.int .i64 p.s.up) := by rw [← hwB]; simp [go_sem]
  have x7 : wB.cell? ⟨w.heap.size + 1, 7, none⟩ = some (.int .i64 p.s.dn) := by rw [← hwB]; simp [go_sem]
  have x8 : wB.cell? ⟨w.heap.size + 1, 8, none⟩ = some (.slice ad p.s.cv.length cp) := by rw [← hwB]; simp [go_sem]
  have x9 : wB.cell? ⟨w.heap.size + 1, 9, none⟩ = some (.int .i64 p.d) := by rw [← hwB]; simp [go_sem]
  have x10 : wB.cell? ⟨w.heap.size + 1, 10, none⟩ = some (.int .i64 p.u) := by rw [← hwB]; simp [go_sem]
  have x11 : wB.cell? ⟨w.heap.size + 1, 11, none⟩ = some (.bool p.b) := by rw [← hwB]; simp [go_sem]
  rw [hwB]
  clear hwB
  go_wp2_with fail
  go_ret
  exact ⟨by rw [hv.out] <;> rfl, hb⟩
end Go.Proofs.YtlpdjinhkmgbgaaGreatDoor

namespace Go.Proofs
open Go.Shelf
def Tryz.laysSortF_ren : Go.Shelf.Ren := ⟨fun | 6 => 58 | 15 => 99 | 14 => 98 | 28 => 135 | 29 => 136 | 20 => 127 | 21 => 128 | 22 => 129 | 23 => 130 | 24 => 131 | 25 => 132 | 26 => 133 | 27 => 134 | 46 => 151 | 47 => 152 | 48 => 153 | 49 => 154 | 50 => 155 | 57 => 168 | n => n, fun | 22 => 62 | 24 => 113 | 25 => 114 | 3 => 3 | 39 => 56 | 0 => 0 | 53 => 178 | 55 => 180 | 4 => 4 | 46 => 171 | 45 => 170 | 50 => 175 | 5 => 5 | 9 => 9 | 66 => 191 | 70 => 195 | 76 => 204 | 77 => 205 | n => n, fun | n => n⟩
theorem Tryz.laysSortF : Go.Proofs.SlLaysF0.n6 Tryz.prog Tryz.laysSortF_ren := {
  mixed := by kernel_rfl
  f6 := ⟨Tryz.f58.name, by decide, Tryz.func58.trans (congrArg some (by kernel_rfl))⟩
  f14 := ⟨Tryz.f98.name, by decide, Tryz.func98.trans (congrArg some (by kernel_rfl))⟩
  f15 := Tryz.func99.trans (congrArg some (by kernel_rfl))
  f20 := ⟨Tryz.f127.name, by decide, Tryz.func127.trans (congrArg some (by kernel_rfl))⟩
  f21 := ⟨Tryz.f128.name, by decide, Tryz.func128.trans (congrArg some (by kernel_rfl))⟩
  f22 := ⟨Tryz.f129.name, by decide, Tryz.func129.trans (congrArg some (by kernel_rfl))⟩
  f23 := ⟨Tryz.f130.name, by decide, Tryz.func130.trans (congrArg some (by kernel_rfl))⟩
  f24 := ⟨Tryz.f131.name, by decide, Tryz.func131.trans (congrArg some (by kernel_rfl))⟩
  f25 := ⟨Tryz.f132.name, by decide, Tryz.func132.trans (congrArg some (by kernel_rfl))⟩
  f26 := ⟨Tryz.f133.name, by decide, Tryz.func133.trans (congrArg some (by kernel_rfl))⟩
  f27 := ⟨Tryz.f134.name, by decide, Tryz.func134.trans (congrArg some (by kernel_rfl))⟩
  f28 := Tryz.func135.trans (congrArg some (by kernel_rfl))
  f29 := Tryz.func136.trans (congrArg some (by kernel_rfl))
  f46 := ⟨Tryz.f151.name, by decide, Tryz.func151.trans (congrArg some (by kernel_rfl))⟩
  f47 := Tryz.func152.trans (congrArg some (by kernel_rfl))
  f48 := Tryz.func153.trans (congrArg some (by kernel_rfl))
  f49 := ⟨Tryz.f154.name, by decide, Tryz.func154.trans (congrArg some (by kernel_rfl))⟩
  f50 := ⟨Tryz.f155.name, by decide, Tryz.func155.trans (congrArg some (by kernel_rfl))⟩
  f57 := ⟨Tryz.f168.name, by decide, Tryz.func168.trans (congrArg some (by kernel_rfl))⟩
  t0 := Tryz.underlying0
  a0 := Tryz.isAgg0
  z0 := Tryz.sizeOf0
  v0 := Tryz.zeroValue0
  t3 := Tryz.underlying3
  a3 := Tryz.isAgg3
  z3 := Tryz.sizeOf3
  v3 := Tryz.zeroValue3
  t4 := Tryz.underlying4
  a4 := Tryz.isAgg4
  z4 := Tryz.sizeOf4
  v4 := Tryz.zeroValue4
  t5 := Tryz.underlying5
  a5 := Tryz.isAgg5
  z5 := Tryz.sizeOf5
  v5 := Tryz.zeroValue5
  t9 := Tryz.underlying9
  a9 := Tryz.isAgg9
  z9 := Tryz.sizeOf9
  v9 := Tryz.zeroValue9
  t22 := Tryz.underlying62
  a22 := Tryz.isAgg62
  z22 := Tryz.sizeOf62
  v22 := Tryz.zeroValue62
  t25 := Tryz.underlying114
  a25 := Tryz.isAgg114
  z25 := Tryz.sizeOf114
  v25 := Tryz.zeroValue114
  t39 := Tryz.underlying56
  a39 := Tryz.isAgg56
  z39 := Tryz.sizeOf56
  v39 := Tryz.zeroValue56
  t45 := Tryz.underlying170
  a45 := Tryz.isAgg170
  z45 := Tryz.sizeOf170
  v45 := Tryz.zeroValue170
  t46 := Tryz.underlying171
  a46 := Tryz.isAgg171
  z46 := Tryz.sizeOf171
  v46 := Tryz.zeroValue171
  t50 := Tryz.underlying175
  a50 := Tryz.isAgg175
  z50 := Tryz.sizeOf175
  v50 := Tryz.zeroValue175
  t53 := Tryz.underlying178
  a53 := Tryz.isAgg178
  z53 := Tryz.sizeOf178
  v53 := Tryz.zeroValue178
  t55 := Tryz.underlying180
  a55 := Tryz.isAgg180
  z55 := Tryz.sizeOf180
  v55 := Tryz.zeroValue180
  t66 := Tryz.underlying191
  a66 := Tryz.isAgg191
  z66 := Tryz.sizeOf191
  v66 := Tryz.zeroValue191
  t70 := Tryz.underlying195
  a70 := Tryz.isAgg195
  z70 := Tryz.sizeOf195
  v70 := Tryz.zeroValue195
  t76 := Tryz.underlying204
  a76 := Tryz.isAgg204
  z76 := Tryz.sizeOf204
  v76 := Tryz.zeroValue204
  t77 := Tryz.underlying205
  a77 := Tryz.isAgg205
  z77 := Tryz.sizeOf205
  v77 := Tryz.zeroValue205 }
end Go.Proofs
