/-
  Lists of placed steps in memory; IndexFunc and ContainsFunc of them; the closures of Judge. By an AI agent.; The program's Judge. By an AI agent.; The walk of the reference ready. By an AI agent.; A rest that several ways share; the block of a box behind stores of all its cells. By an AI agent.
-/
import Derived.Test.YtgphkfonjfdifaaMgShopOrders1
import Derived.Test.YtgphkfonjfdifaaMgShopOrders6
import Derived.Test.YtgphkfonjfdifaaMgShopOrders7
import Derived.Deep.RegionHeld3
import Derived.BigRegion
import Derived.BigQuiet
import Derived.Laws.EntriesVeiled
import Derived.Deep.DeepCutAuto
import Derived.Handy
import Derived.Lib.Hide
import Derived.Laws.Rows
import Derived.Laws.IdiomRangeMap

namespace Go.Proofs.Ytgphkfonjfdifaa
set_option linter.unusedVariables false
set_option linter.unusedSimpArgs false
open Go.RowKit

/-- A placed step. -/
structure Plc where
  m : Int
  mi : Int
  c : Int
  d : Int
  j : Int
  n : Int
  st : Int
deriving instance DecidableEq for Plc
def gc (l : List Plc) (i : Nat) : Plc := l.getD i ⟨0, 0, 0, 0, 0, 0, 0⟩
theorem gc_at (l : List Plc) {i : Nat} (h : i < l.length) : gc l i = l[i] := by unfold gc; simp [h]
theorem gc_drop (l : List Plc) (k i : Nat) : gc (l.drop k) i = gc l (k + i) := by unfold gc; rw [List.getD_eq_getElem?_getD, List.getD_eq_getElem?_getD, List.getElem?_drop]
def Plc.t (p : Plc) : Stp := (p.m, p.mi, p.c, p.d)
def PlcS (w : World) (a : Option Addr) (l : List (Plc)) : Prop :=
  l.length ≤ 9223372036854775807 ∧ ∃ blk off, (l ≠ [] → a = some ⟨blk, off, none⟩) ∧ ∀ i, i < l.length → w.cell? ⟨blk, off + i * 7, none⟩ = some (.int .i64 (gc l i).m) ∧ w.cell? ⟨blk, off + i * 7 + 1, none⟩ = some (.int .i64 (gc l i).mi) ∧ w.cell? ⟨blk, off + i * 7 + 2, none⟩ = some (.int .i64 (gc l i).c) ∧ w.cell? ⟨blk, off + i * 7 + 3, none⟩ = some (.int .i64 (gc l i).d) ∧ w.cell? ⟨blk, off + i * 7 + 4, none⟩ = some (.int .i64 (gc l i).j) ∧ w.cell? ⟨blk, off + i * 7 + 5, none⟩ = some (.int .i64 (gc l i).n) ∧ w.cell? ⟨blk, off + i * 7 + 6, none⟩ = some (.int .i64 (gc l i).st)
theorem PlcS.below {w w' : World} {a : Option Addr} {l : List (Plc)} (h : PlcS w a l) (hb : Below w.heap.size w w') : PlcS w' a l := by
  obtain ⟨h0, blk, off, h2, h3⟩ := h
  exact ⟨h0, blk, off, h2, fun i hi => by
    have hx := h3 i hi
    exact ⟨cell_below hx.1 hb, cell_below hx.2.1 hb, cell_below hx.2.2.1 hb, cell_below hx.2.2.2.1 hb, cell_below hx.2.2.2.2.1 hb, cell_below hx.2.2.2.2.2.1 hb, cell_below hx.2.2.2.2.2.2 hb⟩⟩
/-- The steps of a shop with their starts. -/
def plcO (s : Sh) (P : List (List Int)) (p : Int × Int) : Plc := ⟨(stpP s p).1, (stpP s p).2.1, (stpP s p).2.2.1, (stpP s p).2.2.2, p.1, p.2, sttP P p⟩
def plcL (s : Sh) (P : List (List Int)) : List Plc := (flP s.J).map (plcO s P)
theorem plcL_len (s : Sh) (P : List (List Int)) : (plcL s P).length = (flP s.J).length := by simp [plcL]
theorem plcL_at (s : Sh) (P : List (List Int)) {i : Nat} (h : i < (flP s.J).length) : gc (plcL s P) i = plcO s P (gp (flP s.J) i) := by
  unfold gc plcL gp
  simp [h]
theorem plcS_of {w : World} {s : Sh} {P : List (List Int)} {a : Option Addr} (h : PlacedS w s P a (flP s.J)) (hl : (flP s.J).length ≤ 9223372036854775807) : PlcS w a (plcL s P) := by
  obtain ⟨blk, h1, h2⟩ := h
  refine ⟨by rw [plcL_len]; exact hl, blk, 0, fun hn => h1 (fun e => hn (by unfold plcL; rw [e]; rfl)), fun i hi => ?_⟩
  rw [plcL_len] at hi
  rw [plcL_at s P hi, Nat.zero_add]
  exact ⟨h2 i 0 hi (by decide), h2 i 1 hi (by decide), h2 i 2 hi (by decide), h2 i 3 hi (by decide), h2 i 4 hi (by decide), h2 i 5 hi (by decide), h2 i 6 hi (by decide)⟩
theorem pos_neL {n i : Nat} {α : Type} {l : List α} (hi : i < l.length) : l ≠ [] := by rintro rfl; simp at hi
/-- A tail of such a list. -/
theorem plcS_drop {w : World} {a : Option Addr} {l : List Plc} (h : PlcS w a l) (k : Nat) (hk : k ≤ l.length) : ∀ b o, a = some ⟨b, o, none⟩ → PlcS w (some ⟨b, o + k * 7, none⟩) (l.drop k) := by
  intro b o e
  obtain ⟨h0, blk, off, h2, h3⟩ := h
  refine ⟨by rw [List.length_drop]; omega, b, o + k * 7, fun _ => rfl, fun i hi => ?_⟩
  rw [List.length_drop] at hi
  have := h3 (k + i) (by omega)
  have ha := h2 (by intro e; rw [e] at hi; simp at hi)
  rw [e] at ha
  obtain ⟨rfl, rfl⟩ : b = blk ∧ o = off := by simpa using ha
  rw [gc_drop, show o + k * 7 + i * 7 = o + (k + i) * 7 by omega]
  exact this
theorem plcS_nil (w : World) (a : Option Addr) : PlcS w a [] := ⟨by simp, 0, 0, fun h => absurd rfl h, fun i hi => absurd hi (Nat.not_lt_zero _)⟩
set_option maxRecDepth 100000 in
set_option maxHeartbeats 1000000 in
theorem idxPc_any (aa : Option Addr) (l : List (Plc)) (ca : Nat) (lb : Array Value) (p : Nat → Bool) (w : World) (hA : PlcS w aa l)
    (hp : ∀ j W, j < l.length → Below w.heap.size w W → Calls Try.prog 44 (#[.agg #[.int .i64 (gc l j).m, .int .i64 (gc l j).mi, .int .i64 (gc l j).c, .int .i64 (gc l j).d, .int .i64 (gc l j).j, .int .i64 (gc l j).n, .int .i64 (gc l j).st]] ++ lb) W fun e w' => e = .returned (.bool (p j)) ∧ Below W.heap.size W w') :
    Calls Try.prog 76 #[.slice aa l.length ca, .func (.func 44) #[] lb] w fun e w' => e = .returned (.int .i64 (idxK p l.length)) ∧ Below w.heap.size w w' := by
  obtain ⟨hlen, blk, off, hadr, hc⟩ := hA
  have HP := Lib.hid hp
  have HC := Lib.hid hc
  have HH : Hid (∀ k, k < l.length → p k = true → (∀ j, j < k → p j = false) → idxK p l.length = k) := Lib.hid fun k hk h hb => idxK_hit h hb _ hk
  have HM : Hid ((∀ j, j < l.length → p j = false) → idxK p l.length = -1) := Lib.hid fun h => idxK_miss _ h
  have HL : Hid (0 < l.length → aa = some ⟨blk, off, none⟩) := Lib.hid fun h => hadr (pos_neL (n := 0) h)
  generalize idxK p l.length = R at *
  clear hp hc hadr
  go_enter Try.func76, Try.ntmps76
  go_wp2_with fail
  go_loopw [8] (fun i wr => ∃ k : Nat, k ≤ l.length ∧ i = .int .i64 k ∧ Below w.heap.size w wr ∧ Hid (∀ j, j < k → p j = false)) (fun i _ => l.length - (intOf i).toNat)
  case atStart => exact ⟨0, Nat.zero_le _, rfl, Below.refl _ _, Lib.hid fun j hj => absurd hj (Nat.not_lt_zero _)⟩
  case round =>
    obtain ⟨k, hk, rfl, hb, HA⟩ := hrel
    by_cases hlt : k < l.length
    · obtain rfl := HL.out (by omega)
      obtain ⟨c0, c1, c2, c3, c4, c5, c6⟩ := HC.out k hlt
      have c0 := cell_below c0 hb
      have c1 := cell_below c1 hb
      have c2 := cell_below c2 hb
      have c3 := cell_below c3 hb
      have c4 := cell_below c4 hb
      have c5 := cell_below c5 hb
      have c6 := cell_below c6 hb
      have HK := Lib.hid (fun W => HP.out k W hlt)
      have HHk := Lib.hid (HH.out k hlt)
      have HN : Hid (p k = false → ∀ j, j < k + 1 → p j = false) := Lib.hid fun h j hj => by
        by_cases e : j = k
        · subst e; exact h
        · exact HA.out j (by omega)
      clear HP HC HM HL HH
      generalize (gc l k).m = x0 at *
      generalize (gc l k).mi = x1 at *
      generalize (gc l k).c = x2 at *
      generalize (gc l k).d = x3 at *
      generalize (gc l k).j = x4 at *
      generalize (gc l k).n = x5 at *
      generalize (gc l k).st = x6 at *
      cases hpk : p k with
      | true =>
        have HR := Lib.hid (HHk.out hpk HA.out)
        rw [hpk] at HK
        clear hpk HHk HN
        go_wp2_with fail
        refine (HK.out _ hb).mono ?_
        rintro e w1 ⟨rfl, hb1⟩
        go_wp2_with fail
        go_ret
        rw [HR.out]
        exact ⟨rfl, hb.trans (hb1.mono hb.size)⟩
      | false =>
        have HR := Lib.hid (HN.out hpk)
        rw [hpk] at HK
        clear hpk HHk HN
        go_wp2_with fail
        refine (HK.out _ hb).mono ?_
        rintro e w1 ⟨rfl, hb1⟩
        go_wp2_with fail
        go_roundw
        case rel => exact ⟨k + 1, by omega, by go_num, hb.trans (hb1.mono hb.size), HR⟩
        case measure => simp [intOf]; omega
    · obtain rfl : k = l.length := by omega
      have HR := Lib.hid (HM.out HA.out)
      go_wp2_with fail
      go_ret
      rw [HR.out]
      exact ⟨rfl, hb⟩

set_option maxRecDepth 100000 in
theorem containsPc_any (aa : Option Addr) (l : List (Plc)) (ca : Nat) (lb : Array Value) (p : Nat → Bool) (w : World) (hA : PlcS w aa l)
    (hp : ∀ j W, j < l.length → Below w.heap.size w W → Calls Try.prog 44 (#[.agg #[.int .i64 (gc l j).m, .int .i64 (gc l j).mi, .int .i64 (gc l j).c, .int .i64 (gc l j).d, .int .i64 (gc l j).j, .int .i64 (gc l j).n, .int .i64 (gc l j).st]] ++ lb) W fun e w' => e = .returned (.bool (p j)) ∧ Below W.heap.size W w') :
    Calls Try.prog 43 #[.slice aa l.length ca, .func (.func 44) #[] lb] w fun e w' => e = .returned (.bool (anyK p l.length)) ∧ Below w.heap.size w w' := by
  have H := Lib.hid (idxPc_any aa l ca lb p w hA hp)
  have hq := Lib.hid (idxK_any p l.length)
  clear hp hA
  generalize idxK p l.length = R at *
  generalize anyK p l.length = B at *
  have hq := hq.out
  subst hq
  go_enter Try.func43, Try.ntmps43
  go_wp2_with fail
  refine H.out.mono ?_
  rintro e w1 ⟨rfl, hb1⟩
  go_wp2_with fail
  all_goals
    go_ret
    exact ⟨by simp_all, hb1⟩

/-- A shop in a box. -/
def ShAx (w : World) (B : Nat) (s : Sh) : Prop := B < w.heap.size ∧ w.cell? ⟨B, 0, none⟩ = some (.int .i64 s.O) ∧ w.cell? ⟨B, 1, none⟩ = some (.int .i64 s.C) ∧ w.cell? ⟨B, 2, none⟩ = some (.slice s.aH s.H.length s.cH) ∧ w.cell? ⟨B, 3, none⟩ = some (.int .i64 s.M) ∧ w.cell? ⟨B, 4, none⟩ = some (.slice s.aS s.S.length s.cS) ∧ w.cell? ⟨B, 5, none⟩ = some (.slice s.aJ s.J.length s.cJ)
theorem ShAx.below {w w' : World} {B : Nat} {s : Sh} (h : ShAx w B s) (hb : Below w.heap.size w w') : ShAx w' B s := by
  obtain ⟨hz, c0, c1, c2, c3, c4, c5⟩ := h
  exact ⟨Nat.lt_of_lt_of_le hz hb.size, cell_below c0 hb, cell_below c1 hb, cell_below c2 hb, cell_below c3 hb, cell_below c4 hb, cell_below c5 hb⟩
/-- A list of placed steps in a box. -/
def PlAt (w : World) (B : Nat) (a : Option Addr) (l : List Plc) (c : Nat) : Prop := w.cell? ⟨B, 0, none⟩ = some (.slice a l.length c) ∧ PlcS w a l
theorem PlAt.below {w w' : World} {B : Nat} {a : Option Addr} {l : List Plc} {c : Nat} (h : PlAt w B a l c) (hb : Below w.heap.size w w') : PlAt w' B a l c := ⟨cell_below h.1 hb, h.2.below hb⟩
/-- A placed step's numbers are in range. -/
def PlcOk (s : Sh) (p : Plc) : Prop := (0 ≤ p.m ∧ p.m < s.M) ∧ (1 ≤ p.mi ∧ p.mi ≤ 1440) ∧ (0 ≤ p.d ∧ p.d ≤ 10000) ∧ (0 ≤ p.st ∧ p.st ≤ 100000000)
theorem plcOk_of {s : Sh} {P : List (List Int)} (h : ShOk s) (hP : PlanOk s P) {i : Nat} (hi : i < (plcL s P).length) : PlcOk s (gc (plcL s P) i) := by
  rw [plcL_len] at hi
  rw [plcL_at s P hi]
  obtain ⟨a, b, ep, ha, hb⟩ := flP_at hi
  have hst := (h.2.2.2.2 a ha).2 b hb
  have hpl := (hP.2 a (by rw [hP.1]; exact ha)).2 b (by rw [(hP.2 a (by rw [hP.1]; exact ha)).1]; exact hb)
  rw [ep]
  have e1 : stpP s ((a : Int), (b : Int)) = gs (gj s.J a) b := by unfold stpP; simp
  have e2 : sttP P ((a : Int), (b : Int)) = gi (gr P a) b := by unfold sttP; simp
  unfold PlcOk plcO
  rw [e1, e2]
  obtain ⟨⟨o0, o1, o2⟩, _⟩ := h
  obtain ⟨s1, s2, s3, s4⟩ := hst
  dsimp only
  omega
set_option maxRecDepth 100000 in
set_option maxHeartbeats 2000000 in
theorem jdg1_r (s : Sh) (B1 B2 : Nat) (a : Option Addr) (l : List Plc) (c : Nat) (i : Nat) (w : World) (hi : i < l.length) (hS : ShAx w B1 s) (hI : ShS w s) (hV : ShOk s) (hA : PlAt w B2 a l c) (hok : ∀ k, k < l.length → PlcOk s (gc l k)) :
    Calls Try.prog 38 #[.int .i64 i, .pointer (some ⟨B1, 0, none⟩), .pointer (some ⟨B2, 0, none⟩)] w fun e w' => e = .returned (.bool (!(inShB s.O s.C s.H (gc l i).st (gc l i).mi))) ∧ Below w.heap.size w w' := by
  have ho := hok i hi
  obtain ⟨hB1, p0, p1, p2, p3, p4, p5⟩ := hS
  obtain ⟨q0, hl, blk, off, hadr, hc⟩ := hA
  obtain rfl := hadr (pos_neL (n := 0) hi)
  have hB2 := block_lt q0
  have hin : (i : Int) < l.length := by omega
  obtain ⟨c0, c1, c2, c3, c4, c5, c6⟩ := hc i (by omega)
  have hzc := block_lt c0
  generalize gc l i = x at *
  have HW := Lib.hid (fun W (hW : Below w.heap.size w W) => within_sh s x.st x.mi W (hI.below hW).1 hV.2.1 hV.1.1 hV.1.2.1 hV.1.2.2 (by unfold PlcOk at ho; omega) (by unfold PlcOk at ho; omega) (by unfold PlcOk at ho; omega) (by unfold PlcOk at ho; omega))
  generalize inShB s.O s.C s.H x.st x.mi = bb at *
  clear hok ho hI hV hc hl hadr hi
  go_enter Try.func38, Try.ntmps38
  go_wp2_with fail
  refine wp_region_held_drew (S := fun w' => Below w.heap.size w w') (by kernel_rfl) ((Below.refl _ _).drew) (fun hHeld => ?_)
  refine wpAnyH_take (i := 0) (oi := { dst := some 5, op := Go.Op.load 25 (Go.Operand.tmp 1), type := 25, pos := "plan.go:83", after := #[], guard := none }) (v := .agg #[.int .i64 s.O, .int .i64 s.C, .slice s.aH s.H.length s.cH, .int .i64 s.M, .slice s.aS s.S.length s.cS, .slice s.aJ s.J.length s.cJ]) rfl (by kernel_rfl) (by kernel_rfl) (by kernel_rfl) (fun _ _ _ h => h) (.inl ⟨by kernel_rfl, fun w9 h9 => by
    clear hHeld
    have d0 := (h9.cell (p := ⟨B1, 0, none⟩) hB1).trans p0
    have d1 := (h9.cell (p := ⟨B1, 1, none⟩) hB1).trans p1
    have d2 := (h9.cell (p := ⟨B1, 2, none⟩) hB1).trans p2
    have d3 := (h9.cell (p := ⟨B1, 3, none⟩) hB1).trans p3
    have d4 := (h9.cell (p := ⟨B1, 4, none⟩) hB1).trans p4
    have d5 := (h9.cell (p := ⟨B1, 5, none⟩) hB1).trans p5
    clear h9
    go_simp⟩) hHeld ?_
  refine wpAnyH_take (i := 1) (oi := { dst := some 6, op := Go.Op.load 62 (Go.Operand.tmp 2), type := 62, pos := "plan.go:83", after := #[], guard := none }) (v := .slice (some ⟨blk, off, none⟩) l.length c) rfl (by kernel_rfl) (by kernel_rfl) (by kernel_rfl) (fun _ _ _ h => h) (.inl ⟨by kernel_rfl, fun w9 h9 => by
    clear hHeld
    have d0 := (h9.cell (p := ⟨B2, 0, none⟩) hB2).trans q0
    clear h9
    go_simp⟩) hHeld ?_
  refine takeU (i := 2) (some 7) (.int .i64 i) (by kernel_rfl) (by kernel_rfl) (by kernel_rfl) (by kernel_rfl) (by kernel_rfl) (fun _ => by kernel_rfl) (fun _ _ _ h => h) hHeld ?_
  refine wpAnyH_take (i := 3) (oi := { dst := some 8, op := Go.Op.indexAddr 62 (Go.Operand.tmp 6) (Go.Operand.tmp 7), type := 0, pos := "plan.go:83", after := #[{ on := 1, ground := Go.Ground.data }, { on := 2, ground := Go.Ground.data }], guard := none }) (v := .pointer (some ⟨blk, off + i * 7, none⟩)) rfl (by kernel_rfl) (by kernel_rfl) (by kernel_rfl) (fun _ _ _ h => h) (.inl ⟨by kernel_rfl, fun w9 h9 => by
    clear hHeld h9
    go_simp⟩) hHeld ?_
  refine takeU (i := 4) (some 9) (.pointer (some ⟨blk, off + i * 7 + 6, none⟩)) (by kernel_rfl) (by kernel_rfl) (by kernel_rfl) (by kernel_rfl) (by kernel_rfl) (fun _ => by kernel_rfl) (fun _ _ _ h => h) hHeld ?_
  refine wpAnyH_take (i := 5) (oi := { dst := some 10, op := Go.Op.load 3 (Go.Operand.tmp 9), type := 3, pos := "plan.go:83", after := #[{ on := 4, ground := Go.Ground.data }], guard := none }) (v := .int .i64 x.st) rfl (by kernel_rfl) (by kernel_rfl) (by kernel_rfl) (fun _ _ _ h => h) (.inl ⟨by kernel_rfl, fun w9 h9 => by
    clear hHeld
    have d0 := (h9.cell (p := ⟨blk, off + i * 7 + 6, none⟩) hzc).trans c6
    clear h9
    go_simp⟩) hHeld ?_
  refine wpAnyH_take (i := 6) (oi := { dst := some 11, op := Go.Op.load 62 (Go.Operand.tmp 2), type := 62, pos := "plan.go:83", after := #[], guard := none }) (v := .slice (some ⟨blk, off, none⟩) l.length c) rfl (by kernel_rfl) (by kernel_rfl) (by kernel_rfl) (fun _ _ _ h => h) (.inl ⟨by kernel_rfl, fun w9 h9 => by
    clear hHeld
    have d0 := (h9.cell (p := ⟨B2, 0, none⟩) hB2).trans q0
    clear h9
    go_simp⟩) hHeld ?_
  refine takeU (i := 7) (some 12) (.int .i64 i) (by kernel_rfl) (by kernel_rfl) (by kernel_rfl) (by kernel_rfl) (by kernel_rfl) (fun _ => by kernel_rfl) (fun _ _ _ h => h) hHeld ?_
  refine wpAnyH_take (i := 8) (oi := { dst := some 13, op := Go.Op.indexAddr 62 (Go.Operand.tmp 11) (Go.Operand.tmp 12), type := 0, pos := "plan.go:83", after := #[{ on := 6, ground := Go.Ground.data }, { on := 7, ground := Go.Ground.data }], guard := none }) (v := .pointer (some ⟨blk, off + i * 7, none⟩)) rfl (by kernel_rfl) (by kernel_rfl) (by kernel_rfl) (fun _ _ _ h => h) (.inl ⟨by kernel_rfl, fun w9 h9 => by
    clear hHeld h9
    go_simp⟩) hHeld ?_
  refine takeU (i := 9) (some 14) (.pointer (some ⟨blk, off + i * 7, none⟩)) (by kernel_rfl) (by kernel_rfl) (by kernel_rfl) (by kernel_rfl) (by kernel_rfl) (fun _ => by kernel_rfl) (fun _ _ _ h => h) hHeld ?_
  refine takeU (i := 10) (some 15) (.pointer (some ⟨blk, off + i * 7 + 1, none⟩)) (by kernel_rfl) (by kernel_rfl) (by kernel_rfl) (by kernel_rfl) (by kernel_rfl) (fun _ => by kernel_rfl) (fun _ _ _ h => h) hHeld ?_
  refine wpAnyH_take (i := 11) (oi := { dst := some 16, op := Go.Op.load 3 (Go.Operand.tmp 15), type := 3, pos := "plan.go:83", after := #[{ on := 10, ground := Go.Ground.data }], guard := none }) (v := .int .i64 x.mi) rfl (by kernel_rfl) (by kernel_rfl) (by kernel_rfl) (fun _ _ _ h => h) (.inl ⟨by kernel_rfl, fun w9 h9 => by
    clear hHeld
    have d0 := (h9.cell (p := ⟨blk, off + i * 7 + 1, none⟩) hzc).trans c1
    clear h9
    go_simp⟩) hHeld ?_
  try simp only [Act.put, List.setIfInBounds_toArray, List.set_cons_zero, List.set_cons_succ]
  refine wpAnyH_ready (rs := [12]) (by kernel_rfl) (by simp) ?_
  refine AllReadyH.cons (o := { dst := some 17, op := Go.Op.call { callee := Go.Callee.value (Go.Operand.func 39), args := #[Go.Operand.tmp 5, Go.Operand.tmp 10, Go.Operand.tmp 16], argTypes := #[25, 3, 3] }, type := 4, pos := "plan.go:83", after := #[{ on := 0, ground := Go.Ground.data }, { on := 5, ground := Go.Ground.data }, { on := 11, ground := Go.Ground.data }], guard := none }) rfl (fun K hK => ?_) AllReadyH.nil
  go_simp
  go_at_call 39
  refine (HW.out _ hHeld).mono ?_
  rintro e w129 ⟨rfl, hb129⟩
  refine hK.out _ _ (hHeld.trans (hb129.mono hHeld.size)) (fun hHeld => ?_)
  clear hK K hb129
  try simp only [Act.put, List.setIfInBounds_toArray, List.set_cons_zero, List.set_cons_succ]
  refine wpAnyH_take (i := 13) (oi := { dst := some 18, op := Go.Op.unOp Go.UnOp.not 4 (Go.Operand.tmp 17), type := 4, pos := "plan.go:83", after := #[{ on := 12, ground := Go.Ground.data }], guard := none }) (v := .bool (!bb)) rfl (by kernel_rfl) (by kernel_rfl) (by kernel_rfl) (fun _ _ _ h => h) (.inl ⟨by kernel_rfl, fun w9 h9 => by
    clear hHeld h9
    go_simp⟩) hHeld ?_
  refine takeU (i := 14) (some 4) (.bool (!bb)) (by kernel_rfl) (by kernel_rfl) (by kernel_rfl) (by kernel_rfl) (by kernel_rfl) (fun _ => by kernel_rfl) (fun _ _ _ h => h) hHeld ?_
  refine wpAnyH_done (by kernel_rfl) ?_ _
  try simp only [Act.put, List.setIfInBounds_toArray, List.set_cons_zero, List.set_cons_succ]
  go_wp2_with fail
  go_ret
  exact ⟨rfl, hHeld⟩
/-- Is step i of a list too early? -/
def erl (l : List Plc) (i : Nat) : Bool := decide (0 < (gc l i).n) && decide ((gc l i).st < (gc l (i - 1)).st + (gc l (i - 1)).mi + (gc l (i - 1)).d)
set_option maxRecDepth 100000 in
set_option maxHeartbeats 2000000 in
theorem jdg2_r (s : Sh) (B2 : Nat) (a : Option Addr) (l : List Plc) (c : Nat) (i : Nat) (w : World) (hi : i < l.length) (h0 : 0 < (gc l i).n → 0 < i) (hA : PlAt w B2 a l c) (hok : ∀ k, k < l.length → PlcOk s (gc l k)) :
    Calls Try.prog 40 #[.int .i64 i, .pointer (some ⟨B2, 0, none⟩)] w fun e w' => e = .returned (.bool (erl l i)) ∧ Below w.heap.size w w' := by
  obtain ⟨q0, hl, blk, off, hadr, hc⟩ := hA
  obtain rfl := hadr (pos_neL (n := 0) hi)
  have hB2 := block_lt q0
  have hin : (i : Int) < l.length := by omega
  obtain ⟨c0, c1, c2, c3, c4, c5, c6⟩ := hc i (by omega)
  have hzc := block_lt c0
  unfold erl
  by_cases hp : 0 < (gc l i).n
  · have hi0 := h0 hp
    obtain ⟨j, hj, hji⟩ : ∃ j : Nat, (i : Int) - 1 = j ∧ i - 1 = j := ⟨i - 1, by omega, rfl⟩
    have hjl : (j : Int) < l.length := by omega
    have hj2 : j < l.length := by omega
    rw [hji]
    obtain ⟨g0, g1, g2, g3, g4, g5, g6⟩ := hc j (by omega)
    have hzg := block_lt g0
    have ho := hok j hj2
    generalize gc l i = x at *
    generalize gc l j = y at *
    have HD := Lib.hid (fun W => dry_pl y.m y.mi y.c y.d y.j y.n y.st W (by unfold PlcOk at ho; omega) (by unfold PlcOk at ho; omega) (by unfold PlcOk at ho; omega))
    have d1 : decide (0 < x.n) = true := decide_eq_true hp
    rw [d1, Bool.true_and]
    generalize y.st + y.mi + y.d = D at *
    obtain ⟨bb, hbb⟩ : ∃ bb, decide (x.st < D) = bb := ⟨_, rfl⟩
    rw [hbb]
    have hjw : IntKind.i64.wrap ((i : Int) - 1) = (j : Int) := by rw [← hj]; exact IntWalk.i64_in _ (by have := hl; omega)
    clear hok ho hc hl hadr hi h0 hp hi0 hji hj2
    have HJ := Lib.hid hj
    clear hj
    go_enter Try.func40, Try.ntmps40
    go_wp2_with fail
    refine wp_region_held_drew (S := fun w' => Below w.heap.size w w') (by kernel_rfl) ((Below.refl _ _).drew) (fun hHeld => ?_)
    refine wpAnyH_take (i := 0) (oi := { dst := some 4, op := Go.Op.load 62 (Go.Operand.tmp 1), type := 62, pos := "plan.go:84", after := #[], guard := none }) (v := .slice (some ⟨blk, off, none⟩) l.length c) rfl (by kernel_rfl) (by kernel_rfl) (by kernel_rfl) (fun _ _ _ h => h) (.inl ⟨by kernel_rfl, fun w9 h9 => by
      clear hHeld
      have d0 := (h9.cell (p := ⟨B2, 0, none⟩) hB2).trans q0
      clear h9
      go_simp⟩) hHeld ?_
    refine takeU (i := 1) (some 5) (.int .i64 i) (by kernel_rfl) (by kernel_rfl) (by kernel_rfl) (by kernel_rfl) (by kernel_rfl) (fun _ => by kernel_rfl) (fun _ _ _ h => h) hHeld ?_
    refine wpAnyH_take (i := 2) (oi := { dst := some 6, op := Go.Op.indexAddr 62 (Go.Operand.tmp 4) (Go.Operand.tmp 5), type := 0, pos := "plan.go:84", after := #[{ on := 0, ground := Go.Ground.data }, { on := 1, ground := Go.Ground.data }], guard := none }) (v := .pointer (some ⟨blk, off + i * 7, none⟩)) rfl (by kernel_rfl) (by kernel_rfl) (by kernel_rfl) (fun _ _ _ h => h) (.inl ⟨by kernel_rfl, fun w9 h9 => by
      clear hHeld h9
      go_simp⟩) hHeld ?_
    refine takeU (i := 3) (some 7) (.pointer (some ⟨blk, off + i * 7 + 5, none⟩)) (by kernel_rfl) (by kernel_rfl) (by kernel_rfl) (by kernel_rfl) (by kernel_rfl) (fun _ => by kernel_rfl) (fun _ _ _ h => h) hHeld ?_
    refine wpAnyH_take (i := 4) (oi := { dst := some 8, op := Go.Op.load 3 (Go.Operand.tmp 7), type := 3, pos := "plan.go:84", after := #[{ on := 3, ground := Go.Ground.data }], guard := none }) (v := .int .i64 x.n) rfl (by kernel_rfl) (by kernel_rfl) (by kernel_rfl) (fun _ _ _ h => h) (.inl ⟨by kernel_rfl, fun w9 h9 => by
      clear hHeld
      have d0 := (h9.cell (p := ⟨blk, off + i * 7 + 5, none⟩) hzc).trans c5
      clear h9
      go_simp⟩) hHeld ?_
    refine wpAnyH_take (i := 5) (oi := { dst := some 9, op := Go.Op.binOp Go.BinOp.gtr 3 (Go.Operand.tmp 8) (Go.Operand.const (Go.Value.int Go.IntKind.i64 0)) 3, type := 4, pos := "plan.go:84", after := #[{ on := 4, ground := Go.Ground.data }], guard := none }) (v := .bool true) rfl (by kernel_rfl) (by kernel_rfl) (by kernel_rfl) (fun _ _ _ h => h) (.inl ⟨by kernel_rfl, fun w9 h9 => by
      clear hHeld h9
      go_simp⟩) hHeld ?_
    refine takeU (i := 6) (some 10) (.bool true) (by kernel_rfl) (by kernel_rfl) (by kernel_rfl) (by kernel_rfl) (by kernel_rfl) (fun _ => by kernel_rfl) (fun _ _ _ h => h) hHeld ?_
    refine wpAnyH_take (i := 7) (oi := { dst := some 11, op := Go.Op.load 62 (Go.Operand.tmp 1), type := 62, pos := "plan.go:84", after := #[{ on := 6, ground := Go.Ground.guard }], guard := some (6, true) }) (v := .slice (some ⟨blk, off, none⟩) l.length c) rfl (by kernel_rfl) (by kernel_rfl) (by kernel_rfl) (fun _ _ _ h => h) (.inl ⟨by kernel_rfl, fun w9 h9 => by
      clear hHeld
      have d0 := (h9.cell (p := ⟨B2, 0, none⟩) hB2).trans q0
      clear h9
      go_simp⟩) hHeld ?_
    refine takeU (i := 8) (some 12) (.int .i64 i) (by kernel_rfl) (by kernel_rfl) (by kernel_rfl) (by kernel_rfl) (by kernel_rfl) (fun _ => by kernel_rfl) (fun _ _ _ h => h) hHeld ?_
    refine wpAnyH_take (i := 9) (oi := { dst := some 13, op := Go.Op.indexAddr 62 (Go.Operand.tmp 11) (Go.Operand.tmp 12), type := 0, pos := "plan.go:84", after := #[{ on := 7, ground := Go.Ground.data }, { on := 8, ground := Go.Ground.data }, { on := 6, ground := Go.Ground.guard }], guard := some (6, true) }) (v := .pointer (some ⟨blk, off + i * 7, none⟩)) rfl (by kernel_rfl) (by kernel_rfl) (by kernel_rfl) (fun _ _ _ h => h) (.inl ⟨by kernel_rfl, fun w9 h9 => by
      clear hHeld h9
      go_simp⟩) hHeld ?_
    refine takeU (i := 10) (some 14) (.pointer (some ⟨blk, off + i * 7 + 6, none⟩)) (by kernel_rfl) (by kernel_rfl) (by kernel_rfl) (by kernel_rfl) (by kernel_rfl) (fun _ => by kernel_rfl) (fun _ _ _ h => h) hHeld ?_
    refine wpAnyH_take (i := 11) (oi := { dst := some 15, op := Go.Op.load 3 (Go.Operand.tmp 14), type := 3, pos := "plan.go:84", after := #[{ on := 10, ground := Go.Ground.data }, { on := 6, ground := Go.Ground.guard }], guard := some (6, true) }) (v := .int .i64 x.st) rfl (by kernel_rfl) (by kernel_rfl) (by kernel_rfl) (fun _ _ _ h => h) (.inl ⟨by kernel_rfl, fun w9 h9 => by
      clear hHeld
      have d0 := (h9.cell (p := ⟨blk, off + i * 7 + 6, none⟩) hzc).trans c6
      clear h9
      go_simp⟩) hHeld ?_
    refine wpAnyH_take (i := 12) (oi := { dst := some 16, op := Go.Op.load 62 (Go.Operand.tmp 1), type := 62, pos := "plan.go:84", after := #[{ on := 6, ground := Go.Ground.guard }], guard := some (6, true) }) (v := .slice (some ⟨blk, off, none⟩) l.length c) rfl (by kernel_rfl) (by kernel_rfl) (by kernel_rfl) (fun _ _ _ h => h) (.inl ⟨by kernel_rfl, fun w9 h9 => by
      clear hHeld
      have d0 := (h9.cell (p := ⟨B2, 0, none⟩) hB2).trans q0
      clear h9
      go_simp⟩) hHeld ?_
    refine takeU (i := 13) (some 17) (.int .i64 i) (by kernel_rfl) (by kernel_rfl) (by kernel_rfl) (by kernel_rfl) (by kernel_rfl) (fun _ => by kernel_rfl) (fun _ _ _ h => h) hHeld ?_
    refine wpAnyH_take (i := 14) (oi := { dst := some 18, op := Go.Op.binOp Go.BinOp.sub 3 (Go.Operand.tmp 17) (Go.Operand.const (Go.Value.int Go.IntKind.i64 1)) 3, type := 3, pos := "plan.go:84", after := #[{ on := 13, ground := Go.Ground.data }, { on := 6, ground := Go.Ground.guard }], guard := some (6, true) }) (v := .int .i64 j) rfl (by kernel_rfl) (by kernel_rfl) (by kernel_rfl) (fun _ _ _ h => h) (.inl ⟨by kernel_rfl, fun w9 h9 => by
      clear hHeld h9
      go_simp⟩) hHeld ?_
    refine wpAnyH_take (i := 15) (oi := { dst := some 19, op := Go.Op.indexAddr 62 (Go.Operand.tmp 16) (Go.Operand.tmp 18), type := 0, pos := "plan.go:84", after := #[{ on := 12, ground := Go.Ground.data }, { on := 14, ground := Go.Ground.data }, { on := 6, ground := Go.Ground.guard }], guard := some (6, true) }) (v := .pointer (some ⟨blk, off + j * 7, none⟩)) rfl (by kernel_rfl) (by kernel_rfl) (by kernel_rfl) (fun _ _ _ h => h) (.inl ⟨by kernel_rfl, fun w9 h9 => by
      clear hHeld h9
      go_simp⟩) hHeld ?_
    refine wpAnyH_take (i := 16) (oi := { dst := some 20, op := Go.Op.load 67 (Go.Operand.tmp 19), type := 67, pos := "plan.go:84", after := #[{ on := 15, ground := Go.Ground.data }, { on := 6, ground := Go.Ground.guard }], guard := some (6, true) }) (v := .agg #[.int .i64 y.m, .int .i64 y.mi, .int .i64 y.c, .int .i64 y.d, .int .i64 y.j, .int .i64 y.n, .int .i64 y.st]) rfl (by kernel_rfl) (by kernel_rfl) (by kernel_rfl) (fun _ _ _ h => h) (.inl ⟨by kernel_rfl, fun w9 h9 => by
      clear hHeld
      have d0 := (h9.cell (p := ⟨blk, off + j * 7, none⟩) hzg).trans g0
      have d1 := (h9.cell (p := ⟨blk, off + j * 7 + 1, none⟩) hzg).trans g1
      have d2 := (h9.cell (p := ⟨blk, off + j * 7 + 2, none⟩) hzg).trans g2
      have d3 := (h9.cell (p := ⟨blk, off + j * 7 + 3, none⟩) hzg).trans g3
      have d4 := (h9.cell (p := ⟨blk, off + j * 7 + 4, none⟩) hzg).trans g4
      have d5 := (h9.cell (p := ⟨blk, off + j * 7 + 5, none⟩) hzg).trans g5
      have d6 := (h9.cell (p := ⟨blk, off + j * 7 + 6, none⟩) hzg).trans g6
      clear h9
      go_simp⟩) hHeld ?_
    try simp only [Act.put, List.setIfInBounds_toArray, List.set_cons_zero, List.set_cons_succ]
    refine wpAnyH_ready (rs := [17]) (by kernel_rfl) (by simp) ?_
    refine AllReadyH.cons (o := { dst := some 21, op := Go.Op.call { callee := Go.Callee.value (Go.Operand.func 41), args := #[Go.Operand.tmp 20], argTypes := #[67] }, type := 3, pos := "plan.go:84", after := #[{ on := 16, ground := Go.Ground.data }, { on := 6, ground := Go.Ground.chain }, { on := 6, ground := Go.Ground.guard }], guard := some (6, true) }) rfl (fun K hK => ?_) AllReadyH.nil
    go_simp
    go_at_call 41
    refine (HD.out _).mono ?_
    rintro e w179 ⟨rfl, hb179⟩
    refine hK.out _ _ (hHeld.trans (hb179.mono hHeld.size)) (fun hHeld => ?_)
    clear hK K hb179
    try simp only [Act.put, List.setIfInBounds_toArray, List.set_cons_zero, List.set_cons_succ]
    refine wpAnyH_take (i := 18) (oi := { dst := some 22, op := Go.Op.binOp Go.BinOp.lss 3 (Go.Operand.tmp 15) (Go.Operand.tmp 21) 3, type := 4, pos := "plan.go:84", after := #[{ on := 11, ground := Go.Ground.data }, { on := 17, ground := Go.Ground.data }, { on := 6, ground := Go.Ground.guard }], guard := some (6, true) }) (v := .bool bb) rfl (by kernel_rfl) (by kernel_rfl) (by kernel_rfl) (fun _ _ _ h => h) (.inl ⟨by kernel_rfl, fun w9 h9 => by
      clear hHeld h9
      go_simp⟩) hHeld ?_
    refine takeU (i := 19) (some 23) (.bool bb) (by kernel_rfl) (by kernel_rfl) (by kernel_rfl) (by kernel_rfl) (by kernel_rfl) (fun _ => by kernel_rfl) (fun _ _ _ h => h) hHeld ?_
    refine takeU (i := 20) (some 3) (.bool bb) (by kernel_rfl) (by kernel_rfl) (by kernel_rfl) (by kernel_rfl) (by kernel_rfl) (fun _ => by kernel_rfl) (fun _ _ _ h => h) hHeld ?_
    refine wpAnyH_done (by kernel_rfl) ?_ _
    try simp only [Act.put, List.setIfInBounds_toArray, List.set_cons_zero, List.set_cons_succ]
    go_wp2_with fail
    go_ret
    exact ⟨rfl, hHeld⟩
  · have d1 : decide (0 < (gc l i).n) = false := decide_eq_false hp
    rw [d1, Bool.false_and]
    generalize gc l i = x at *
    clear hok hc hl hadr hi h0 hp
    go_enter Try.func40, Try.ntmps40
    go_wp2_with fail
    refine wp_region_held_drew (S := fun w' => Below w.heap.size w w') (by kernel_rfl) ((Below.refl _ _).drew) (fun hHeld => ?_)
    refine wpAnyH_take (i := 0) (oi := { dst := some 4, op := Go.Op.load 62 (Go.Operand.tmp 1), type := 62, pos := "plan.go:84", after := #[], guard := none }) (v := .slice (some ⟨blk, off, none⟩) l.length c) rfl (by kernel_rfl) (by kernel_rfl) (by kernel_rfl) (fun _ _ _ h => h) (.inl ⟨by kernel_rfl, fun w9 h9 => by
      clear hHeld
      have d0 := (h9.cell (p := ⟨B2, 0, none⟩) hB2).trans q0
      clear h9
      go_simp⟩) hHeld ?_
    refine takeU (i := 1) (some 5) (.int .i64 i) (by kernel_rfl) (by kernel_rfl) (by kernel_rfl) (by kernel_rfl) (by kernel_rfl) (fun _ => by kernel_rfl) (fun _ _ _ h => h) hHeld ?_
    refine wpAnyH_take (i := 2) (oi := { dst := some 6, op := Go.Op.indexAddr 62 (Go.Operand.tmp 4) (Go.Operand.tmp 5), type := 0, pos := "plan.go:84", after := #[{ on := 0, ground := Go.Ground.data }, { on := 1, ground := Go.Ground.data }], guard := none }) (v := .pointer (some ⟨blk, off + i * 7, none⟩)) rfl (by kernel_rfl) (by kernel_rfl) (by kernel_rfl) (fun _ _ _ h => h) (.inl ⟨by kernel_rfl, fun w9 h9 => by
      clear hHeld h9
      go_simp⟩) hHeld ?_
    refine takeU (i := 3) (some 7) (.pointer (some ⟨blk, off + i * 7 + 5, none⟩)) (by kernel_rfl) (by kernel_rfl) (by kernel_rfl) (by kernel_rfl) (by kernel_rfl) (fun _ => by kernel_rfl) (fun _ _ _ h => h) hHeld ?_
    refine wpAnyH_take (i := 4) (oi := { dst := some 8, op := Go.Op.load 3 (Go.Operand.tmp 7), type := 3, pos := "plan.go:84", after := #[{ on := 3, ground := Go.Ground.data }], guard := none }) (v := .int .i64 x.n) rfl (by kernel_rfl) (by kernel_rfl) (by kernel_rfl) (fun _ _ _ h => h) (.inl ⟨by kernel_rfl, fun w9 h9 => by
      clear hHeld
      have d0 := (h9.cell (p := ⟨blk, off + i * 7 + 5, none⟩) hzc).trans c5
      clear h9
      go_simp⟩) hHeld ?_
    refine wpAnyH_take (i := 5) (oi := { dst := some 9, op := Go.Op.binOp Go.BinOp.gtr 3 (Go.Operand.tmp 8) (Go.Operand.const (Go.Value.int Go.IntKind.i64 0)) 3, type := 4, pos := "plan.go:84", after := #[{ on := 4, ground := Go.Ground.data }], guard := none }) (v := .bool false) rfl (by kernel_rfl) (by kernel_rfl) (by kernel_rfl) (fun _ _ _ h => h) (.inl ⟨by kernel_rfl, fun w9 h9 => by
      clear hHeld h9
      go_simp⟩) hHeld ?_
    refine takeU (i := 6) (some 10) (.bool false) (by kernel_rfl) (by kernel_rfl) (by kernel_rfl) (by kernel_rfl) (by kernel_rfl) (fun _ => by kernel_rfl) (fun _ _ _ h => h) hHeld ?_
    refine skipU (i := 7) (some 11) (by kernel_rfl) (by kernel_rfl) (by kernel_rfl) (by kernel_rfl) (by kernel_rfl) (fun _ _ _ h => h) hHeld ?_
    refine skipU (i := 8) (some 12) (by kernel_rfl) (by kernel_rfl) (by kernel_rfl) (by kernel_rfl) (by kernel_rfl) (fun _ _ _ h => h) hHeld ?_
    refine skipU (i := 9) (some 13) (by kernel_rfl) (by kernel_rfl) (by kernel_rfl) (by kernel_rfl) (by kernel_rfl) (fun _ _ _ h => h) hHeld ?_
    refine skipU (i := 10) (some 14) (by kernel_rfl) (by kernel_rfl) (by kernel_rfl) (by kernel_rfl) (by kernel_rfl) (fun _ _ _ h => h) hHeld ?_
    refine skipU (i := 11) (some 15) (by kernel_rfl) (by kernel_rfl) (by kernel_rfl) (by kernel_rfl) (by kernel_rfl) (fun _ _ _ h => h) hHeld ?_
    refine skipU (i := 12) (some 16) (by kernel_rfl) (by kernel_rfl) (by kernel_rfl) (by kernel_rfl) (by kernel_rfl) (fun _ _ _ h => h) hHeld ?_
    refine skipU (i := 13) (some 17) (by kernel_rfl) (by kernel_rfl) (by kernel_rfl) (by kernel_rfl) (by kernel_rfl) (fun _ _ _ h => h) hHeld ?_
    refine skipU (i := 14) (some 18) (by kernel_rfl) (by kernel_rfl) (by kernel_rfl) (by kernel_rfl) (by kernel_rfl) (fun _ _ _ h => h) hHeld ?_
    refine skipU (i := 15) (some 19) (by kernel_rfl) (by kernel_rfl) (by kernel_rfl) (by kernel_rfl) (by kernel_rfl) (fun _ _ _ h => h) hHeld ?_
    refine skipU (i := 16) (some 20) (by kernel_rfl) (by kernel_rfl) (by kernel_rfl) (by kernel_rfl) (by kernel_rfl) (fun _ _ _ h => h) hHeld ?_
    refine skipU (i := 17) (some 21) (by kernel_rfl) (by kernel_rfl) (by kernel_rfl) (by kernel_rfl) (by kernel_rfl) (fun _ _ _ h => h) hHeld ?_
    refine skipU (i := 18) (some 22) (by kernel_rfl) (by kernel_rfl) (by kernel_rfl) (by kernel_rfl) (by kernel_rfl) (fun _ _ _ h => h) hHeld ?_
    refine takeU (i := 19) (some 23) (.bool false) (by kernel_rfl) (by kernel_rfl) (by kernel_rfl) (by kernel_rfl) (by kernel_rfl) (fun _ => by kernel_rfl) (fun _ _ _ h => h) hHeld ?_
    refine takeU (i := 20) (some 3) (.bool false) (by kernel_rfl) (by kernel_rfl) (by kernel_rfl) (by kernel_rfl) (by kernel_rfl) (fun _ => by kernel_rfl) (fun _ _ _ h => h) hHeld ?_
    refine wpAnyH_done (by kernel_rfl) ?_ _
    try simp only [Act.put, List.setIfInBounds_toArray, List.set_cons_zero, List.set_cons_succ]
    go_wp2_with fail
    go_ret
    exact ⟨rfl, hHeld⟩
set_option maxRecDepth 100000 in
set_option maxHeartbeats 2000000 in
theorem jdg31_r (s : Sh) (B1 B2 B3 : Nat) (a : Option Addr) (l : List Plc) (c : Nat) (i : Nat) (y : Plc) (w : World) (hi : i < l.length) (hS : ShAx w B1 s) (hI : ShS w s) (hV : ShOk s) (hA : PlAt w B2 a l c) (r0 : w.cell? ⟨B3, 0, none⟩ = some (.int .i64 i)) (hox : PlcOk s (gc l i)) (hoy : PlcOk s y) :
    Calls Try.prog 44 #[.agg #[.int .i64 y.m, .int .i64 y.mi, .int .i64 y.c, .int .i64 y.d, .int .i64 y.j, .int .i64 y.n, .int .i64 y.st], .pointer (some ⟨B2, 0, none⟩), .pointer (some ⟨B3, 0, none⟩), .pointer (some ⟨B1, 0, none⟩)] w fun e w' => e = .returned (.bool (clB s.S (gc l i).t (gc l i).st y.t y.st)) ∧ Below w.heap.size w w' := by
  obtain ⟨hB1, p0, p1, p2, p3, p4, p5⟩ := hS
  obtain ⟨q0, hl, blk, off, hadr, hc⟩ := hA
  obtain rfl := hadr (pos_neL (n := 0) hi)
  have hB2 := block_lt q0
  have hin : (i : Int) < l.length := by omega
  obtain ⟨c0, c1, c2, c3, c4, c5, c6⟩ := hc i (by omega)
  have hzc := block_lt c0
  have hB3 := block_lt r0
  generalize gc l i = x at *
  have HC := Lib.hid (fun W (hW : Below w.heap.size w W) => clashes_pl s x.m x.mi x.c x.d x.j x.n x.st y.m y.mi y.c y.d y.j y.n y.st W (hI.below hW).2.1 hV.2.2.1.2.1 hV.2.2.1.2.2 hox.1 hoy.1 (by unfold PlcOk at hox; omega) (by unfold PlcOk at hox; omega) (by unfold PlcOk at hoy; omega) (by unfold PlcOk at hoy; omega))
  have hR : clB s.S x.t x.st y.t y.st = clB s.S (x.m, x.mi, x.c, x.d) x.st (y.m, y.mi, y.c, y.d) y.st := rfl
  rw [hR]
  generalize clB s.S (x.m, x.mi, x.c, x.d) x.st (y.m, y.mi, y.c, y.d) y.st = bb at *
  clear hI hV hox hoy hR hc hl hadr hi
  go_enter Try.func44, Try.ntmps44
  go_wp2_with fail
  obtain ⟨wB, hwB⟩ : ∃ wB, w.alloc (.cells #[.int .i64 y.m, .int .i64 y.mi, .int .i64 y.c, .int .i64 y.d, .int .i64 y.j, .int .i64 y.n, .int .i64 y.st] 67) = wB := ⟨_, rfl⟩
  have hb : Below w.heap.size w wB := by rw [← hwB]; exact (Below.refl _ _).alloc (Nat.le_refl _) _
  have z0 : wB.cell? ⟨w.heap.size, 0, none⟩ = some (.int .i64 y.m) := by rw [← hwB]; simp [go_sem]
  have z1 : wB.cell? ⟨w.heap.size, 1, none⟩ = some (.int .i64 y.mi) := by rw [← hwB]; simp [go_sem]
  have z2 : wB.cell? ⟨w.heap.size, 2, none⟩ = some (.int .i64 y.c) := by rw [← hwB]; simp [go_sem]
  have z3 : wB.cell? ⟨w.heap.size, 3, none⟩ = some (.int .i64 y.d) := by rw [← hwB]; simp [go_sem]
  have z4 : wB.cell? ⟨w.heap.size, 4, none⟩ = some (.int .i64 y.j) := by rw [← hwB]; simp [go_sem]
  have z5 : wB.cell? ⟨w.heap.size, 5, none⟩ = some (.int .i64 y.n) := by rw [← hwB]; simp [go_sem]
  have z6 : wB.cell? ⟨w.heap.size, 6, none⟩ = some (.int .i64 y.st) := by rw [← hwB]; simp [go_sem]
  have hzz : w.heap.size < wB.heap.size := by rw [← hwB]; simp
  rw [hwB]
  clear hwB
  have hB1 := Nat.lt_trans hB1 hzz
  have hB2 := Nat.lt_trans hB2 hzz
  have hB3 := Nat.lt_trans hB3 hzz
  have hzc := Nat.lt_trans hzc hzz
  replace p0 := cell_below p0 hb
  replace p1 := cell_below p1 hb
  replace p2 := cell_below p2 hb
  replace p3 := cell_below p3 hb
  replace p4 := cell_below p4 hb
  replace p5 := cell_below p5 hb
  replace c0 := cell_below c0 hb
  replace c1 := cell_below c1 hb
  replace c2 := cell_below c2 hb
  replace c3 := cell_below c3 hb
  replace c4 := cell_below c4 hb
  replace c5 := cell_below c5 hb
  replace c6 := cell_below c6 hb
  replace q0 := cell_below q0 hb
  replace r0 := cell_below r0 hb
  have HB := Lib.hid hb
  clear hb
  refine wp_region_held_drew (S := fun w' => Below wB.heap.size wB w') (by kernel_rfl) ((Below.refl _ _).drew) (fun hHeld => ?_)
  refine wpAnyH_take (i := 0) (oi := { dst := some 6, op := Go.Op.load 62 (Go.Operand.tmp 1), type := 62, pos := "plan.go:86", after := #[], guard := none }) (v := .slice (some ⟨blk, off, none⟩) l.length c) rfl (by kernel_rfl) (by kernel_rfl) (by kernel_rfl) (fun _ _ _ h => h) (.inl ⟨by kernel_rfl, fun w9 h9 => by
    clear hHeld
    have d0 := (h9.cell (p := ⟨B2, 0, none⟩) hB2).trans q0
    clear h9
    go_simp⟩) hHeld ?_
  refine wpAnyH_take (i := 1) (oi := { dst := some 7, op := Go.Op.load 3 (Go.Operand.tmp 2), type := 3, pos := "plan.go:86", after := #[], guard := none }) (v := .int .i64 i) rfl (by kernel_rfl) (by kernel_rfl) (by kernel_rfl) (fun _ _ _ h => h) (.inl ⟨by kernel_rfl, fun w9 h9 => by
    clear hHeld
    have d0 := (h9.cell (p := ⟨B3, 0, none⟩) hB3).trans r0
    clear h9
    go_simp⟩) hHeld ?_
  refine wpAnyH_take (i := 2) (oi := { dst := some 8, op := Go.Op.indexAddr 62 (Go.Operand.tmp 6) (Go.Operand.tmp 7), type := 0, pos := "plan.go:86", after := #[{ on := 0, ground := Go.Ground.data }, { on := 1, ground := Go.Ground.data }], guard := none }) (v := .pointer (some ⟨blk, off + i * 7, none⟩)) rfl (by kernel_rfl) (by kernel_rfl) (by kernel_rfl) (fun _ _ _ h => h) (.inl ⟨by kernel_rfl, fun w9 h9 => by
    clear hHeld h9
    go_simp⟩) hHeld ?_
  refine wpAnyH_take (i := 3) (oi := { dst := some 9, op := Go.Op.load 67 (Go.Operand.tmp 8), type := 67, pos := "plan.go:86", after := #[{ on := 2, ground := Go.Ground.data }], guard := none }) (v := .agg #[.int .i64 x.m, .int .i64 x.mi, .int .i64 x.c, .int .i64 x.d, .int .i64 x.j, .int .i64 x.n, .int .i64 x.st]) rfl (by kernel_rfl) (by kernel_rfl) (by kernel_rfl) (fun _ _ _ h => h) (.inl ⟨by kernel_rfl, fun w9 h9 => by
    clear hHeld
    have d0 := (h9.cell (p := ⟨blk, off + i * 7, none⟩) hzc).trans c0
    have d1 := (h9.cell (p := ⟨blk, off + i * 7 + 1, none⟩) hzc).trans c1
    have d2 := (h9.cell (p := ⟨blk, off + i * 7 + 2, none⟩) hzc).trans c2
    have d3 := (h9.cell (p := ⟨blk, off + i * 7 + 3, none⟩) hzc).trans c3
    have d4 := (h9.cell (p := ⟨blk, off + i * 7 + 4, none⟩) hzc).trans c4
    have d5 := (h9.cell (p := ⟨blk, off + i * 7 + 5, none⟩) hzc).trans c5
    have d6 := (h9.cell (p := ⟨blk, off + i * 7 + 6, none⟩) hzc).trans c6
    clear h9
    go_simp⟩) hHeld ?_
  refine wpAnyH_take (i := 4) (oi := { dst := some 10, op := Go.Op.load 67 (Go.Operand.tmp 4), type := 67, pos := "plan.go:86", after := #[], guard := none }) (v := .agg #[.int .i64 y.m, .int .i64 y.mi, .int .i64 y.c, .int .i64 y.d, .int .i64 y.j, .int .i64 y.n, .int .i64 y.st]) rfl (by kernel_rfl) (by kernel_rfl) (by kernel_rfl) (fun _ _ _ h => h) (.inl ⟨by kernel_rfl, fun w9 h9 => by
    clear hHeld
    have d0 := (h9.cell (p := ⟨w.heap.size, 0, none⟩) hzz).trans z0
    have d1 := (h9.cell (p := ⟨w.heap.size, 1, none⟩) hzz).trans z1
    have d2 := (h9.cell (p := ⟨w.heap.size, 2, none⟩) hzz).trans z2
    have d3 := (h9.cell (p := ⟨w.heap.size, 3, none⟩) hzz).trans z3
    have d4 := (h9.cell (p := ⟨w.heap.size, 4, none⟩) hzz).trans z4
    have d5 := (h9.cell (p := ⟨w.heap.size, 5, none⟩) hzz).trans z5
    have d6 := (h9.cell (p := ⟨w.heap.size, 6, none⟩) hzz).trans z6
    clear h9
    go_simp⟩) hHeld ?_
  refine wpAnyH_take (i := 5) (oi := { dst := some 11, op := Go.Op.load 25 (Go.Operand.tmp 3), type := 25, pos := "plan.go:86", after := #[], guard := none }) (v := .agg #[.int .i64 s.O, .int .i64 s.C, .slice s.aH s.H.length s.cH, .int .i64 s.M, .slice s.aS s.S.length s.cS, .slice s.aJ s.J.length s.cJ]) rfl (by kernel_rfl) (by kernel_rfl) (by kernel_rfl) (fun _ _ _ h => h) (.inl ⟨by kernel_rfl, fun w9 h9 => by
    clear hHeld
    have d0 := (h9.cell (p := ⟨B1, 0, none⟩) hB1).trans p0
    have d1 := (h9.cell (p := ⟨B1, 1, none⟩) hB1).trans p1
    have d2 := (h9.cell (p := ⟨B1, 2, none⟩) hB1).trans p2
    have d3 := (h9.cell (p := ⟨B1, 3, none⟩) hB1).trans p3
    have d4 := (h9.cell (p := ⟨B1, 4, none⟩) hB1).trans p4
    have d5 := (h9.cell (p := ⟨B1, 5, none⟩) hB1).trans p5
    clear h9
    go_simp⟩) hHeld ?_
  try simp only [Act.put, List.setIfInBounds_toArray, List.set_cons_zero, List.set_cons_succ]
  refine wpAnyH_ready (rs := [6]) (by kernel_rfl) (by simp) ?_
  refine AllReadyH.cons (o := { dst := some 12, op := Go.Op.call { callee := Go.Callee.value (Go.Operand.func 45), args := #[Go.Operand.tmp 9, Go.Operand.tmp 10, Go.Operand.tmp 11], argTypes := #[67, 67, 25] }, type := 4, pos := "plan.go:86", after := #[{ on := 3, ground := Go.Ground.data }, { on := 4, ground := Go.Ground.data }, { on := 5, ground := Go.Ground.data }], guard := none }) rfl (fun K hK => ?_) AllReadyH.nil
  go_simp
  go_at_call 45
  refine (HC.out _ (HB.out.trans (hHeld.mono HB.out.size))).mono ?_
  rintro e w69 ⟨rfl, hb69⟩
  refine hK.out _ _ (hHeld.trans (hb69.mono hHeld.size)) (fun hHeld => ?_)
  clear hK K hb69
  try simp only [Act.put, List.setIfInBounds_toArray, List.set_cons_zero, List.set_cons_succ]
  refine takeU (i := 7) (some 5) (.bool bb) (by kernel_rfl) (by kernel_rfl) (by kernel_rfl) (by kernel_rfl) (by kernel_rfl) (fun _ => by kernel_rfl) (fun _ _ _ h => h) hHeld ?_
  refine wpAnyH_done (by kernel_rfl) ?_ _
  try simp only [Act.put, List.setIfInBounds_toArray, List.set_cons_zero, List.set_cons_succ]
  go_wp2_with fail
  go_ret
  exact ⟨rfl, HB.out.trans (hHeld.mono HB.out.size)⟩
/-- Does step i clash with a later one? -/
def cls (s : Sh) (l : List Plc) (i : Nat) : Bool := anyK (fun k => clB s.S (gc l i).t (gc l i).st (gc l (i + 1 + k)).t (gc l (i + 1 + k)).st) (l.length - (i + 1))
set_option maxRecDepth 100000 in
set_option maxHeartbeats 2000000 in
theorem jdg3_r (s : Sh) (B1 B2 : Nat) (a : Option Addr) (l : List Plc) (c : Nat) (i : Nat) (w : World) (hi : i < l.length) (hS : ShAx w B1 s) (hI : ShS w s) (hV : ShOk s) (hA : PlAt w B2 a l c) (hok : ∀ k, k < l.length → PlcOk s (gc l k)) (hle : l.length ≤ c) :
    Calls Try.prog 42 #[.int .i64 i, .pointer (some ⟨B2, 0, none⟩), .pointer (some ⟨B1, 0, none⟩)] w fun e w' => e = .returned (.bool (cls s l i)) ∧ Below w.heap.size w w' := by
  have hAA := hA
  obtain ⟨q0, hl, blk, off, hadr, hc⟩ := hA
  obtain rfl := hadr (pos_neL (n := 0) hi)
  have hlen : (l.drop (i + 1)).length = l.length - (i + 1) := List.length_drop
  have HS := Lib.hid (fun W (hW : Below w.heap.size w W) (r0 : W.cell? ⟨w.heap.size, 0, none⟩ = some (.int .i64 i)) a2 c2 (hP : PlcS W a2 (l.drop (i + 1))) => show Calls Try.prog 43 #[.slice a2 (l.length - (i + 1)) c2, .func (.func 44) #[] #[.pointer (some ⟨B2, 0, none⟩), .pointer (some ⟨w.heap.size, 0, none⟩), .pointer (some ⟨B1, 0, none⟩)]] W (fun e w' => e = .returned (.bool (anyK (fun k => clB s.S (gc l i).t (gc l i).st (gc l (i + 1 + k)).t (gc l (i + 1 + k)).st) (l.length - (i + 1)))) ∧ Below W.heap.size W w') by
    have h9 := containsPc_any a2 (l.drop (i + 1)) c2 #[.pointer (some ⟨B2, 0, none⟩), .pointer (some ⟨w.heap.size, 0, none⟩), .pointer (some ⟨B1, 0, none⟩)] (fun k => clB s.S (gc l i).t (gc l i).st (gc l (i + 1 + k)).t (gc l (i + 1 + k)).st) W hP (fun k W2 hk hW2 => by
      rw [gc_drop]
      exact jdg31_r s B1 B2 w.heap.size _ l c i (gc l (i + 1 + k)) W2 hi ((hS.below hW).below hW2) ((hI.below hW).below hW2) hV ((hAA.below hW).below hW2) (cell_below r0 hW2) (hok i hi) (hok _ (by rw [hlen] at hk; omega)))
    rw [hlen] at h9
    exact h9)
  have HD := Lib.hid (fun W (hW : Below w.heap.size w W) => plcS_drop (hAA.2.below hW) (i + 1) (by omega) blk off rfl)
  have HN : Hid (i + 1 = c → l.drop (i + 1) = []) := Lib.hid fun e => List.eq_nil_of_length_eq_zero (by rw [hlen]; omega)
  have hR : cls s l i = anyK (fun k => clB s.S (gc l i).t (gc l i).st (gc l (i + 1 + k)).t (gc l (i + 1 + k)).st) (l.length - (i + 1)) := rfl
  rw [hR]
  generalize anyK (fun k => clB s.S (gc l i).t (gc l i).st (gc l (i + 1 + k)).t (gc l (i + 1 + k)).st) (l.length - (i + 1)) = bb at *
  generalize l.drop (i + 1) = L2 at *
  have hin : (i : Int) < l.length := by omega
  have hw1 : IntKind.i64.wrap ((i : Int) + 1) = ((i + 1 : Nat) : Int) := by rw [show ((i + 1 : Nat) : Int) = (i : Int) + 1 by omega]; exact IntWalk.i64_in _ (by omega)
  have h0i : (0 : Int) ≤ i := by omega
  clear hc hok hR hI hV hS hAA hadr hlen
  by_cases hic : i + 1 < c
  · clear HN
    have hicI : (i : Int) + 1 < c := by omega
    have hlc : (l.length : Int) ≤ c := by omega
    have cq : ∀ O, (w.alloc O).cell? ⟨B2, 0, none⟩ = some (.slice (some ⟨blk, off, none⟩) l.length c) := fun O => cell_below q0 ((Below.refl _ _).alloc (Nat.le_refl _) _)
    go_enter Try.func42, Try.ntmps42
    go_wp2_with (go_at_call 43; refine (HS.out _ ((Below.refl _ _).alloc (Nat.le_refl _) _) (by simp [go_sem]) _ _ (HD.out _ ((Below.refl _ _).alloc (Nat.le_refl _) _))).mono ?_; rintro e w1 ⟨rfl, hb1⟩)
    go_ret
    exact ⟨rfl, ((Below.refl _ _).alloc (Nat.le_refl _) _ : Below w.heap.size w (w.alloc _)).trans (hb1.mono (by simp))⟩
  · have hce : i + 1 = c := by omega
    have hnil := HN.out hce
    subst hnil
    have hlc : (l.length : Int) ≤ c := by omega
    have hll : l.length = c := by omega
    subst hll
    clear hle HN HD hlc
    have hicI : ¬ ((i : Int) + 1 < l.length) := by omega
    have hicJ : (i : Int) + 1 ≤ l.length := by omega
    clear hce hic
    have cq : ∀ O, (w.alloc O).cell? ⟨B2, 0, none⟩ = some (.slice (some ⟨blk, off, none⟩) l.length l.length) := fun O => cell_below q0 ((Below.refl _ _).alloc (Nat.le_refl _) _)
    go_enter Try.func42, Try.ntmps42
    go_wp2_with (go_at_call 43; refine (HS.out _ ((Below.refl _ _).alloc (Nat.le_refl _) _) (by simp [go_sem]) _ _ (plcS_nil _ _)).mono ?_; rintro e w1 ⟨rfl, hb1⟩)
    go_ret
    exact ⟨rfl, ((Below.refl _ _).alloc (Nat.le_refl _) _ : Below w.heap.size w (w.alloc _)).trans (hb1.mono (by simp))⟩
end Go.Proofs.Ytgphkfonjfdifaa

namespace Go.Proofs.Ytgphkfonjfdifaa
set_option linter.unusedVariables false
set_option linter.unusedSimpArgs false
open Go.RowKit

/-- The checks of Judge. -/
noncomputable def chk (s : Sh) (l : List Plc) (j i : Nat) : Bool := if j = 0 then !(inShB s.O s.C s.H (gc l i).st (gc l i).mi) else if j = 1 then erl l i else cls s l i
/-- What Judge finds from check j on. -/
noncomputable def judF (s : Sh) (l : List Plc) : Nat → Nat → Int × Int × Int
  | 0, _ => (0, 0, 0)
  | f + 1, j => if 0 ≤ idxK (chk s l j) l.length then ((gc l (idxK (chk s l j) l.length).toNat).j, (gc l (idxK (chk s l j) l.length).toNat).n, (51 + j : Nat)) else judF s l f (j + 1)
noncomputable def judT (s : Sh) (l : List Plc) : Int × Int × Int := judF s l 3 0
noncomputable def judV (s : Sh) (P : List (List Int)) : Int × Int × Int := if planB s P = true then judT s (plcL s P) else (0, 0, 2)
theorem judF_skip {s : Sh} {l : List Plc} {f j : Nat} (h : ∀ m, m < l.length → chk s l j m = false) : judF s l (f + 1) j = judF s l f (j + 1) := by
  rw [judF, idxK_miss _ h, if_neg (by decide)]
theorem judF_hit {s : Sh} {l : List Plc} {f j n : Nat} (hn : n < l.length) (h : ∀ m, m < n → chk s l j m = false) (hc : chk s l j n = true) : judF s l (f + 1) j = ((gc l n).j, (gc l n).n, ((51 + j : Nat) : Int)) := by
  have e : idxK (chk s l j) l.length = n := idxK_hit hc h _ hn
  rw [judF, e, if_pos (by omega), Int.toNat_natCast]
theorem jud_at {s : Sh} {l : List Plc} {j n : Nat} (hj : j < 3) (h0 : ∀ k, k < j → ∀ m, m < l.length → chk s l k m = false) (hn : n < l.length) (h : ∀ m, m < n → chk s l j m = false) (hc : chk s l j n = true) : judT s l = ((gc l n).j, (gc l n).n, ((51 + j : Nat) : Int)) := by
  unfold judT
  rcases j with _ | _ | _ | j
  · exact judF_hit hn h hc
  · rw [judF_skip (h0 0 (by omega))]
    exact judF_hit hn h hc
  · rw [judF_skip (h0 0 (by omega)), judF_skip (h0 1 (by omega))]
    exact judF_hit hn h hc
  · omega
theorem jud_ok {s : Sh} {l : List Plc} (h0 : ∀ k, k < 3 → ∀ m, m < l.length → chk s l k m = false) : judT s l = (0, 0, 0) := by
  unfold judT
  rw [judF_skip (h0 0 (by omega)), judF_skip (h0 1 (by omega)), judF_skip (h0 2 (by omega))]
  rfl
theorem jud_zero {s : Sh} {l : List Plc} (h : (judT s l).2.2 = 0) : ∀ k, k < 3 → ∀ m, m < l.length → chk s l k m = false := by
  have key : ∀ j, j < 3 → (∀ k, k < j → ∀ m, m < l.length → chk s l k m = false) → ∀ m, m < l.length → chk s l j m = false := fun j hj h0 m hm => by
    rcases Bool.eq_false_or_eq_true (chk s l j m) with hc | hc
    · -- the first one that is true
      obtain ⟨n, hn1, hn2, hn3⟩ := least_nat (fun n => n ≤ m ∧ chk s l j n = true) m ⟨Nat.le_refl _, hc⟩
      have := jud_at hj h0 (show n < l.length by omega) (fun k hk => by
        rcases Bool.eq_false_or_eq_true (chk s l j k) with h1 | h1
        · exact absurd ⟨by omega, h1⟩ (hn3 k hk)
        · exact h1) hn2.2
      rw [this] at h
      have h : ((51 + j : Nat) : Int) = 0 := h
      omega
    · exact hc
  have k0 := key 0 (by omega) (fun k hk => absurd hk (Nat.not_lt_zero _))
  have k1 := key 1 (by omega) (fun k hk => by
    obtain rfl : k = 0 := by omega
    exact k0)
  have k2 := key 2 (by omega) (fun k hk => by
    rcases k with _ | _ | k
    · exact k0
    · exact k1
    · omega)
  intro k hk
  rcases k with _ | _ | _ | k
  · exact k0
  · exact k1
  · exact k2
  · omega
/-- In the list of all steps a step that is not the first of its job has another one ahead of it. -/
theorem plc_first {s : Sh} {P : List (List Int)} {i : Nat} (hi : i < (plcL s P).length) (h : 0 < (gc (plcL s P) i).n) : 0 < i := by
  rcases Nat.eq_zero_or_pos i with rfl | hp
  · exfalso
    have hi2 := hi
    rw [plcL_len] at hi2
    rw [plcL_at s P hi2] at h
    have h : 0 < (gp (flP s.J) 0).2 := h
    have key : ∀ n, 0 < (flI s.J n).length → (gp (flI s.J n) 0).2 = 0 := fun n => by
      induction n with
      | zero => intro hx; exact absurd hx (Nat.lt_irrefl _)
      | succ n ih =>
        intro hx
        rw [flI] at hx ⊢
        rcases Nat.eq_zero_or_pos (flI s.J n).length with h0 | h0
        · have e0 := List.eq_nil_of_length_eq_zero h0
          rw [e0, List.nil_append] at hx ⊢
          unfold rowP at hx ⊢
          unfold gp
          rw [List.length_map, List.length_range] at hx
          rw [List.getD_eq_getElem?_getD, List.getElem?_map, List.getElem?_range hx]
          rfl
        · have := ih h0
          unfold gp at this ⊢
          rw [List.getD_eq_getElem?_getD, List.getElem?_append_left h0, ← List.getD_eq_getElem?_getD]
          exact this
    have := key s.J.length hi2
    unfold flP at h
    omega
  · exact hp
set_option maxRecDepth 100000 in
set_option maxHeartbeats 4000000 in
theorem judge_good (s : Sh) (ap : Option Addr) (P : List (List Int)) (cp : Nat) (w : World) (hI : ShS w s) (hV : ShOk s) (hP : RowsS w ap P) (hO : PlanOk s P) :
    Calls Try.prog 15 #[.agg #[.int .i64 s.O, .int .i64 s.C, .slice s.aH s.H.length s.cH, .int .i64 s.M, .slice s.aS s.S.length s.cS, .slice s.aJ s.J.length s.cJ], .slice ap P.length cp] w fun e w' => e = .returned (.tuple #[.int .i64 (judT s (plcL s P)).1, .int .i64 (judT s (plcL s P)).2.1, .int .i64 (judT s (plcL s P)).2.2]) ∧ Below w.heap.size w w' := by
  have HV := Lib.hid (fun W (hW : Below w.heap.size w W) => Valid_sh s W (hI.below hW))
  have HPl := Lib.hid (fun W (hW : Below w.heap.size w W) => isPlan_sh s ap P cp W (hI.below hW) (hP.below hW))
  have HA := Lib.hid (fun W (hW : Below w.heap.size w W) => allPlaced_sh s ap P cp W (hI.below hW) hV (hP.below hW) hO)
  rw [shB_t hV] at HV
  rw [planB_t hO] at HPl
  have hfl : (flP s.J).length ≤ 200 := by have := flI_len hV s.J.length (Nat.le_refl _); have := hV.2.2.2.1; unfold flP; omega
  have hfl2 : (flP s.J).length = (plcL s P).length := (plcL_len s P).symm
  have HPS := Lib.hid (fun W a (h : PlacedS W s P a (flP s.J)) => plcS_of h (by omega))
  have HOk := Lib.hid (fun k (hk : k < (plcL s P).length) => plcOk_of hV hO hk)
  have HF := Lib.hid (fun k (hk : k < (plcL s P).length) => plc_first (s := s) (P := P) hk)
  have HI := Lib.hid hI
  have HVV := Lib.hid hV
  clear hI hP hO hV
  rw [hfl2] at HA hfl
  clear hfl2
  generalize plcL s P = l at *
  have HB := Lib.hid (ShBox.start w s 25)
  go_enter Try.func15, Try.ntmps15
  go_wp2_with fail
  obtain ⟨wB, hwB⟩ : ∃ wB, w.alloc (.cells #[.int .i64 s.O, .int .i64 s.C, .slice s.aH s.H.length s.cH, .int .i64 s.M, .slice s.aS s.S.length s.cS, .slice s.aJ s.J.length s.cJ] 25) = wB := ⟨_, rfl⟩
  rw [hwB] at HB ⊢
  clear hwB
  obtain ⟨hb, p0, p1, p2, p3, p4, p5⟩ := HB.out
  clear HB
  go_wp2_with (first | (go_at_call 35; refine (HV.out _ hb).mono ?_; rintro e w1 ⟨rfl, hb1⟩; replace hb := hb.trans (hb1.mono hb.size); replace p0 := cell_below p0 hb1; replace p1 := cell_below p1 hb1; replace p2 := cell_below p2 hb1; replace p3 := cell_below p3 hb1; replace p4 := cell_below p4 hb1; replace p5 := cell_below p5 hb1; clear hb1) | (go_at_call 36; refine (HPl.out _ hb).mono ?_; rintro e w2 ⟨rfl, hb1⟩; replace hb := hb.trans (hb1.mono hb.size); replace p0 := cell_below p0 hb1; replace p1 := cell_below p1 hb1; replace p2 := cell_below p2 hb1; replace p3 := cell_below p3 hb1; replace p4 := cell_below p4 hb1; replace p5 := cell_below p5 hb1; clear hb1))
  go_wp2_with (go_at_call 37; refine (HA.out _ hb).mono ?_; rintro e w3 ⟨a, c, rfl, hPS, hle, hb1⟩; have HPL := Lib.hid (HPS.out _ _ hPS); replace hb := hb.trans (hb1.mono hb.size); replace p0 := cell_below p0 hb1; replace p1 := cell_below p1 hb1; replace p2 := cell_below p2 hb1; replace p3 := cell_below p3 hb1; replace p4 := cell_below p4 hb1; replace p5 := cell_below p5 hb1; clear hb1 hPS)
  obtain ⟨wL, hwL⟩ : ∃ wL, (w3.alloc (.cells #[.slice a l.length c] 62)).alloc (.cells #[.int .i64 51, .func (.func 38) #[] #[.pointer (some ⟨w.heap.size, 0, none⟩), .pointer (some ⟨w3.heap.size, 0, none⟩)], .int .i64 52, .func (.func 40) #[] #[.pointer (some ⟨w3.heap.size, 0, none⟩)], .int .i64 53, .func (.func 42) #[] #[.pointer (some ⟨w3.heap.size, 0, none⟩), .pointer (some ⟨w.heap.size, 0, none⟩)]] 69) = wL := ⟨_, rfl⟩
  have hbL : Below w3.heap.size w3 wL := by rw [← hwL]; exact ((Below.refl _ _).alloc (Nat.le_refl _) _ : Below w3.heap.size w3 (w3.alloc _)).alloc (by simp) _
  have HBL := Lib.hid (hb.trans (hbL.mono hb.size))
  have HQ : Hid (wL.cell? ⟨w3.heap.size, 0, none⟩ = some (.slice a l.length c)) := Lib.hid (by rw [← hwL]; simp [go_sem])
  have HU0 : Hid (wL.cell? ⟨w3.heap.size + 1, 0, none⟩ = some (.int .i64 51)) := Lib.hid (by rw [← hwL]; simp [go_sem])
  have HU1 : Hid (wL.cell? ⟨w3.heap.size + 1, 1, none⟩ = some (.func (.func 38) #[] #[.pointer (some ⟨w.heap.size, 0, none⟩), .pointer (some ⟨w3.heap.size, 0, none⟩)])) := Lib.hid (by rw [← hwL]; simp [go_sem])
  have HU2 : Hid (wL.cell? ⟨w3.heap.size + 1, 2, none⟩ = some (.int .i64 52)) := Lib.hid (by rw [← hwL]; simp [go_sem])
  have HU3 : Hid (wL.cell? ⟨w3.heap.size + 1, 3, none⟩ = some (.func (.func 40) #[] #[.pointer (some ⟨w3.heap.size, 0, none⟩)])) := Lib.hid (by rw [← hwL]; simp [go_sem])
  have HU4 : Hid (wL.cell? ⟨w3.heap.size + 1, 4, none⟩ = some (.int .i64 53)) := Lib.hid (by rw [← hwL]; simp [go_sem])
  have HU5 : Hid (wL.cell? ⟨w3.heap.size + 1, 5, none⟩ = some (.func (.func 42) #[] #[.pointer (some ⟨w3.heap.size, 0, none⟩), .pointer (some ⟨w.heap.size, 0, none⟩)])) := Lib.hid (by rw [← hwL]; simp [go_sem])
  have HSA : Hid (ShAx wL w.heap.size s) := Lib.hid ⟨Nat.lt_of_lt_of_le (block_lt p0) hbL.size, cell_below p0 hbL, cell_below p1 hbL, cell_below p2 hbL, cell_below p3 hbL, cell_below p4 hbL, cell_below p5 hbL⟩
  have HPA : Hid (PlAt wL w3.heap.size a l c) := Lib.hid ⟨HQ.out, HPL.out.below hbL⟩
  obtain ⟨hl9, blk, off, hadr, hc⟩ := HPA.out.2
  have HC := Lib.hid hc
  have HLa : Hid (0 < l.length → a = some ⟨blk, off, none⟩) := Lib.hid fun h => hadr (List.ne_nil_of_length_pos h)
  have HJ0 := Lib.hid (fun W i (hW : Below wL.heap.size wL W) (hi : i < l.length) => show Calls Try.prog 38 (#[.int .i64 i] ++ #[.pointer (some ⟨w.heap.size, 0, none⟩), .pointer (some ⟨w3.heap.size, 0, none⟩)]) W (fun e w' => e = .returned (.bool (chk s l 0 i)) ∧ Below W.heap.size W w') from jdg1_r s w.heap.size w3.heap.size a l c i W hi (HSA.out.below hW) (HI.out.below (HBL.out.trans (hW.mono HBL.out.size))) HVV.out (HPA.out.below hW) HOk.out)
  have HJ1 := Lib.hid (fun W i (hW : Below wL.heap.size wL W) (hi : i < l.length) => show Calls Try.prog 40 (#[.int .i64 i] ++ #[.pointer (some ⟨w3.heap.size, 0, none⟩)]) W (fun e w' => e = .returned (.bool (chk s l 1 i)) ∧ Below W.heap.size W w') from jdg2_r s w3.heap.size a l c i W hi (HF.out i hi) (HPA.out.below hW) HOk.out)
  have HJ2 := Lib.hid (fun W i (hW : Below wL.heap.size wL W) (hi : i < l.length) => show Calls Try.prog 42 (#[.int .i64 i] ++ #[.pointer (some ⟨w3.heap.size, 0, none⟩), .pointer (some ⟨w.heap.size, 0, none⟩)]) W (fun e w' => e = .returned (.bool (chk s l 2 i)) ∧ Below W.heap.size W w') from jdg3_r s w.heap.size w3.heap.size a l c i W hi (HSA.out.below hW) (HI.out.below (HBL.out.trans (hW.mono HBL.out.size))) HVV.out (HPA.out.below hW) HOk.out hle)
  rw [hwL]
  clear hwL hbL hb p0 p1 p2 p3 p4 p5 hc hadr HPL HPS HV HPl HA
  go_loopw [30] (fun i wr => ∃ k : Nat, k ≤ 3 ∧ i = .int .i64 k ∧ Below wL.heap.size wL wr ∧ Hid (∀ j, j < k → ∀ m, m < l.length → chk s l j m = false)) (fun i _ => 3 - (intOf i).toNat)
  case atStart => exact ⟨0, Nat.zero_le _, rfl, Below.refl _ _, Lib.hid fun j hj => absurd hj (Nat.not_lt_zero _)⟩
  case round =>
    obtain ⟨k, hk, hik, hb1, HP⟩ := hrel
    have HEnd : Hid ((∀ m, m < l.length → chk s l k m = false) → ∀ j, j < k + 1 → ∀ m, m < l.length → chk s l j m = false) := Lib.hid fun h j hj => by
      by_cases e : j = k
      · subst e; exact h
      · exact HP.out j (by omega)
    rcases k with _ | _ | _ | _ | k
    · obtain rfl := (hik : _ = Value.int .i64 0)
      obtain ⟨wo, rfl⟩ : ∃ wo : World, wo = wr := ⟨_, rfl⟩
      have u0 := cell_below HU0.out hb1
      have u1 := cell_below HU1.out hb1
      have q0 := cell_below HQ.out hb1
      clear HU0 HU1 HU2 HU3 HU4 HU5
      have HJJ := Lib.hid (fun W i (hW : Below wL.heap.size wL W) (hi : i < l.length) => HJ0.out W i hW hi)
      clear HJ0 HJ1 HJ2
      have qA : ∀ O, (wo.alloc O).cell? ⟨w3.heap.size, 0, none⟩ = some (.slice a l.length c) := fun O => cell_below q0 ((Below.refl _ _).alloc (Nat.le_refl _) _)
      go_wp2_with fail
      clear qA
      obtain ⟨wR, hwR⟩ : ∃ wR, wo.alloc (.cells #[.int .i64 51, .func (.func 38) #[] #[.pointer (some ⟨w.heap.size, 0, none⟩), .pointer (some ⟨w3.heap.size, 0, none⟩)]] 69) = wR := ⟨_, rfl⟩
      have hbR : Below wo.heap.size wo wR := by rw [← hwR]; exact (Below.refl _ _).alloc (Nat.le_refl _) _
      have v0 : wR.cell? ⟨wo.heap.size, 0, none⟩ = some (.int .i64 51) := by rw [← hwR]; simp [go_sem]
      have v1 : wR.cell? ⟨wo.heap.size, 1, none⟩ = some (.func (.func 38) #[] #[.pointer (some ⟨w.heap.size, 0, none⟩), .pointer (some ⟨w3.heap.size, 0, none⟩)]) := by rw [← hwR]; simp [go_sem]
      have HB1 := Lib.hid (hb1.trans (hbR.mono hb1.size))
      have HV0 := Lib.hid v0
      have HV1 := Lib.hid v1
      rw [hwR]
      clear hwR v0 v1 hb1 u0 u1 q0 hbR
      go_loopw [36] (fun i wr => ∃ n : Nat, n ≤ l.length ∧ i = .int .i64 n ∧ Below wR.heap.size wR wr ∧ Hid (∀ m, m < n → chk s l 0 m = false)) (fun i _ => l.length - (intOf i).toNat)
      case atStart => exact ⟨0, Nat.zero_le _, rfl, Below.refl _ _, Lib.hid fun m hm => absurd hm (Nat.not_lt_zero _)⟩
      case round =>
        obtain ⟨n, hn, rfl, hb2, HN⟩ := hrel
        by_cases hlt : n < l.length
        · obtain rfl := HLa.out (by omega)
          obtain ⟨c0, c1, c2, c3, c4, c5, c6⟩ := HC.out n hlt
          have hb3 := HB1.out.trans (hb2.mono HB1.out.size)
          have c0 := cell_below c0 hb3
          have c1 := cell_below c1 hb3
          have c2 := cell_below c2 hb3
          have c3 := cell_below c3 hb3
          have c4 := cell_below c4 hb3
          have c5 := cell_below c5 hb3
          have c6 := cell_below c6 hb3
          have v0 := cell_below HV0.out hb2
          have v1 := cell_below HV1.out hb2
          have hv := block_lt v0
          have hnI : (n : Int) < l.length := by omega
          have HJn := Lib.hid (fun W (hW : Below wL.heap.size wL W) => HJJ.out W n hW hlt)
          have HNx : Hid (chk s l 0 n = false → ∀ m, m < n + 1 → chk s l 0 m = false) := Lib.hid fun h m hm => by
            by_cases e : m = n
            · subst e; exact h
            · exact HN.out m (by omega)
          have HHit : Hid (chk s l 0 n = true → judT s l = ((gc l n).j, (gc l n).n, 51)) := Lib.hid fun h => jud_at (by decide) HP.out hlt HN.out h
          clear HC HLa HJJ HEnd HP HN
          generalize gc l n = x at *
          obtain ⟨wC, hwC⟩ : ∃ wC, wr.alloc (.cells #[.int .i64 x.m, .int .i64 x.mi, .int .i64 x.c, .int .i64 x.d, .int .i64 x.j, .int .i64 x.n, .int .i64 x.st] 67) = wC := ⟨_, rfl⟩
          have hbC : Below wr.heap.size wr wC := by rw [← hwC]; exact (Below.refl _ _).alloc (Nat.le_refl _) _
          have z4 : wC.cell? ⟨wr.heap.size, 4, none⟩ = some (.int .i64 x.j) := by rw [← hwC]; simp [go_sem]
          have z5 : wC.cell? ⟨wr.heap.size, 5, none⟩ = some (.int .i64 x.n) := by rw [← hwC]; simp [go_sem]
          have HbC := Lib.hid hbC
          have Z4 := Lib.hid z4
          have Z5 := Lib.hid z5
          have HwC := Lib.hid hwC
          clear hbC z4 z5 hwC
          go_wp2_with fail
          rw [HwC.out]
          refine (HJn.out _ (hb3.trans (HbC.out.mono hb3.size))).mono ?_
          rintro e w9 ⟨rfl, hb9⟩
          have hb4 := HB1.out.trans ((hb2.trans (HbC.out.mono hb2.size)).mono HB1.out.size)
          have hb5 := hb4.trans (hb9.mono hb4.size)
          have z4 := cell_below Z4.out hb9
          have z5 := cell_below Z5.out hb9
          have v0 := cell_below v0 (HbC.out.trans (hb9.mono HbC.out.size))
          have HB5 := Lib.hid hb5
          have hbX := hb2.trans (HbC.out.mono hb2.size)
          have HX9 := Lib.hid (hbX.trans (hb9.mono hbX.size))
          clear hbX HwC HbC Z4 Z5 hb9 hb4 hb5 v1 c0 c1 c2 c3 c4 c5 c6 hb3 HJn
          obtain ⟨bb, hbb⟩ : ∃ bb, chk s l 0 n = bb := ⟨_, rfl⟩
          rw [hbb]
          have HBB := Lib.hid hbb
          clear hbb
          cases bb with
          | true =>
            have HR := Lib.hid (HHit.out HBB.out)
            clear HHit HNx HBB
            go_wp2_with fail
            go_quiet (fail)
            go_wp2_with fail
            go_ret3
            rw [HR.out]
            exact ⟨rfl, below_drewN (HBL.out.trans (HB5.out.mono HBL.out.size)) _⟩
          | false =>
            have HR := Lib.hid (HNx.out HBB.out)
            clear HHit HNx HBB
            go_wp2_with fail
            go_roundw
            case rel => first | exact ⟨n + 1, by omega, by go_num, HX9.out, HR⟩ | ((repeat apply Exists.intro); exact ⟨⟨n + 1, by omega, by go_num, HX9.out, HR⟩, rfl⟩)
            case measure => first | (simp [intOf]; done) | (simp [intOf]; omega)
        · obtain rfl : n = l.length := by omega
          have HR := Lib.hid (HEnd.out HN.out)
          clear HC HLa HJJ HEnd HP HN
          go_wp2_with fail
          go_roundw
          case rel => exact ⟨1, by omega, by go_num, HB1.out.trans (hb2.mono HB1.out.size), HR⟩
          case measure => first | (simp [intOf]; done) | (simp [intOf]; omega)
    · obtain rfl := (hik : _ = Value.int .i64 1)
      obtain ⟨wo, rfl⟩ : ∃ wo : World, wo = wr := ⟨_, rfl⟩
      have u0 := cell_below HU2.out hb1
      have u1 := cell_below HU3.out hb1
      have q0 := cell_below HQ.out hb1
      clear HU0 HU1 HU2 HU3 HU4 HU5
      have HJJ := Lib.hid (fun W i (hW : Below wL.heap.size wL W) (hi : i < l.length) => HJ1.out W i hW hi)
      clear HJ0 HJ1 HJ2
      have qA : ∀ O, (wo.alloc O).cell? ⟨w3.heap.size, 0, none⟩ = some (.slice a l.length c) := fun O => cell_below q0 ((Below.refl _ _).alloc (Nat.le_refl _) _)
      go_wp2_with fail
      clear qA
      obtain ⟨wR, hwR⟩ : ∃ wR, wo.alloc (.cells #[.int .i64 52, .func (.func 40) #[] #[.pointer (some ⟨w3.heap.size, 0, none⟩)]] 69) = wR := ⟨_, rfl⟩
      have hbR : Below wo.heap.size wo wR := by rw [← hwR]; exact (Below.refl _ _).alloc (Nat.le_refl _) _
      have v0 : wR.cell? ⟨wo.heap.size, 0, none⟩ = some (.int .i64 52) := by rw [← hwR]; simp [go_sem]
      have v1 : wR.cell? ⟨wo.heap.size, 1, none⟩ = some (.func (.func 40) #[] #[.pointer (some ⟨w3.heap.size, 0, none⟩)]) := by rw [← hwR]; simp [go_sem]
      have HB1 := Lib.hid (hb1.trans (hbR.mono hb1.size))
      have HV0 := Lib.hid v0
      have HV1 := Lib.hid v1
      rw [hwR]
      clear hwR v0 v1 hb1 u0 u1 q0 hbR
      go_loopw [36] (fun i wr => ∃ n : Nat, n ≤ l.length ∧ i = .int .i64 n ∧ Below wR.heap.size wR wr ∧ Hid (∀ m, m < n → chk s l 1 m = false)) (fun i _ => l.length - (intOf i).toNat)
      case atStart => exact ⟨0, Nat.zero_le _, rfl, Below.refl _ _, Lib.hid fun m hm => absurd hm (Nat.not_lt_zero _)⟩
      case round =>
        obtain ⟨n, hn, rfl, hb2, HN⟩ := hrel
        by_cases hlt : n < l.length
        · obtain rfl := HLa.out (by omega)
          obtain ⟨c0, c1, c2, c3, c4, c5, c6⟩ := HC.out n hlt
          have hb3 := HB1.out.trans (hb2.mono HB1.out.size)
          have c0 := cell_below c0 hb3
          have c1 := cell_below c1 hb3
          have c2 := cell_below c2 hb3
          have c3 := cell_below c3 hb3
          have c4 := cell_below c4 hb3
          have c5 := cell_below c5 hb3
          have c6 := cell_below c6 hb3
          have v0 := cell_below HV0.out hb2
          have v1 := cell_below HV1.out hb2
          have hv := block_lt v0
          have hnI : (n : Int) < l.length := by omega
          have HJn := Lib.hid (fun W (hW : Below wL.heap.size wL W) => HJJ.out W n hW hlt)
          have HNx : Hid (chk s l 1 n = false → ∀ m, m < n + 1 → chk s l 1 m = false) := Lib.hid fun h m hm => by
            by_cases e : m = n
            · subst e; exact h
            · exact HN.out m (by omega)
          have HHit : Hid (chk s l 1 n = true → judT s l = ((gc l n).j, (gc l n).n, 52)) := Lib.hid fun h => jud_at (by decide) HP.out hlt HN.out h
          clear HC HLa HJJ HEnd HP HN
          generalize gc l n = x at *
          obtain ⟨wC, hwC⟩ : ∃ wC, wr.alloc (.cells #[.int .i64 x.m, .int .i64 x.mi, .int .i64 x.c, .int .i64 x.d, .int .i64 x.j, .int .i64 x.n, .int .i64 x.st] 67) = wC := ⟨_, rfl⟩
          have hbC : Below wr.heap.size wr wC := by rw [← hwC]; exact (Below.refl _ _).alloc (Nat.le_refl _) _
          have z4 : wC.cell? ⟨wr.heap.size, 4, none⟩ = some (.int .i64 x.j) := by rw [← hwC]; simp [go_sem]
          have z5 : wC.cell? ⟨wr.heap.size, 5, none⟩ = some (.int .i64 x.n) := by rw [← hwC]; simp [go_sem]
          have HbC := Lib.hid hbC
          have Z4 := Lib.hid z4
          have Z5 := Lib.hid z5
          have HwC := Lib.hid hwC
          clear hbC z4 z5 hwC
          go_wp2_with fail
          rw [HwC.out]
          refine (HJn.out _ (hb3.trans (HbC.out.mono hb3.size))).mono ?_
          rintro e w9 ⟨rfl, hb9⟩
          have hb4 := HB1.out.trans ((hb2.trans (HbC.out.mono hb2.size)).mono HB1.out.size)
          have hb5 := hb4.trans (hb9.mono hb4.size)
          have z4 := cell_below Z4.out hb9
          have z5 := cell_below Z5.out hb9
          have v0 := cell_below v0 (HbC.out.trans (hb9.mono HbC.out.size))
          have HB5 := Lib.hid hb5
          have hbX := hb2.trans (HbC.out.mono hb2.size)
          have HX9 := Lib.hid (hbX.trans (hb9.mono hbX.size))
          clear hbX HwC HbC Z4 Z5 hb9 hb4 hb5 v1 c0 c1 c2 c3 c4 c5 c6 hb3 HJn
          obtain ⟨bb, hbb⟩ : ∃ bb, chk s l 1 n = bb := ⟨_, rfl⟩
          rw [hbb]
          have HBB := Lib.hid hbb
          clear hbb
          cases bb with
          | true =>
            have HR := Lib.hid (HHit.out HBB.out)
            clear HHit HNx HBB
            go_wp2_with fail
            go_quiet (fail)
            go_wp2_with fail
            go_ret3
            rw [HR.out]
            exact ⟨rfl, below_drewN (HBL.out.trans (HB5.out.mono HBL.out.size)) _⟩
          | false =>
            have HR := Lib.hid (HNx.out HBB.out)
            clear HHit HNx HBB
            go_wp2_with fail
            go_roundw
            case rel => first | exact ⟨n + 1, by omega, by go_num, HX9.out, HR⟩ | ((repeat apply Exists.intro); exact ⟨⟨n + 1, by omega, by go_num, HX9.out, HR⟩, rfl⟩)
            case measure => first | (simp [intOf]; done) | (simp [intOf]; omega)
        · obtain rfl : n = l.length := by omega
          have HR := Lib.hid (HEnd.out HN.out)
          clear HC HLa HJJ HEnd HP HN
          go_wp2_with fail
          go_roundw
          case rel => exact ⟨2, by omega, by go_num, HB1.out.trans (hb2.mono HB1.out.size), HR⟩
          case measure => first | (simp [intOf]; done) | (simp [intOf]; omega)
    · obtain rfl := (hik : _ = Value.int .i64 2)
      obtain ⟨wo, rfl⟩ : ∃ wo : World, wo = wr := ⟨_, rfl⟩
      have u0 := cell_below HU4.out hb1
      have u1 := cell_below HU5.out hb1
      have q0 := cell_below HQ.out hb1
      clear HU0 HU1 HU2 HU3 HU4 HU5
      have HJJ := Lib.hid (fun W i (hW : Below wL.heap.size wL W) (hi : i < l.length) => HJ2.out W i hW hi)
      clear HJ0 HJ1 HJ2
      have qA : ∀ O, (wo.alloc O).cell? ⟨w3.heap.size, 0, none⟩ = some (.slice a l.length c) := fun O => cell_below q0 ((Below.refl _ _).alloc (Nat.le_refl _) _)
      go_wp2_with fail
      clear qA
      obtain ⟨wR, hwR⟩ : ∃ wR, wo.alloc (.cells #[.int .i64 53, .func (.func 42) #[] #[.pointer (some ⟨w3.heap.size, 0, none⟩), .pointer (some ⟨w.heap.size, 0, none⟩)]] 69) = wR := ⟨_, rfl⟩
      have hbR : Below wo.heap.size wo wR := by rw [← hwR]; exact (Below.refl _ _).alloc (Nat.le_refl _) _
      have v0 : wR.cell? ⟨wo.heap.size, 0, none⟩ = some (.int .i64 53) := by rw [← hwR]; simp [go_sem]
      have v1 : wR.cell? ⟨wo.heap.size, 1, none⟩ = some (.func (.func 42) #[] #[.pointer (some ⟨w3.heap.size, 0, none⟩), .pointer (some ⟨w.heap.size, 0, none⟩)]) := by rw [← hwR]; simp [go_sem]
      have HB1 := Lib.hid (hb1.trans (hbR.mono hb1.size))
      have HV0 := Lib.hid v0
      have HV1 := Lib.hid v1
      rw [hwR]
      clear hwR v0 v1 hb1 u0 u1 q0 hbR
      go_loopw [36] (fun i wr => ∃ n : Nat, n ≤ l.length ∧ i = .int .i64 n ∧ Below wR.heap.size wR wr ∧ Hid (∀ m, m < n → chk s l 2 m = false)) (fun i _ => l.length - (intOf i).toNat)
      case atStart => exact ⟨0, Nat.zero_le _, rfl, Below.refl _ _, Lib.hid fun m hm => absurd hm (Nat.not_lt_zero _)⟩
      case round =>
        obtain ⟨n, hn, rfl, hb2, HN⟩ := hrel
        by_cases hlt : n < l.length
        · obtain rfl := HLa.out (by omega)
          obtain ⟨c0, c1, c2, c3, c4, c5, c6⟩ := HC.out n hlt
          have hb3 := HB1.out.trans (hb2.mono HB1.out.size)
          have c0 := cell_below c0 hb3
          have c1 := cell_below c1 hb3
          have c2 := cell_below c2 hb3
          have c3 := cell_below c3 hb3
          have c4 := cell_below c4 hb3
          have c5 := cell_below c5 hb3
          have c6 := cell_below c6 hb3
          have v0 := cell_below HV0.out hb2
          have v1 := cell_below HV1.out hb2
          have hv := block_lt v0
          have hnI : (n : Int) < l.length := by omega
          have HJn := Lib.hid (fun W (hW : Below wL.heap.size wL W) => HJJ.out W n hW hlt)
          have HNx : Hid (chk s l 2 n = false → ∀ m, m < n + 1 → chk s l 2 m = false) := Lib.hid fun h m hm => by
            by_cases e : m = n
            · subst e; exact h
            · exact HN.out m (by omega)
          have HHit : Hid (chk s l 2 n = true → judT s l = ((gc l n).j, (gc l n).n, 53)) := Lib.hid fun h => jud_at (by decide) HP.out hlt HN.out h
          clear HC HLa HJJ HEnd HP HN
          generalize gc l n = x at *
          obtain ⟨wC, hwC⟩ : ∃ wC, wr.alloc (.cells #[.int .i64 x.m, .int .i64 x.mi, .int .i64 x.c, .int .i64 x.d, .int .i64 x.j, .int .i64 x.n, .int .i64 x.st] 67) = wC := ⟨_, rfl⟩
          have hbC : Below wr.heap.size wr wC := by rw [← hwC]; exact (Below.refl _ _).alloc (Nat.le_refl _) _
          have z4 : wC.cell? ⟨wr.heap.size, 4, none⟩ = some (.int .i64 x.j) := by rw [← hwC]; simp [go_sem]
          have z5 : wC.cell? ⟨wr.heap.size, 5, none⟩ = some (.int .i64 x.n) := by rw [← hwC]; simp [go_sem]
          have HbC := Lib.hid hbC
          have Z4 := Lib.hid z4
          have Z5 := Lib.hid z5
          have HwC := Lib.hid hwC
          clear hbC z4 z5 hwC
          go_wp2_with fail
          rw [HwC.out]
          refine (HJn.out _ (hb3.trans (HbC.out.mono hb3.size))).mono ?_
          rintro e w9 ⟨rfl, hb9⟩
          have hb4 := HB1.out.trans ((hb2.trans (HbC.out.mono hb2.size)).mono HB1.out.size)
          have hb5 := hb4.trans (hb9.mono hb4.size)
          have z4 := cell_below Z4.out hb9
          have z5 := cell_below Z5.out hb9
          have v0 := cell_below v0 (HbC.out.trans (hb9.mono HbC.out.size))
          have HB5 := Lib.hid hb5
          have hbX := hb2.trans (HbC.out.mono hb2.size)
          have HX9 := Lib.hid (hbX.trans (hb9.mono hbX.size))
          clear hbX HwC HbC Z4 Z5 hb9 hb4 hb5 v1 c0 c1 c2 c3 c4 c5 c6 hb3 HJn
          obtain ⟨bb, hbb⟩ : ∃ bb, chk s l 2 n = bb := ⟨_, rfl⟩
          rw [hbb]
          have HBB := Lib.hid hbb
          clear hbb
          cases bb with
          | true =>
            have HR := Lib.hid (HHit.out HBB.out)
            clear HHit HNx HBB
            go_wp2_with fail
            go_quiet (fail)
            go_wp2_with fail
            go_ret3
            rw [HR.out]
            exact ⟨rfl, below_drewN (HBL.out.trans (HB5.out.mono HBL.out.size)) _⟩
          | false =>
            have HR := Lib.hid (HNx.out HBB.out)
            clear HHit HNx HBB
            go_wp2_with fail
            go_roundw
            case rel => first | exact ⟨n + 1, by omega, by go_num, HX9.out, HR⟩ | ((repeat apply Exists.intro); exact ⟨⟨n + 1, by omega, by go_num, HX9.out, HR⟩, rfl⟩)
            case measure => first | (simp [intOf]; done) | (simp [intOf]; omega)
        · obtain rfl : n = l.length := by omega
          have HR := Lib.hid (HEnd.out HN.out)
          clear HC HLa HJJ HEnd HP HN
          go_wp2_with fail
          go_roundw
          case rel => exact ⟨3, by omega, by go_num, HB1.out.trans (hb2.mono HB1.out.size), HR⟩
          case measure => first | (simp [intOf]; done) | (simp [intOf]; omega)
    · obtain rfl := (hik : _ = Value.int .i64 3)
      have HR := Lib.hid (jud_ok HP.out)
      go_wp2_with fail
      go_ret3
      rw [HR.out]
      exact ⟨rfl, HBL.out.trans (hb1.mono HBL.out.size)⟩
    · omega
end Go.Proofs.Ytgphkfonjfdifaa

namespace Go.Proofs.Ytgphkfonjfdifaa
set_option linter.unusedVariables false
set_option linter.unusedSimpArgs false
open Go.RowKit

set_option maxRecDepth 100000 in
set_option maxHeartbeats 4000000 in
theorem ready_sh (s : Sh) (ap : Option Addr) (P : List (List Int)) (cp : Nat) (i k : Nat) (w : World) (hI : ShS w s) (hV : ShOk s) (hP : RowsS w ap P) (hO : PlanOk s P) (hi : i < s.J.length) (hk : k < (gj s.J i).length) :
    Calls Try.prog 50 #[.agg #[.int .i64 s.O, .int .i64 s.C, .slice s.aH s.H.length s.cH, .int .i64 s.M, .slice s.aS s.S.length s.cS, .slice s.aJ s.J.length s.cJ], .slice ap P.length cp, .agg #[.int .i64 i, .int .i64 k]] w fun e w' => e = .returned (.int .i64 (rdyV s P i k)) ∧ Below w.heap.size w w' := by
  have h12 := hV.2.2.2.1
  have h8 := (hV.2.2.2.2 i hi).1
  have hiP : i < P.length := by rw [hO.1]; exact hi
  obtain ⟨hrl, hrb⟩ := hO.2 i hiP
  have hB := ShBox.start w s 25
  have hBx : ∀ O, Below w.heap.size w ((w.alloc (.cells #[.int .i64 s.O, .int .i64 s.C, .slice s.aH s.H.length s.cH, .int .i64 s.M, .slice s.aS s.S.length s.cS, .slice s.aJ s.J.length s.cJ] 25)).alloc O) := fun O => hB.1.alloc (by simp) _
  have HBx := Lib.hid hBx
  by_cases hk0 : k = 0
  · subst hk0
    have hr : rdyV s P i 0 = 0 := by unfold rdyV; rw [if_pos rfl]
    rw [hr]
    clear hI hV hP hO hrl hrb hr hB hBx
    go_enter Try.func50, Try.ntmps50
    go_wp2_with fail
    go_ret
    exact ⟨rfl, HBx.out _⟩
  · obtain ⟨n, hkn⟩ : ∃ n, k = n + 1 := ⟨k - 1, by omega⟩
    have hr : rdyV s P i k = gi (gr P i) n + (gs (gj s.J i) n).2.1 + (gs (gj s.J i) n).2.2.2 := by unfold rdyV; rw [if_neg hk0, hkn, Nat.add_sub_cancel]
    rw [hr]
    have hsn := (hV.2.2.2.2 i hi).2 n (by omega)
    have hday := hV.1
    unfold stpOk at hsn
    obtain ⟨-, ⟨m0, m1⟩, -, d0, d1⟩ := hsn
    obtain ⟨r0, r1⟩ := hrb n (by omega)
    obtain ⟨hlJ, bJ, oJ, aj, cj, hadrJ, hcJ⟩ := hI.2.2
    have c0 := (hcJ i hi).1
    have HA := Lib.hid (hadrJ (fun e => by rw [e] at hi; simp at hi))
    obtain ⟨hln, hbd, b1, f1, hadr1, hc1⟩ := (hcJ i hi).2.1
    obtain ⟨e0, e1, e2, e3⟩ := hc1 n (by omega)
    have hal := hadr1 (fun e => by rw [e] at hk; simp at hk)
    obtain ⟨hlP, bP, oP, ad, cq, hadrP, hcP⟩ := hP
    have u0 := (hcP i hiP).1
    have HAP := Lib.hid (hadrP (fun e => by rw [e] at hiP; simp at hiP))
    obtain ⟨hln2, hbd2, b2, f2, hadr2, hc2⟩ := (hcP i hiP).2.1
    have v0 := hc2 n (by omega)
    have hal2 := hadr2 (fun e => by rw [e] at hrl; simp at hrl; omega)
    have hi0 : (i : Int) < s.J.length := by omega
    have hi1 : (i : Int) < P.length := by omega
    have hk3 : (n : Int) < (gj s.J i).length := by omega
    have hk1 : (n : Int) < (gr P i).length := by omega
    have ws : IntKind.i64.wrap ((k : Int) - 1) = (n : Int) := by rw [show (k : Int) - 1 = n by omega]; exact IntWalk.i64_in _ (by omega)
    have e9 : ((k : Int) == 0) = false := by rw [beq_eq_false_iff_ne]; omega
    have hkn2 : (k : Int) - 1 = n := by omega
    have hk9 : (k : Int) ≤ 9 := by omega
    clear hI hV hO hrb hadrJ hcJ hbd hadr1 hc1 hadrP hcP hbd2 hadr2 hc2 hr hB hBx hrl h8 hkn hk0 hk
    generalize (gs (gj s.J i) n).1 = x0 at *
    generalize (gs (gj s.J i) n).2.1 = x1 at *
    generalize (gs (gj s.J i) n).2.2.1 = x2 at *
    generalize (gs (gj s.J i) n).2.2.2 = x3 at *
    generalize gi (gr P i) n = x9 at *
    generalize (gj s.J i).length = nj at *
    generalize (gr P i).length = np at *
    generalize aj i = al at *
    subst hal
    generalize ad i = al2 at *
    subst hal2
    generalize cj i = cl at *
    generalize cq i = cl2 at *
    go_enter Try.func50, Try.ntmps50
    go_wp2_with fail
    obtain ⟨wB, hwB⟩ : ∃ wB, (w.alloc (.cells #[.int .i64 s.O, .int .i64 s.C, .slice s.aH s.H.length s.cH, .int .i64 s.M, .slice s.aS s.S.length s.cS, .slice s.aJ s.J.length s.cJ] 25)).alloc (.cells #[.int .i64 i, .int .i64 k] 76) = wB := ⟨_, rfl⟩
    have hb : Below w.heap.size w wB := by rw [← hwB]; exact HBx.out _
    have p5 : wB.cell? ⟨w.heap.size, 5, none⟩ = some (.slice (some ⟨bJ, oJ, none⟩) s.J.length s.cJ) := by rw [← hwB, ← HA.out]; simp [go_sem]
    have g0 : wB.cell? ⟨w.heap.size + 1, 0, none⟩ = some (.int .i64 i) := by rw [← hwB]; simp [go_sem]
    have g1 : wB.cell? ⟨w.heap.size + 1, 1, none⟩ = some (.int .i64 k) := by rw [← hwB]; simp [go_sem]
    rw [hwB, HAP.out]
    have c0 := cell_below c0 hb
    have e0 := cell_below e0 hb
    have e1 := cell_below e1 hb
    have e2 := cell_below e2 hb
    have e3 := cell_below e3 hb
    have u0 := cell_below u0 hb
    have v0 := cell_below v0 hb
    clear hwB HA HAP HBx
    have qa : ∀ b, b < wB.heap.size → ∀ c o, ((wB.alloc (.cells c 57)).drew).cell? ⟨b, o, none⟩ = wB.cell? ⟨b, o, none⟩ := fun b hb c o => ((((Below.refl wB.heap.size wB).alloc (Nat.le_refl _) (.cells c 57)).drew).cell (p := ⟨b, o, none⟩) hb)
    have q1 := qa _ (block_lt p5)
    have q2 := qa _ (block_lt g0)
    have q3 := qa _ (block_lt c0)
    have q4 := qa _ (block_lt e0)
    have z1 := block_lt p5
    have z2 := block_lt g0
    have z3 := block_lt c0
    have z4 := block_lt e0
    have n1 : w.heap.size ≠ wB.heap.size := by omega
    have n2 : w.heap.size + 1 ≠ wB.heap.size := by omega
    have n3 : bJ ≠ wB.heap.size := by omega
    have n4 : b1 ≠ wB.heap.size := by omega
    clear qa
    go_region
    all_goals
      obtain ⟨wC, hwC⟩ : ∃ wC, ((wB.alloc (.cells #[.int .i64 x0, .int .i64 x1, .int .i64 x2, .int .i64 x3] 57)).drew) = wC := ⟨_, rfl⟩
      have hbC : Below wB.heap.size wB wC := by rw [← hwC]; exact ((Below.refl _ _).alloc (Nat.le_refl _) _).drew
      have y1 : wC.cell? ⟨wB.heap.size, 1, none⟩ = some (.int .i64 x1) := by rw [← hwC]; simp [go_sem]
      have y3 : wC.cell? ⟨wB.heap.size, 3, none⟩ = some (.int .i64 x3) := by rw [← hwC]; simp [go_sem]
      have g0 := cell_below g0 hbC
      have g1 := cell_below g1 hbC
      have u0 := cell_below u0 hbC
      have v0 := cell_below v0 hbC
      have hb := hb.trans (hbC.mono hb.size)
      have w9 : IntKind.i64.wrap (x9 + x1) = x9 + x1 := IntWalk.i64_in _ (by omega)
      have w8 : IntKind.i64.wrap (x9 + x1 + x3) = x9 + x1 + x3 := IntWalk.i64_in _ (by omega)
      rw [hwC]
      clear hwC hbC q1 q2 q3 q4 n1 n2 n3 n4 z1 z2 z3 z4 p5 c0 e0 e1 e2 e3
      go_wp2_with fail
      go_quiet (fail)
      go_wp2_with fail
      go_ret
      exact ⟨rfl, below_drewN hb _⟩
end Go.Proofs.Ytgphkfonjfdifaa

namespace Go.Proofs.Ytgphkfonjfdifaa
set_option linter.unusedVariables false
set_option linter.unusedSimpArgs false
open Go.RowKit

theorem shareM (T : Prop) {G : Prop} (h : Hid T → G) (t : T) : G := h (Lib.hid t)
theorem heapcM {w : World} {B : Nat} {cs : Array Value} {T : TypeId} (h : w.heap[B]? = some (.cells cs T (0, 0))) (i : Nat) (v : Value) (hi : cs[i]? = some v) : w.cell? ⟨B, i, none⟩ = some v := (cell_of_row w B i _ _ _ h).trans hi
theorem heapltM {w : World} {B : Nat} {o : Obj} (h : w.heap[B]? = some o) : B < w.heap.size := (Array.getElem?_eq_some_iff.1 h).1
theorem heapM4 {w : World} {B : Nat} {T : TypeId} {z0 z1 z2 z3 : Value} (h : w.heap[B]? = some (.cells #[z0, z1, z2, z3] T (0, 0))) (v0 v1 v2 v3 : Value) :
    ((((w.setCell ⟨B, 0, none⟩ v0).setCell ⟨B, 1, none⟩ v1).setCell ⟨B, 2, none⟩ v2).setCell ⟨B, 3, none⟩ v3).heap[B]? = some (.cells #[v0, v1, v2, v3] T (0, 0)) := by
  have e0 : (w.setCell ⟨B, 0, none⟩ v0).heap[B]? = some (.cells #[v0, z1, z2, z3] T (0, 0)) := heap_setCell_same _ B 0 _ T v0 h
  have e1 : ((w.setCell ⟨B, 0, none⟩ v0).setCell ⟨B, 1, none⟩ v1).heap[B]? = some (.cells #[v0, v1, z2, z3] T (0, 0)) := heap_setCell_same _ B 1 _ T v1 e0
  have e2 : (((w.setCell ⟨B, 0, none⟩ v0).setCell ⟨B, 1, none⟩ v1).setCell ⟨B, 2, none⟩ v2).heap[B]? = some (.cells #[v0, v1, v2, z3] T (0, 0)) := heap_setCell_same _ B 2 _ T v2 e1
  have e3 : ((((w.setCell ⟨B, 0, none⟩ v0).setCell ⟨B, 1, none⟩ v1).setCell ⟨B, 2, none⟩ v2).setCell ⟨B, 3, none⟩ v3).heap[B]? = some (.cells #[v0, v1, v2, v3] T (0, 0)) := heap_setCell_same _ B 3 _ T v3 e2
  exact e3
theorem heapO4 {w : World} {B K : Nat} (h : K ≠ B) (v0 v1 v2 v3 : Value) : ((((w.setCell ⟨B, 0, none⟩ v0).setCell ⟨B, 1, none⟩ v1).setCell ⟨B, 2, none⟩ v2).setCell ⟨B, 3, none⟩ v3).heap[K]? = w.heap[K]? := by
  refine Eq.trans (heap_setCell_other _ ⟨B, 3, none⟩ K _ h) ?_
  refine Eq.trans (heap_setCell_other _ ⟨B, 2, none⟩ K _ h) ?_
  refine Eq.trans (heap_setCell_other _ ⟨B, 1, none⟩ K _ h) ?_
  refine Eq.trans (heap_setCell_other _ ⟨B, 0, none⟩ K _ h) ?_
  rfl
end Go.Proofs.Ytgphkfonjfdifaa
