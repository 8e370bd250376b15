/-
  The law's SameSigns, at signs without covers. By an AI agent.
-/
import Derived.Test.YtlpdjinhkmgbgaaGreatDoorMgRulePr0
import Derived.Deep.RegionHeld3
import Derived.Deep.DeepCutAuto
import Derived.BigQuiet
import Derived.BigRegion
import Derived.StillTailTactics
import Derived.Deep.AppendLies

namespace Go.Proofs.YtlpdjinhkmgbgaaGreatDoor
set_option linter.unusedVariables false
set_option linter.unusedSimpArgs false
open Go.RowKit

set_option maxRecDepth 100000 in
set_option maxHeartbeats 4000000 in
theorem sameSigns_r (a b : Option Addr) (l : List Sgn) (ca cb : Nat) (hcv : ∀ s, s ∈ l → s.cv = []) (w : World) (hA : SgnS w a l) (hB : SgnS w b l) :
    Calls Tryz.prog 16 #[.slice a l.length ca, .slice b l.length cb] w fun e w' => e = .returned (.bool true) ∧ Below w.heap.size w w' := by
  obtain ⟨hlen, b1, o1, ad1, cp1, ha1, hc1⟩ := hA
  obtain ⟨-, b2, o2, ad2, cp2, ha2, hc2⟩ := hB
  have HC := Lib.hid hc1
  have HC2 := Lib.hid hc2
  have HCv : Hid (∀ i, i < l.length → (gs l i).cv = []) := Lib.hid fun i hi => hcv _ (by unfold gs; rw [List.getD_eq_getElem?_getD, List.getElem?_eq_getElem hi]; exact List.getElem_mem _)
  have HL : Hid (0 < l.length → a = some ⟨b1, o1, none⟩) := Lib.hid fun h => ha1 (List.ne_nil_of_length_pos h)
  have HL2 : Hid (0 < l.length → b = some ⟨b2, o2, none⟩) := Lib.hid fun h => ha2 (List.ne_nil_of_length_pos h)
  clear hc1 hc2 ha1 ha2 hcv
  have n4 : ((l.length : Int) != l.length) = false := by simp
  go_enter Tryz.func16, Tryz.ntmps16
  go_wp2_with fail
  go_loopw [5] (fun i wr => ∃ k : Nat, k ≤ l.length ∧ i = .int .i64 k ∧ Below w.heap.size w wr) (fun i _ => l.length - (intOf i).toNat)
  case atStart => exact ⟨0, Nat.zero_le _, rfl, Below.refl _ _⟩
  case round =>
    obtain ⟨k, hk, rfl, hbr⟩ := hrel
    by_cases hlt : k < l.length
    · obtain rfl := HL.out (by omega)
      obtain rfl := HL2.out (by omega)
      obtain ⟨⟨c0, c1, c2, c3, c4, c5, c6, c7⟩, c8, -⟩ := HC.out k hlt
      obtain ⟨⟨e0, e1, e2, e3, e4, e5, e6, e7⟩, e8, -⟩ := HC2.out k hlt
      rw [HCv.out k hlt] at c8 e8
      have c8 : w.cell? ⟨b1, o1 + k * 9 + 8, none⟩ = some (.slice (ad1 k) 0 (cp1 k)) := c8
      have e8 : w.cell? ⟨b2, o2 + k * 9 + 8, none⟩ = some (.slice (ad2 k) 0 (cp2 k)) := e8
      replace c0 := cell_below c0 hbr
      replace e0 := cell_below e0 hbr
      replace c1 := cell_below c1 hbr
      replace e1 := cell_below e1 hbr
      replace c2 := cell_below c2 hbr
      replace e2 := cell_below e2 hbr
      replace c3 := cell_below c3 hbr
      replace e3 := cell_below e3 hbr
      replace c4 := cell_below c4 hbr
      replace e4 := cell_below e4 hbr
      replace c5 := cell_below c5 hbr
      replace e5 := cell_below e5 hbr
      replace c6 := cell_below c6 hbr
      replace e6 := cell_below e6 hbr
      replace c7 := cell_below c7 hbr
      replace e7 := cell_below e7 hbr
      replace c8 := cell_below c8 hbr
      replace e8 := cell_below e8 hbr
      generalize (gs l k).n = x0 at *
      generalize (gs l k).k = x1 at *
      generalize (gs l k).v = x2 at *
      generalize (gs l k).c = x3 at *
      generalize (gs l k).d = x4 at *
      generalize (gs l k).rk = x5 at *
      generalize (gs l k).up = x6 at *
      generalize (gs l k).dn = x7 at *
      obtain ⟨s1, hs1⟩ : ∃ s, ad1 k = s := ⟨_, rfl⟩
      obtain ⟨t1, ht1⟩ : ∃ s, cp1 k = s := ⟨_, rfl⟩
      obtain ⟨s2, hs2⟩ : ∃ s, ad2 k = s := ⟨_, rfl⟩
      obtain ⟨t2, ht2⟩ : ∃ s, cp2 k = s := ⟨_, rfl⟩
      rw [hs1, ht1] at c8
      rw [hs2, ht2] at e8
      clear hs1 ht1 hs2 ht2 HC HC2 HCv HL HL2
      have hz1 := block_lt c0
      have hz2 := block_lt e0
      have k0 : (0 : Int) ≤ (k : Int) := by omega
      have k1 : (k : Int) < (l.length : Int) := by omega
      go_upto_region 6 with (fail)
      go_cut [6, 7] (fun p6 p7 wx => ∃ c6 c7 : Nat, p6 = .pointer (some ⟨c6, 0, none⟩) ∧ p7 = .pointer (some ⟨c7, 0, none⟩) ∧ wx.heap[c6]? = some (.cells #[.int .i64 x0, .int .i64 x1, .int .i64 x2, .int .i64 x3, .int .i64 x4, .int .i64 x5, .int .i64 x6, .int .i64 x7, .slice s1 0 t1] 69) ∧ wx.heap[c7]? = some (.cells #[.int .i64 x0, .int .i64 x1, .int .i64 x2, .int .i64 x3, .int .i64 x4, .int .i64 x5, .int .i64 x6, .int .i64 x7, .slice s2 0 t2] 69) ∧ Below wr.heap.size wr wx)
      case first =>
        go_wp2_with fail
        refine wp_region_held_drew (S := fun w' => Below wr.heap.size wr w') (by kernel_rfl) ((Below.refl _ _).drew) (fun hHeld => ?_)
        refine takeU (i := 0) (some 20) (.slice (some ⟨b1, o1, none⟩) l.length ca) (by kernel_rfl) (by kernel_rfl) (by kernel_rfl) (by kernel_rfl) (by kernel_rfl) (fun _ => by kernel_rfl) (fun _ _ _ h => h) hHeld ?_
        refine takeU (i := 1) (some 21) (.int .i64 k) (by kernel_rfl) (by kernel_rfl) (by kernel_rfl) (by kernel_rfl) (by kernel_rfl) (fun _ => by kernel_rfl) (fun _ _ _ h => h) hHeld ?_
        refine wpAnyH_take (i := 2) (oi := { dst := some 22, op := Go.Op.indexAddr 25 (Go.Operand.tmp 20) (Go.Operand.tmp 21), type := 0, pos := "law.go:132", after := #[{ on := 0, ground := Go.Ground.data }, { on := 1, ground := Go.Ground.data }], guard := none }) (v := .pointer (some ⟨b1, o1 + k * 9, none⟩)) rfl (by kernel_rfl) (by kernel_rfl) (by kernel_rfl) (fun _ _ _ h => h) (.inl ⟨by kernel_rfl, fun w9 h9 => by
          clear hHeld h9
          go_simp⟩) hHeld ?_
        refine wpAnyH_take (i := 3) (oi := { dst := some 23, op := Go.Op.load 69 (Go.Operand.tmp 22), type := 69, pos := "law.go:132", after := #[{ on := 2, ground := Go.Ground.data }], guard := none }) (v := .agg #[.int .i64 x0, .int .i64 x1, .int .i64 x2, .int .i64 x3, .int .i64 x4, .int .i64 x5, .int .i64 x6, .int .i64 x7, .slice s1 0 t1]) rfl (by kernel_rfl) (by kernel_rfl) (by kernel_rfl) (fun _ _ _ h => h) (.inl ⟨by kernel_rfl, fun w9 h9 => by
          clear hHeld
          have d0 := (h9.cell (p := ⟨b1, o1 + k * 9, none⟩) hz1).trans c0
          have d1 := (h9.cell (p := ⟨b1, o1 + k * 9 + 1, none⟩) hz1).trans c1
          have d2 := (h9.cell (p := ⟨b1, o1 + k * 9 + 2, none⟩) hz1).trans c2
          have d3 := (h9.cell (p := ⟨b1, o1 + k * 9 + 3, none⟩) hz1).trans c3
          have d4 := (h9.cell (p := ⟨b1, o1 + k * 9 + 4, none⟩) hz1).trans c4
          have d5 := (h9.cell (p := ⟨b1, o1 + k * 9 + 5, none⟩) hz1).trans c5
          have d6 := (h9.cell (p := ⟨b1, o1 + k * 9 + 6, none⟩) hz1).trans c6
          have d7 := (h9.cell (p := ⟨b1, o1 + k * 9 + 7, none⟩) hz1).trans c7
          have d8 := (h9.cell (p := ⟨b1, o1 + k * 9 + 8, none⟩) hz1).trans c8
          clear h9
          go_simp⟩) hHeld ?_
        refine takeU (i := 4) (some 24) (.slice (some ⟨b2, o2, none⟩) l.length cb) (by kernel_rfl) (by kernel_rfl) (by kernel_rfl) (by kernel_rfl) (by kernel_rfl) (fun _ => by kernel_rfl) (fun _ _ _ h => h) hHeld ?_
        refine takeU (i := 5) (some 25) (.int .i64 k) (by kernel_rfl) (by kernel_rfl) (by kernel_rfl) (by kernel_rfl) (by kernel_rfl) (fun _ => by kernel_rfl) (fun _ _ _ h => h) hHeld ?_
        refine wpAnyH_take (i := 6) (oi := { dst := some 26, op := Go.Op.indexAddr 25 (Go.Operand.tmp 24) (Go.Operand.tmp 25), type := 0, pos := "law.go:132", after := #[{ on := 4, ground := Go.Ground.data }, { on := 5, ground := Go.Ground.data }, { on := 10, ground := Go.Ground.gcOnly Go.Departure.lateStores }], guard := none }) (v := .pointer (some ⟨b2, o2 + k * 9, none⟩)) rfl (by kernel_rfl) (by kernel_rfl) (by kernel_rfl) (fun _ _ _ h => h) (.inl ⟨by kernel_rfl, fun w9 h9 => by
          clear hHeld h9
          go_simp⟩) hHeld ?_
        refine wpAnyH_take (i := 7) (oi := { dst := some 27, op := Go.Op.load 69 (Go.Operand.tmp 26), type := 69, pos := "law.go:132", after := #[{ on := 6, ground := Go.Ground.data }, { on := 10, ground := Go.Ground.gcOnly Go.Departure.lateStores }], guard := none }) (v := .agg #[.int .i64 x0, .int .i64 x1, .int .i64 x2, .int .i64 x3, .int .i64 x4, .int .i64 x5, .int .i64 x6, .int .i64 x7, .slice s2 0 t2]) rfl (by kernel_rfl) (by kernel_rfl) (by kernel_rfl) (fun _ _ _ h => h) (.inl ⟨by kernel_rfl, fun w9 h9 => by
          clear hHeld
          have d0 := (h9.cell (p := ⟨b2, o2 + k * 9, none⟩) hz2).trans e0
          have d1 := (h9.cell (p := ⟨b2, o2 + k * 9 + 1, none⟩) hz2).trans e1
          have d2 := (h9.cell (p := ⟨b2, o2 + k * 9 + 2, none⟩) hz2).trans e2
          have d3 := (h9.cell (p := ⟨b2, o2 + k * 9 + 3, none⟩) hz2).trans e3
          have d4 := (h9.cell (p := ⟨b2, o2 + k * 9 + 4, none⟩) hz2).trans e4
          have d5 := (h9.cell (p := ⟨b2, o2 + k * 9 + 5, none⟩) hz2).trans e5
          have d6 := (h9.cell (p := ⟨b2, o2 + k * 9 + 6, none⟩) hz2).trans e6
          have d7 := (h9.cell (p := ⟨b2, o2 + k * 9 + 7, none⟩) hz2).trans e7
          have d8 := (h9.cell (p := ⟨b2, o2 + k * 9 + 8, none⟩) hz2).trans e8
          clear h9
          go_simp⟩) hHeld ?_
        try simp only [Act.put, List.setIfInBounds_toArray, List.set_cons_zero, List.set_cons_succ]
        refine wpAnyH_ready (rs := [8, 9]) (by kernel_rfl) (by simp) ?_
        refine AllReadyH.cons (o := { dst := some 6, op := Go.Op.alloc 69, type := 0, pos := "law.go:132", after := #[], guard := none }) rfl (fun K hK => ?_) (AllReadyH.cons (o := { dst := some 7, op := Go.Op.alloc 69, type := 0, pos := "law.go:132", after := #[], guard := none }) rfl (fun K hK => ?_) AllReadyH.nil)
        · go_simp
          have hA0 := hHeld
          refine hK.out _ _ (hHeld.alloc hHeld.size _) (fun hHeld => ?_)
          clear hK K
          try simp only [Act.put, List.setIfInBounds_toArray, List.set_cons_zero, List.set_cons_succ]
          try simp only [Act.put, List.setIfInBounds_toArray, List.set_cons_zero, List.set_cons_succ]
          refine wpAnyH_ready (rs := [9]) (by kernel_rfl) (by simp) ?_
          refine AllReadyH.cons (o := { dst := some 7, op := Go.Op.alloc 69, type := 0, pos := "law.go:132", after := #[], guard := none }) rfl (fun K hK => ?_) AllReadyH.nil
          go_simp
          have hA0 := hHeld
          refine hK.out _ _ (hHeld.alloc hHeld.size _) (fun hHeld => ?_)
          clear hK K
          try simp only [Act.put, List.setIfInBounds_toArray, List.set_cons_zero, List.set_cons_succ]
          try simp only [Act.put, List.setIfInBounds_toArray, List.set_cons_zero, List.set_cons_succ]
          refine wpAnyH_ready (rs := [10]) (by kernel_rfl) (by simp) ?_
          refine AllReadyH.cons (o := { dst := none, op := Go.Op.store 69 (Go.Operand.tmp 6) (Go.Operand.tmp 23), type := 0, pos := "law.go:132", after := #[{ on := 8, ground := Go.Ground.data }, { on := 3, ground := Go.Ground.data }, { on := 0, ground := Go.Ground.phase }, { on := 1, ground := Go.Ground.phase }, { on := 2, ground := Go.Ground.phase }, { on := 3, ground := Go.Ground.phase }, { on := 4, ground := Go.Ground.textOnly Go.Departure.lateStores }, { on := 5, ground := Go.Ground.textOnly Go.Departure.lateStores }, { on := 6, ground := Go.Ground.textOnly Go.Departure.lateStores }, { on := 7, ground := Go.Ground.textOnly Go.Departure.lateStores }, { on := 8, ground := Go.Ground.phase }, { on := 9, ground := Go.Ground.phase }], guard := none }) rfl (fun K hK => ?_) AllReadyH.nil
          obtain ⟨wS, hwS⟩ : ∃ wS, ((wr.alloc (.cells #[.int .i64 0, .int .i64 0, .int .i64 0, .int .i64 0, .int .i64 0, .int .i64 0, .int .i64 0, .int .i64 0, .slice none 0 0] 69)).alloc (.cells #[.int .i64 0, .int .i64 0, .int .i64 0, .int .i64 0, .int .i64 0, .int .i64 0, .int .i64 0, .int .i64 0, .slice none 0 0] 69)).drew = wS := ⟨_, rfl⟩
          have ha : wS.heap[wr.heap.size]? = some (.cells #[.int .i64 0, .int .i64 0, .int .i64 0, .int .i64 0, .int .i64 0, .int .i64 0, .int .i64 0, .int .i64 0, .slice none 0 0] 69 (0, 0)) := by rw [← hwS]; exact (heap_alloc_old _ _ (by simp)).trans (heap_alloc_new _ _)
          have hb : wS.heap[wr.heap.size + 1]? = some (.cells #[.int .i64 0, .int .i64 0, .int .i64 0, .int .i64 0, .int .i64 0, .int .i64 0, .int .i64 0, .int .i64 0, .slice none 0 0] 69 (0, 0)) := by rw [← hwS]; exact heap_alloc2_new wr _ _
          have hx8 := ha
          have hx9 := hb
          clear ha hb
          rw [hwS] at hHeld ⊢
          clear hwS
          have y0 := heapc hx8 (i := 0) (v := .int .i64 0) rfl
          have g0 : wS.frozen? ⟨wr.heap.size, 0, none⟩ = false := by simp [World.frozen?, hx8]
          have y1 := heapc hx8 (i := 1) (v := .int .i64 0) rfl
          have g1 : wS.frozen? ⟨wr.heap.size, 1, none⟩ = false := by simp [World.frozen?, hx8]
          have y2 := heapc hx8 (i := 2) (v := .int .i64 0) rfl
          have g2 : wS.frozen? ⟨wr.heap.size, 2, none⟩ = false := by simp [World.frozen?, hx8]
          have y3 := heapc hx8 (i := 3) (v := .int .i64 0) rfl
          have g3 : wS.frozen? ⟨wr.heap.size, 3, none⟩ = false := by simp [World.frozen?, hx8]
          have y4 := heapc hx8 (i := 4) (v := .int .i64 0) rfl
          have g4 : wS.frozen? ⟨wr.heap.size, 4, none⟩ = false := by simp [World.frozen?, hx8]
          have y5 := heapc hx8 (i := 5) (v := .int .i64 0) rfl
          have g5 : wS.frozen? ⟨wr.heap.size, 5, none⟩ = false := by simp [World.frozen?, hx8]
          have y6 := heapc hx8 (i := 6) (v := .int .i64 0) rfl
          have g6 : wS.frozen? ⟨wr.heap.size, 6, none⟩ = false := by simp [World.frozen?, hx8]
          have y7 := heapc hx8 (i := 7) (v := .int .i64 0) rfl
          have g7 : wS.frozen? ⟨wr.heap.size, 7, none⟩ = false := by simp [World.frozen?, hx8]
          have y8 := heapc hx8 (i := 8) (v := .slice none 0 0) rfl
          have g8 : wS.frozen? ⟨wr.heap.size, 8, none⟩ = false := by simp [World.frozen?, hx8]
          go_simp
          have hne : (wr.heap.size + 1) ≠ wr.heap.size := by omega
          have hse6 : (((((((((wS.setCell ⟨wr.heap.size, 0, none⟩ (.int .i64 x0)).setCell ⟨wr.heap.size, 1, none⟩ (.int .i64 x1)).setCell ⟨wr.heap.size, 2, none⟩ (.int .i64 x2)).setCell ⟨wr.heap.size, 3, none⟩ (.int .i64 x3)).setCell ⟨wr.heap.size, 4, none⟩ (.int .i64 x4)).setCell ⟨wr.heap.size, 5, none⟩ (.int .i64 x5)).setCell ⟨wr.heap.size, 6, none⟩ (.int .i64 x6)).setCell ⟨wr.heap.size, 7, none⟩ (.int .i64 x7)).setCell ⟨wr.heap.size, 8, none⟩ (.slice s1 0 t1)).heap[wr.heap.size]? = some (.cells #[.int .i64 x0, .int .i64 x1, .int .i64 x2, .int .i64 x3, .int .i64 x4, .int .i64 x5, .int .i64 x6, .int .i64 x7, .slice s1 0 t1] 69) := heap_set9 hx8 (.int .i64 x0) (.int .i64 x1) (.int .i64 x2) (.int .i64 x3) (.int .i64 x4) (.int .i64 x5) (.int .i64 x6) (.int .i64 x7) (.slice s1 0 t1)
          have hx9 : (((((((((wS.setCell ⟨wr.heap.size, 0, none⟩ (.int .i64 x0)).setCell ⟨wr.heap.size, 1, none⟩ (.int .i64 x1)).setCell ⟨wr.heap.size, 2, none⟩ (.int .i64 x2)).setCell ⟨wr.heap.size, 3, none⟩ (.int .i64 x3)).setCell ⟨wr.heap.size, 4, none⟩ (.int .i64 x4)).setCell ⟨wr.heap.size, 5, none⟩ (.int .i64 x5)).setCell ⟨wr.heap.size, 6, none⟩ (.int .i64 x6)).setCell ⟨wr.heap.size, 7, none⟩ (.int .i64 x7)).setCell ⟨wr.heap.size, 8, none⟩ (.slice s1 0 t1)).heap[(wr.heap.size + 1)]? = some (.cells #[.int .i64 0, .int .i64 0, .int .i64 0, .int .i64 0, .int .i64 0, .int .i64 0, .int .i64 0, .int .i64 0, .slice none 0 0] 69 (0, 0)) := ((heap_setCell_other _ ⟨wr.heap.size, 8, none⟩ ((wr.heap.size + 1)) (.slice s1 0 t1) hne).trans ((heap_setCell_other _ ⟨wr.heap.size, 7, none⟩ ((wr.heap.size + 1)) (.int .i64 x7) hne).trans ((heap_setCell_other _ ⟨wr.heap.size, 6, none⟩ ((wr.heap.size + 1)) (.int .i64 x6) hne).trans ((heap_setCell_other _ ⟨wr.heap.size, 5, none⟩ ((wr.heap.size + 1)) (.int .i64 x5) hne).trans ((heap_setCell_other _ ⟨wr.heap.size, 4, none⟩ ((wr.heap.size + 1)) (.int .i64 x4) hne).trans ((heap_setCell_other _ ⟨wr.heap.size, 3, none⟩ ((wr.heap.size + 1)) (.int .i64 x3) hne).trans ((heap_setCell_other _ ⟨wr.heap.size, 2, none⟩ ((wr.heap.size + 1)) (.int .i64 x2) hne).trans ((heap_setCell_other _ ⟨wr.heap.size, 1, none⟩ ((wr.heap.size + 1)) (.int .i64 x1) hne).trans ((heap_setCell_other wS ⟨wr.heap.size, 0, none⟩ ((wr.heap.size + 1)) (.int .i64 x0) hne)))))))))).trans hx9
          refine hK.out _ _ (((((((((hHeld.setCell (p := ⟨wr.heap.size, 0, none⟩) (by first | exact Nat.le_refl _ | exact Nat.le_succ _) _).setCell (p := ⟨wr.heap.size, 1, none⟩) (by first | exact Nat.le_refl _ | exact Nat.le_succ _) _).setCell (p := ⟨wr.heap.size, 2, none⟩) (by first | exact Nat.le_refl _ | exact Nat.le_succ _) _).setCell (p := ⟨wr.heap.size, 3, none⟩) (by first | exact Nat.le_refl _ | exact Nat.le_succ _) _).setCell (p := ⟨wr.heap.size, 4, none⟩) (by first | exact Nat.le_refl _ | exact Nat.le_succ _) _).setCell (p := ⟨wr.heap.size, 5, none⟩) (by first | exact Nat.le_refl _ | exact Nat.le_succ _) _).setCell (p := ⟨wr.heap.size, 6, none⟩) (by first | exact Nat.le_refl _ | exact Nat.le_succ _) _).setCell (p := ⟨wr.heap.size, 7, none⟩) (by first | exact Nat.le_refl _ | exact Nat.le_succ _) _).setCell (p := ⟨wr.heap.size, 8, none⟩) (by first | exact Nat.le_refl _ | exact Nat.le_succ _) _) (fun hHeld => ?_)
          clear y0 g0 y1 g1 y2 g2 y3 g3 y4 g4 y5 g5 y6 g6 y7 g7 y8 g8 hx8
          obtain ⟨wT, hwT⟩ : ∃ wT, (((((((((wS.setCell ⟨wr.heap.size, 0, none⟩ (.int .i64 x0)).setCell ⟨wr.heap.size, 1, none⟩ (.int .i64 x1)).setCell ⟨wr.heap.size, 2, none⟩ (.int .i64 x2)).setCell ⟨wr.heap.size, 3, none⟩ (.int .i64 x3)).setCell ⟨wr.heap.size, 4, none⟩ (.int .i64 x4)).setCell ⟨wr.heap.size, 5, none⟩ (.int .i64 x5)).setCell ⟨wr.heap.size, 6, none⟩ (.int .i64 x6)).setCell ⟨wr.heap.size, 7, none⟩ (.int .i64 x7)).setCell ⟨wr.heap.size, 8, none⟩ (.slice s1 0 t1)) = wT := ⟨_, rfl⟩
          rw [hwT] at hHeld hse6 hx9 ⊢
          clear hwT
          clear hK K
          try simp only [Act.put, List.setIfInBounds_toArray, List.set_cons_zero, List.set_cons_succ]
          try simp only [Act.put, List.setIfInBounds_toArray, List.set_cons_zero, List.set_cons_succ]
          refine wpAnyH_ready (rs := [11]) (by kernel_rfl) (by simp) ?_
          refine AllReadyH.cons (o := { dst := none, op := Go.Op.store 69 (Go.Operand.tmp 7) (Go.Operand.tmp 27), type := 0, pos := "law.go:132", after := #[{ on := 9, ground := Go.Ground.data }, { on := 7, ground := Go.Ground.data }, { on := 10, ground := Go.Ground.chain }, { on := 0, ground := Go.Ground.phase }, { on := 1, ground := Go.Ground.phase }, { on := 2, ground := Go.Ground.phase }, { on := 3, ground := Go.Ground.phase }, { on := 4, ground := Go.Ground.phase }, { on := 5, ground := Go.Ground.phase }, { on := 6, ground := Go.Ground.phase }, { on := 7, ground := Go.Ground.phase }, { on := 8, ground := Go.Ground.phase }, { on := 9, ground := Go.Ground.phase }, { on := 10, ground := Go.Ground.phase }], guard := none }) rfl (fun K hK => ?_) AllReadyH.nil
          have y0 := heapc hx9 (i := 0) (v := .int .i64 0) rfl
          have g0 : wT.frozen? ⟨(wr.heap.size + 1), 0, none⟩ = false := by simp [World.frozen?, hx9]
          have y1 := heapc hx9 (i := 1) (v := .int .i64 0) rfl
          have g1 : wT.frozen? ⟨(wr.heap.size + 1), 1, none⟩ = false := by simp [World.frozen?, hx9]
          have y2 := heapc hx9 (i := 2) (v := .int .i64 0) rfl
          have g2 : wT.frozen? ⟨(wr.heap.size + 1), 2, none⟩ = false := by simp [World.frozen?, hx9]
          have y3 := heapc hx9 (i := 3) (v := .int .i64 0) rfl
          have g3 : wT.frozen? ⟨(wr.heap.size + 1), 3, none⟩ = false := by simp [World.frozen?, hx9]
          have y4 := heapc hx9 (i := 4) (v := .int .i64 0) rfl
          have g4 : wT.frozen? ⟨(wr.heap.size + 1), 4, none⟩ = false := by simp [World.frozen?, hx9]
          have y5 := heapc hx9 (i := 5) (v := .int .i64 0) rfl
          have g5 : wT.frozen? ⟨(wr.heap.size + 1), 5, none⟩ = false := by simp [World.frozen?, hx9]
          have y6 := heapc hx9 (i := 6) (v := .int .i64 0) rfl
          have g6 : wT.frozen? ⟨(wr.heap.size + 1), 6, none⟩ = false := by simp [World.frozen?, hx9]
          have y7 := heapc hx9 (i := 7) (v := .int .i64 0) rfl
          have g7 : wT.frozen? ⟨(wr.heap.size + 1), 7, none⟩ = false := by simp [World.frozen?, hx9]
          have y8 := heapc hx9 (i := 8) (v := .slice none 0 0) rfl
          have g8 : wT.frozen? ⟨(wr.heap.size + 1), 8, none⟩ = false := by simp [World.frozen?, hx9]
          go_simp
          have hne2 : wr.heap.size ≠ (wr.heap.size + 1) := by omega
          have hse7 : (((((((((wT.setCell ⟨(wr.heap.size + 1), 0, none⟩ (.int .i64 x0)).setCell ⟨(wr.heap.size + 1), 1, none⟩ (.int .i64 x1)).setCell ⟨(wr.heap.size + 1), 2, none⟩ (.int .i64 x2)).setCell ⟨(wr.heap.size + 1), 3, none⟩ (.int .i64 x3)).setCell ⟨(wr.heap.size + 1), 4, none⟩ (.int .i64 x4)).setCell ⟨(wr.heap.size + 1), 5, none⟩ (.int .i64 x5)).setCell ⟨(wr.heap.size + 1), 6, none⟩ (.int .i64 x6)).setCell ⟨(wr.heap.size + 1), 7, none⟩ (.int .i64 x7)).setCell ⟨(wr.heap.size + 1), 8, none⟩ (.slice s2 0 t2)).heap[(wr.heap.size + 1)]? = some (.cells #[.int .i64 x0, .int .i64 x1, .int .i64 x2, .int .i64 x3, .int .i64 x4, .int .i64 x5, .int .i64 x6, .int .i64 x7, .slice s2 0 t2] 69) := heap_set9 hx9 (.int .i64 x0) (.int .i64 x1) (.int .i64 x2) (.int .i64 x3) (.int .i64 x4) (.int .i64 x5) (.int .i64 x6) (.int .i64 x7) (.slice s2 0 t2)
          have hse6 : (((((((((wT.setCell ⟨(wr.heap.size + 1), 0, none⟩ (.int .i64 x0)).setCell ⟨(wr.heap.size + 1), 1, none⟩ (.int .i64 x1)).setCell ⟨(wr.heap.size + 1), 2, none⟩ (.int .i64 x2)).setCell ⟨(wr.heap.size + 1), 3, none⟩ (.int .i64 x3)).setCell ⟨(wr.heap.size + 1), 4, none⟩ (.int .i64 x4)).setCell ⟨(wr.heap.size + 1), 5, none⟩ (.int .i64 x5)).setCell ⟨(wr.heap.size + 1), 6, none⟩ (.int .i64 x6)).setCell ⟨(wr.heap.size + 1), 7, none⟩ (.int .i64 x7)).setCell ⟨(wr.heap.size + 1), 8, none⟩ (.slice s2 0 t2)).heap[wr.heap.size]? = some (.cells #[.int .i64 x0, .int .i64 x1, .int .i64 x2, .int .i64 x3, .int .i64 x4, .int .i64 x5, .int .i64 x6, .int .i64 x7, .slice s1 0 t1] 69) := ((heap_setCell_other _ ⟨(wr.heap.size + 1), 8, none⟩ (wr.heap.size) (.slice s2 0 t2) hne2).trans ((heap_setCell_other _ ⟨(wr.heap.size + 1), 7, none⟩ (wr.heap.size) (.int .i64 x7) hne2).trans ((heap_setCell_other _ ⟨(wr.heap.size + 1), 6, none⟩ (wr.heap.size) (.int .i64 x6) hne2).trans ((heap_setCell_other _ ⟨(wr.heap.size + 1), 5, none⟩ (wr.heap.size) (.int .i64 x5) hne2).trans ((heap_setCell_other _ ⟨(wr.heap.size + 1), 4, none⟩ (wr.heap.size) (.int .i64 x4) hne2).trans ((heap_setCell_other _ ⟨(wr.heap.size + 1), 3, none⟩ (wr.heap.size) (.int .i64 x3) hne2).trans ((heap_setCell_other _ ⟨(wr.heap.size + 1), 2, none⟩ (wr.heap.size) (.int .i64 x2) hne2).trans ((heap_setCell_other _ ⟨(wr.heap.size + 1), 1, none⟩ (wr.heap.size) (.int .i64 x1) hne2).trans ((heap_setCell_other wT ⟨(wr.heap.size + 1), 0, none⟩ (wr.heap.size) (.int .i64 x0) hne2)))))))))).trans hse6
          refine hK.out _ _ (((((((((hHeld.setCell (p := ⟨(wr.heap.size + 1), 0, none⟩) (by first | exact Nat.le_refl _ | exact Nat.le_succ _) _).setCell (p := ⟨(wr.heap.size + 1), 1, none⟩) (by first | exact Nat.le_refl _ | exact Nat.le_succ _) _).setCell (p := ⟨(wr.heap.size + 1), 2, none⟩) (by first | exact Nat.le_refl _ | exact Nat.le_succ _) _).setCell (p := ⟨(wr.heap.size + 1), 3, none⟩) (by first | exact Nat.le_refl _ | exact Nat.le_succ _) _).setCell (p := ⟨(wr.heap.size + 1), 4, none⟩) (by first | exact Nat.le_refl _ | exact Nat.le_succ _) _).setCell (p := ⟨(wr.heap.size + 1), 5, none⟩) (by first | exact Nat.le_refl _ | exact Nat.le_succ _) _).setCell (p := ⟨(wr.heap.size + 1), 6, none⟩) (by first | exact Nat.le_refl _ | exact Nat.le_succ _) _).setCell (p := ⟨(wr.heap.size + 1), 7, none⟩) (by first | exact Nat.le_refl _ | exact Nat.le_succ _) _).setCell (p := ⟨(wr.heap.size + 1), 8, none⟩) (by first | exact Nat.le_refl _ | exact Nat.le_succ _) _) (fun hHeld => ?_)
          clear y0 g0 y1 g1 y2 g2 y3 g3 y4 g4 y5 g5 y6 g6 y7 g7 y8 g8 hx9
          obtain ⟨wU, hwU⟩ : ∃ wU, (((((((((wT.setCell ⟨(wr.heap.size + 1), 0, none⟩ (.int .i64 x0)).setCell ⟨(wr.heap.size + 1), 1, none⟩ (.int .i64 x1)).setCell ⟨(wr.heap.size + 1), 2, none⟩ (.int .i64 x2)).setCell ⟨(wr.heap.size + 1), 3, none⟩ (.int .i64 x3)).setCell ⟨(wr.heap.size + 1), 4, none⟩ (.int .i64 x4)).setCell ⟨(wr.heap.size + 1), 5, none⟩ (.int .i64 x5)).setCell ⟨(wr.heap.size + 1), 6, none⟩ (.int .i64 x6)).setCell ⟨(wr.heap.size + 1), 7, none⟩ (.int .i64 x7)).setCell ⟨(wr.heap.size + 1), 8, none⟩ (.slice s2 0 t2)) = wU := ⟨_, rfl⟩
          rw [hwU] at hHeld hse6 hse7 ⊢
          clear hwU
          clear hK K
          try simp only [Act.put, List.setIfInBounds_toArray, List.set_cons_zero, List.set_cons_succ]
          refine wpAnyH_done (by kernel_rfl) ?_ _
          try simp only [Act.put, List.setIfInBounds_toArray, List.set_cons_zero, List.set_cons_succ]
          have HP6 := Lib.hid hse6
          have HP7 := Lib.hid hse7
          go_wp2_with fail
          go_meet
          exact ⟨wr.heap.size, (wr.heap.size + 1), rfl, rfl, HP6.out, HP7.out, hHeld⟩
        · go_simp
          have hA0 := hHeld
          refine hK.out _ _ (hHeld.alloc hHeld.size _) (fun hHeld => ?_)
          clear hK K
          try simp only [Act.put, List.setIfInBounds_toArray, List.set_cons_zero, List.set_cons_succ]
          try simp only [Act.put, List.setIfInBounds_toArray, List.set_cons_zero, List.set_cons_succ]
          refine wpAnyH_ready (rs := [8]) (by kernel_rfl) (by simp) ?_
          refine AllReadyH.cons (o := { dst := some 6, op := Go.Op.alloc 69, type := 0, pos := "law.go:132", after := #[], guard := none }) rfl (fun K hK => ?_) AllReadyH.nil
          go_simp
          have hA0 := hHeld
          refine hK.out _ _ (hHeld.alloc hHeld.size _) (fun hHeld => ?_)
          clear hK K
          try simp only [Act.put, List.setIfInBounds_toArray, List.set_cons_zero, List.set_cons_succ]
          try simp only [Act.put, List.setIfInBounds_toArray, List.set_cons_zero, List.set_cons_succ]
          refine wpAnyH_ready (rs := [10]) (by kernel_rfl) (by simp) ?_
          refine AllReadyH.cons (o := { dst := none, op := Go.Op.store 69 (Go.Operand.tmp 6) (Go.Operand.tmp 23), type := 0, pos := "law.go:132", after := #[{ on := 8, ground := Go.Ground.data }, { on := 3, ground := Go.Ground.data }, { on := 0, ground := Go.Ground.phase }, { on := 1, ground := Go.Ground.phase }, { on := 2, ground := Go.Ground.phase }, { on := 3, ground := Go.Ground.phase }, { on := 4, ground := Go.Ground.textOnly Go.Departure.lateStores }, { on := 5, ground := Go.Ground.textOnly Go.Departure.lateStores }, { on := 6, ground := Go.Ground.textOnly Go.Departure.lateStores }, { on := 7, ground := Go.Ground.textOnly Go.Departure.lateStores }, { on := 8, ground := Go.Ground.phase }, { on := 9, ground := Go.Ground.phase }], guard := none }) rfl (fun K hK => ?_) AllReadyH.nil
          obtain ⟨wS, hwS⟩ : ∃ wS, ((wr.alloc (.cells #[.int .i64 0, .int .i64 0, .int .i64 0, .int .i64 0, .int .i64 0, .int .i64 0, .int .i64 0, .int .i64 0, .slice none 0 0] 69)).alloc (.cells #[.int .i64 0, .int .i64 0, .int .i64 0, .int .i64 0, .int .i64 0, .int .i64 0, .int .i64 0, .int .i64 0, .slice none 0 0] 69)).drew = wS := ⟨_, rfl⟩
          have ha : wS.heap[wr.heap.size]? = some (.cells #[.int .i64 0, .int .i64 0, .int .i64 0, .int .i64 0, .int .i64 0, .int .i64 0, .int .i64 0, .int .i64 0, .slice none 0 0] 69 (0, 0)) := by rw [← hwS]; exact (heap_alloc_old _ _ (by simp)).trans (heap_alloc_new _ _)
          have hb : wS.heap[wr.heap.size + 1]? = some (.cells #[.int .i64 0, .int .i64 0, .int .i64 0, .int .i64 0, .int .i64 0, .int .i64 0, .int .i64 0, .int .i64 0, .slice none 0 0] 69 (0, 0)) := by rw [← hwS]; exact heap_alloc2_new wr _ _
          have hx8 := hb
          have hx9 := ha
          clear ha hb
          rw [hwS] at hHeld ⊢
          clear hwS
          have y0 := heapc hx8 (i := 0) (v := .int .i64 0) rfl
          have g0 : wS.frozen? ⟨(wr.heap.size + 1), 0, none⟩ = false := by simp [World.frozen?, hx8]
          have y1 := heapc hx8 (i := 1) (v := .int .i64 0) rfl
          have g1 : wS.frozen? ⟨(wr.heap.size + 1), 1, none⟩ = false := by simp [World.frozen?, hx8]
          have y2 := heapc hx8 (i := 2) (v := .int .i64 0) rfl
          have g2 : wS.frozen? ⟨(wr.heap.size + 1), 2, none⟩ = false := by simp [World.frozen?, hx8]
          have y3 := heapc hx8 (i := 3) (v := .int .i64 0) rfl
          have g3 : wS.frozen? ⟨(wr.heap.size + 1), 3, none⟩ = false := by simp [World.frozen?, hx8]
          have y4 := heapc hx8 (i := 4) (v := .int .i64 0) rfl
          have g4 : wS.frozen? ⟨(wr.heap.size + 1), 4, none⟩ = false := by simp [World.frozen?, hx8]
          have y5 := heapc hx8 (i := 5) (v := .int .i64 0) rfl
          have g5 : wS.frozen? ⟨(wr.heap.size + 1), 5, none⟩ = false := by simp [World.frozen?, hx8]
          have y6 := heapc hx8 (i := 6) (v := .int .i64 0) rfl
          have g6 : wS.frozen? ⟨(wr.heap.size + 1), 6, none⟩ = false := by simp [World.frozen?, hx8]
          have y7 := heapc hx8 (i := 7) (v := .int .i64 0) rfl
          have g7 : wS.frozen? ⟨(wr.heap.size + 1), 7, none⟩ = false := by simp [World.frozen?, hx8]
          have y8 := heapc hx8 (i := 8) (v := .slice none 0 0) rfl
          have g8 : wS.frozen? ⟨(wr.heap.size + 1), 8, none⟩ = false := by simp [World.frozen?, hx8]
          go_simp
          have hne : wr.heap.size ≠ (wr.heap.size + 1) := by omega
          have hse6 : (((((((((wS.setCell ⟨(wr.heap.size + 1), 0, none⟩ (.int .i64 x0)).setCell ⟨(wr.heap.size + 1), 1, none⟩ (.int .i64 x1)).setCell ⟨(wr.heap.size + 1), 2, none⟩ (.int .i64 x2)).setCell ⟨(wr.heap.size + 1), 3, none⟩ (.int .i64 x3)).setCell ⟨(wr.heap.size + 1), 4, none⟩ (.int .i64 x4)).setCell ⟨(wr.heap.size + 1), 5, none⟩ (.int .i64 x5)).setCell ⟨(wr.heap.size + 1), 6, none⟩ (.int .i64 x6)).setCell ⟨(wr.heap.size + 1), 7, none⟩ (.int .i64 x7)).setCell ⟨(wr.heap.size + 1), 8, none⟩ (.slice s1 0 t1)).heap[(wr.heap.size + 1)]? = some (.cells #[.int .i64 x0, .int .i64 x1, .int .i64 x2, .int .i64 x3, .int .i64 x4, .int .i64 x5, .int .i64 x6, .int .i64 x7, .slice s1 0 t1] 69) := heap_set9 hx8 (.int .i64 x0) (.int .i64 x1) (.int .i64 x2) (.int .i64 x3) (.int .i64 x4) (.int .i64 x5) (.int .i64 x6) (.int .i64 x7) (.slice s1 0 t1)
          have hx9 : (((((((((wS.setCell ⟨(wr.heap.size + 1), 0, none⟩ (.int .i64 x0)).setCell ⟨(wr.heap.size + 1), 1, none⟩ (.int .i64 x1)).setCell ⟨(wr.heap.size + 1), 2, none⟩ (.int .i64 x2)).setCell ⟨(wr.heap.size + 1), 3, none⟩ (.int .i64 x3)).setCell ⟨(wr.heap.size + 1), 4, none⟩ (.int .i64 x4)).setCell ⟨(wr.heap.size + 1), 5, none⟩ (.int .i64 x5)).setCell ⟨(wr.heap.size + 1), 6, none⟩ (.int .i64 x6)).setCell ⟨(wr.heap.size + 1), 7, none⟩ (.int .i64 x7)).setCell ⟨(wr.heap.size + 1), 8, none⟩ (.slice s1 0 t1)).heap[wr.heap.size]? = some (.cells #[.int .i64 0, .int .i64 0, .int .i64 0, .int .i64 0, .int .i64 0, .int .i64 0, .int .i64 0, .int .i64 0, .slice none 0 0] 69 (0, 0)) := ((heap_setCell_other _ ⟨(wr.heap.size + 1), 8, none⟩ (wr.heap.size) (.slice s1 0 t1) hne).trans ((heap_setCell_other _ ⟨(wr.heap.size + 1), 7, none⟩ (wr.heap.size) (.int .i64 x7) hne).trans ((heap_setCell_other _ ⟨(wr.heap.size + 1), 6, none⟩ (wr.heap.size) (.int .i64 x6) hne).trans ((heap_setCell_other _ ⟨(wr.heap.size + 1), 5, none⟩ (wr.heap.size) (.int .i64 x5) hne).trans ((heap_setCell_other _ ⟨(wr.heap.size + 1), 4, none⟩ (wr.heap.size) (.int .i64 x4) hne).trans ((heap_setCell_other _ ⟨(wr.heap.size + 1), 3, none⟩ (wr.heap.size) (.int .i64 x3) hne).trans ((heap_setCell_other _ ⟨(wr.heap.size + 1), 2, none⟩ (wr.heap.size) (.int .i64 x2) hne).trans ((heap_setCell_other _ ⟨(wr.heap.size + 1), 1, none⟩ (wr.heap.size) (.int .i64 x1) hne).trans ((heap_setCell_other wS ⟨(wr.heap.size + 1), 0, none⟩ (wr.heap.size) (.int .i64 x0) hne)))))))))).trans hx9
          refine hK.out _ _ (((((((((hHeld.setCell (p := ⟨(wr.heap.size + 1), 0, none⟩) (by first | exact Nat.le_refl _ | exact Nat.le_succ _) _).setCell (p := ⟨(wr.heap.size + 1), 1, none⟩) (by first | exact Nat.le_refl _ | exact Nat.le_succ _) _).setCell (p := ⟨(wr.heap.size + 1), 2, none⟩) (by first | exact Nat.le_refl _ | exact Nat.le_succ _) _).setCell (p := ⟨(wr.heap.size + 1), 3, none⟩) (by first | exact Nat.le_refl _ | exact Nat.le_succ _) _).setCell (p := ⟨(wr.heap.size + 1), 4, none⟩) (by first | exact Nat.le_refl _ | exact Nat.le_succ _) _).setCell (p := ⟨(wr.heap.size + 1), 5, none⟩) (by first | exact Nat.le_refl _ | exact Nat.le_succ _) _).setCell (p := ⟨(wr.heap.size + 1), 6, none⟩) (by first | exact Nat.le_refl _ | exact Nat.le_succ _) _).setCell (p := ⟨(wr.heap.size + 1), 7, none⟩) (by first | exact Nat.le_refl _ | exact Nat.le_succ _) _).setCell (p := ⟨(wr.heap.size + 1), 8, none⟩) (by first | exact Nat.le_refl _ | exact Nat.le_succ _) _) (fun hHeld => ?_)
          clear y0 g0 y1 g1 y2 g2 y3 g3 y4 g4 y5 g5 y6 g6 y7 g7 y8 g8 hx8
          obtain ⟨wT, hwT⟩ : ∃ wT, (((((((((wS.setCell ⟨(wr.heap.size + 1), 0, none⟩ (.int .i64 x0)).setCell ⟨(wr.heap.size + 1), 1, none⟩ (.int .i64 x1)).setCell ⟨(wr.heap.size + 1), 2, none⟩ (.int .i64 x2)).setCell ⟨(wr.heap.size + 1), 3, none⟩ (.int .i64 x3)).setCell ⟨(wr.heap.size + 1), 4, none⟩ (.int .i64 x4)).setCell ⟨(wr.heap.size + 1), 5, none⟩ (.int .i64 x5)).setCell ⟨(wr.heap.size + 1), 6, none⟩ (.int .i64 x6)).setCell ⟨(wr.heap.size + 1), 7, none⟩ (.int .i64 x7)).setCell ⟨(wr.heap.size + 1), 8, none⟩ (.slice s1 0 t1)) = wT := ⟨_, rfl⟩
          rw [hwT] at hHeld hse6 hx9 ⊢
          clear hwT
          clear hK K
          try simp only [Act.put, List.setIfInBounds_toArray, List.set_cons_zero, List.set_cons_succ]
          try simp only [Act.put, List.setIfInBounds_toArray, List.set_cons_zero, List.set_cons_succ]
          refine wpAnyH_ready (rs := [11]) (by kernel_rfl) (by simp) ?_
          refine AllReadyH.cons (o := { dst := none, op := Go.Op.store 69 (Go.Operand.tmp 7) (Go.Operand.tmp 27), type := 0, pos := "law.go:132", after := #[{ on := 9, ground := Go.Ground.data }, { on := 7, ground := Go.Ground.data }, { on := 10, ground := Go.Ground.chain }, { on := 0, ground := Go.Ground.phase }, { on := 1, ground := Go.Ground.phase }, { on := 2, ground := Go.Ground.phase }, { on := 3, ground := Go.Ground.phase }, { on := 4, ground := Go.Ground.phase }, { on := 5, ground := Go.Ground.phase }, { on := 6, ground := Go.Ground.phase }, { on := 7, ground := Go.Ground.phase }, { on := 8, ground := Go.Ground.phase }, { on := 9, ground := Go.Ground.phase }, { on := 10, ground := Go.Ground.phase }], guard := none }) rfl (fun K hK => ?_) AllReadyH.nil
          have y0 := heapc hx9 (i := 0) (v := .int .i64 0) rfl
          have g0 : wT.frozen? ⟨wr.heap.size, 0, none⟩ = false := by simp [World.frozen?, hx9]
          have y1 := heapc hx9 (i := 1) (v := .int .i64 0) rfl
          have g1 : wT.frozen? ⟨wr.heap.size, 1, none⟩ = false := by simp [World.frozen?, hx9]
          have y2 := heapc hx9 (i := 2) (v := .int .i64 0) rfl
          have g2 : wT.frozen? ⟨wr.heap.size, 2, none⟩ = false := by simp [World.frozen?, hx9]
          have y3 := heapc hx9 (i := 3) (v := .int .i64 0) rfl
          have g3 : wT.frozen? ⟨wr.heap.size, 3, none⟩ = false := by simp [World.frozen?, hx9]
          have y4 := heapc hx9 (i := 4) (v := .int .i64 0) rfl
          have g4 : wT.frozen? ⟨wr.heap.size, 4, none⟩ = false := by simp [World.frozen?, hx9]
          have y5 := heapc hx9 (i := 5) (v := .int .i64 0) rfl
          have g5 : wT.frozen? ⟨wr.heap.size, 5, none⟩ = false := by simp [World.frozen?, hx9]
          have y6 := heapc hx9 (i := 6) (v := .int .i64 0) rfl
          have g6 : wT.frozen? ⟨wr.heap.size, 6, none⟩ = false := by simp [World.frozen?, hx9]
          have y7 := heapc hx9 (i := 7) (v := .int .i64 0) rfl
          have g7 : wT.frozen? ⟨wr.heap.size, 7, none⟩ = false := by simp [World.frozen?, hx9]
          have y8 := heapc hx9 (i := 8) (v := .slice none 0 0) rfl
          have g8 : wT.frozen? ⟨wr.heap.size, 8, none⟩ = false := by simp [World.frozen?, hx9]
          go_simp
          have hne2 : (wr.heap.size + 1) ≠ wr.heap.size := by omega
          have hse7 : (((((((((wT.setCell ⟨wr.heap.size, 0, none⟩ (.int .i64 x0)).setCell ⟨wr.heap.size, 1, none⟩ (.int .i64 x1)).setCell ⟨wr.heap.size, 2, none⟩ (.int .i64 x2)).setCell ⟨wr.heap.size, 3, none⟩ (.int .i64 x3)).setCell ⟨wr.heap.size, 4, none⟩ (.int .i64 x4)).setCell ⟨wr.heap.size, 5, none⟩ (.int .i64 x5)).setCell ⟨wr.heap.size, 6, none⟩ (.int .i64 x6)).setCell ⟨wr.heap.size, 7, none⟩ (.int .i64 x7)).setCell ⟨wr.heap.size, 8, none⟩ (.slice s2 0 t2)).heap[wr.heap.size]? = some (.cells #[.int .i64 x0, .int .i64 x1, .int .i64 x2, .int .i64 x3, .int .i64 x4, .int .i64 x5, .int .i64 x6, .int .i64 x7, .slice s2 0 t2] 69) := heap_set9 hx9 (.int .i64 x0) (.int .i64 x1) (.int .i64 x2) (.int .i64 x3) (.int .i64 x4) (.int .i64 x5) (.int .i64 x6) (.int .i64 x7) (.slice s2 0 t2)
          have hse6 : (((((((((wT.setCell ⟨wr.heap.size, 0, none⟩ (.int .i64 x0)).setCell ⟨wr.heap.size, 1, none⟩ (.int .i64 x1)).setCell ⟨wr.heap.size, 2, none⟩ (.int .i64 x2)).setCell ⟨wr.heap.size, 3, none⟩ (.int .i64 x3)).setCell ⟨wr.heap.size, 4, none⟩ (.int .i64 x4)).setCell ⟨wr.heap.size, 5, none⟩ (.int .i64 x5)).setCell ⟨wr.heap.size, 6, none⟩ (.int .i64 x6)).setCell ⟨wr.heap.size, 7, none⟩ (.int .i64 x7)).setCell ⟨wr.heap.size, 8, none⟩ (.slice s2 0 t2)).heap[(wr.heap.size + 1)]? = some (.cells #[.int .i64 x0, .int .i64 x1, .int .i64 x2, .int .i64 x3, .int .i64 x4, .int .i64 x5, .int .i64 x6, .int .i64 x7, .slice s1 0 t1] 69) := ((heap_setCell_other _ ⟨wr.heap.size, 8, none⟩ ((wr.heap.size + 1)) (.slice s2 0 t2) hne2).trans ((heap_setCell_other _ ⟨wr.heap.size, 7, none⟩ ((wr.heap.size + 1)) (.int .i64 x7) hne2).trans ((heap_setCell_other _ ⟨wr.heap.size, 6, none⟩ ((wr.heap.size + 1)) (.int .i64 x6) hne2).trans ((heap_setCell_other _ ⟨wr.heap.size, 5, none⟩ ((wr.heap.size + 1)) (.int .i64 x5) hne2).trans ((heap_setCell_other _ ⟨wr.heap.size, 4, none⟩ ((wr.heap.size + 1)) (.int .i64 x4) hne2).trans ((heap_setCell_other _ ⟨wr.heap.size, 3, none⟩ ((wr.heap.size + 1)) (.int .i64 x3) hne2).trans ((heap_setCell_other _ ⟨wr.heap.size, 2, none⟩ ((wr.heap.size + 1)) (.int .i64 x2) hne2).trans ((heap_setCell_other _ ⟨wr.heap.size, 1, none⟩ ((wr.heap.size + 1)) (.int .i64 x1) hne2).trans ((heap_setCell_other wT ⟨wr.heap.size, 0, none⟩ ((wr.heap.size + 1)) (.int .i64 x0) hne2)))))))))).trans hse6
          refine hK.out _ _ (((((((((hHeld.setCell (p := ⟨wr.heap.size, 0, none⟩) (by first | exact Nat.le_refl _ | exact Nat.le_succ _) _).setCell (p := ⟨wr.heap.size, 1, none⟩) (by first | exact Nat.le_refl _ | exact Nat.le_succ _) _).setCell (p := ⟨wr.heap.size, 2, none⟩) (by first | exact Nat.le_refl _ | exact Nat.le_succ _) _).setCell (p := ⟨wr.heap.size, 3, none⟩) (by first | exact Nat.le_refl _ | exact Nat.le_succ _) _).setCell (p := ⟨wr.heap.size, 4, none⟩) (by first | exact Nat.le_refl _ | exact Nat.le_succ _) _).setCell (p := ⟨wr.heap.size, 5, none⟩) (by first | exact Nat.le_refl _ | exact Nat.le_succ _) _).setCell (p := ⟨wr.heap.size, 6, none⟩) (by first | exact Nat.le_refl _ | exact Nat.le_succ _) _).setCell (p := ⟨wr.heap.size, 7, none⟩) (by first | exact Nat.le_refl _ | exact Nat.le_succ _) _).setCell (p := ⟨wr.heap.size, 8, none⟩) (by first | exact Nat.le_refl _ | exact Nat.le_succ _) _) (fun hHeld => ?_)
          clear y0 g0 y1 g1 y2 g2 y3 g3 y4 g4 y5 g5 y6 g6 y7 g7 y8 g8 hx9
          obtain ⟨wU, hwU⟩ : ∃ wU, (((((((((wT.setCell ⟨wr.heap.size, 0, none⟩ (.int .i64 x0)).setCell ⟨wr.heap.size, 1, none⟩ (.int .i64 x1)).setCell ⟨wr.heap.size, 2, none⟩ (.int .i64 x2)).setCell ⟨wr.heap.size, 3, none⟩ (.int .i64 x3)).setCell ⟨wr.heap.size, 4, none⟩ (.int .i64 x4)).setCell ⟨wr.heap.size, 5, none⟩ (.int .i64 x5)).setCell ⟨wr.heap.size, 6, none⟩ (.int .i64 x6)).setCell ⟨wr.heap.size, 7, none⟩ (.int .i64 x7)).setCell ⟨wr.heap.size, 8, none⟩ (.slice s2 0 t2)) = wU := ⟨_, rfl⟩
          rw [hwU] at hHeld hse6 hse7 ⊢
          clear hwU
          clear hK K
          try simp only [Act.put, List.setIfInBounds_toArray, List.set_cons_zero, List.set_cons_succ]
          refine wpAnyH_done (by kernel_rfl) ?_ _
          try simp only [Act.put, List.setIfInBounds_toArray, List.set_cons_zero, List.set_cons_succ]
          have HP6 := Lib.hid hse6
          have HP7 := Lib.hid hse7
          go_wp2_with fail
          go_meet
          exact ⟨(wr.heap.size + 1), wr.heap.size, rfl, rfl, HP6.out, HP7.out, hHeld⟩
      case rest =>
        obtain ⟨q6, q7, rfl, rfl, hp6, hp7, hbx⟩ := hcut
        obtain ⟨wx, rfl⟩ : ∃ wx : World, wx = wc := ⟨_, rfl⟩
        have hbr := hbr.trans (hbx.mono hbr.size)
        have z0 := heapc hp6 (i := 0) rfl
        have y0 := heapc hp7 (i := 0) rfl
        have z1 := heapc hp6 (i := 1) rfl
        have y1 := heapc hp7 (i := 1) rfl
        have z2 := heapc hp6 (i := 2) rfl
        have y2 := heapc hp7 (i := 2) rfl
        have z3 := heapc hp6 (i := 3) rfl
        have y3 := heapc hp7 (i := 3) rfl
        have z4 := heapc hp6 (i := 4) rfl
        have y4 := heapc hp7 (i := 4) rfl
        have z5 := heapc hp6 (i := 5) rfl
        have y5 := heapc hp7 (i := 5) rfl
        have z6 := heapc hp6 (i := 6) rfl
        have y6 := heapc hp7 (i := 6) rfl
        have z7 := heapc hp6 (i := 7) rfl
        have y7 := heapc hp7 (i := 7) rfl
        have z8 := heapc hp6 (i := 8) rfl
        have y8 := heapc hp7 (i := 8) rfl
        have n0x : (x0 != x0) = false := by simp
        have n1x : (x1 != x1) = false := by simp
        have n2x : (x2 != x2) = false := by simp
        have n3x : (x3 != x3) = false := by simp
        have n4x : (x4 != x4) = false := by simp
        have n5x : (x5 != x5) = false := by simp
        have n6x : (x6 != x6) = false := by simp
        have n7x : (x7 != x7) = false := by simp
        clear hp6 hp7 hbx c0 e0 c1 e1 c2 e2 c3 e3 c4 e4 c5 e5 c6 e6 c7 e7 c8 e8 hz1 hz2
        go_wp2_with fail
        go_loopw [8] (fun v wq => v = .int .i64 0 ∧ wx = wq) (fun _ _ => 0)
        case atStart => exact ⟨rfl, rfl⟩
        case round =>
          obtain ⟨rfl, rfl⟩ := hrel
          go_wp2_with fail
          go_roundw
          case rel => exact ⟨k + 1, by omega, by go_num, hbr⟩
          case measure => simp [intOf]; omega
    · obtain rfl : k = l.length := by omega
      go_wp2_with fail
      go_ret
      exact ⟨rfl, hbr⟩
end Go.Proofs.YtlpdjinhkmgbgaaGreatDoor
