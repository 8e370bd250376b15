/-
  The program's Compare. By an AI agent.
-/
import Derived.Test.YtneafbhiencjlaaGreatDoorMgRuleProposed11
import Derived.Deep.RegionHeld3
import Derived.Deep.DeepCutAuto
import Derived.BigQuiet
import Derived.BigRegion
import Derived.StillTailTactics
import Derived.Deep.AppendLies

namespace Go.Proofs.YtneafbhiencjlaaGreatDoor
set_option linter.unusedVariables false
set_option linter.unusedSimpArgs false
open Go.RowKit

set_option maxRecDepth 100000 in
set_option maxHeartbeats 4000000 in
theorem Compare_good (L : Int) (a : Option Addr) (js : List Int) (ca : Nat) (aa : Option Addr) (l : List Sgn) (cl : Nat) (ae : Option Addr) (q : List Edc) (cq : Nat) (h : Int) (hV : lstE L js l q = 0) (hh : btw h 0 10000000 = true) (w : World) (hG : WayTab w) (hI : IntsS w a js) (hA : SgnS w aa l) (hE : EdS w ae q) :
    Calls Tryz.prog 10 #[.agg #[.int .i64 L, .slice a js.length ca], .slice aa l.length cl, .slice ae q.length cq, .int .i64 h] w (GapA (gapK L js l q h 4) 0 w) := by
  have HVE := Lib.hid hV
  obtain ⟨hLb, hJ, hC, hn⟩ := lst_good hV
  have hqn := edcs_len (lst_edcs hV)
  have hln : l.length ≤ 100 := ((sgns_iff L js l).1 (lst_sgns hV)).2.1
  have hqb : ∀ j, j < q.length → -1000000 ≤ (ge q j).fr ∧ (ge q j).fr ≤ 1000000 ∧ -1000000 ≤ (ge q j).tt ∧ (ge q j).tt ≤ 1000000 := fun j hj => by
    have := edc_bd (edc_in (lst_edcs hV) j hj)
    omega
  have H1 := Lib.hid (fun W (hW : Below w.heap.size w W) => by
    have := listsError_r L a js ca aa l cl ae q cq W (hI.below hW) (hA.below hW) (hE.below hW)
    rw [hV] at this
    exact this)
  have K0 := Lib.hid (fun W => hh ▸ isHour_r h W)
  have HTo0 := Lib.hid (fun tp dir W (hW : Below w.heap.size w W) => told_r L a js ca aa l cl h dir tp hLb.1 hLb.2 hJ hC hn W (hI.below hW) (hA.below hW))
  have HWa0 := Lib.hid (fun tp dir W (hW : Below w.heap.size w W) => wanted_r L a js.length ca ae q cq h tp dir (by omega) hqb (by omega) W (hE.below hW))
  have HEw := Lib.hid (fun W (hW : Below w.heap.size w W) => hE.below hW)
  have HLB := Lib.hid hLb
  obtain ⟨n0, hi, hz0, hz1, hz2⟩ := info_parts gapInfo
  obtain ⟨hgz, q0, q1, q2, q3, q4, q5, q6, q7⟩ := hG
  clear hI hA hE hV hh hJ hC hqb hLb hn
  go_enter Tryz.func10, Tryz.ntmps10
  go_wp2_with fail
  obtain ⟨wB, hwB⟩ : ∃ wB, w.alloc (.cells #[.int .i64 L, .slice a js.length ca] 24) = wB := ⟨_, rfl⟩
  have hb : Below w.heap.size w wB := by rw [← hwB]; exact (Below.refl _ _).alloc (Nat.le_refl _) _
  have l0 : wB.cell? ⟨w.heap.size, 0, none⟩ = some (.int .i64 L) := by rw [← hwB]; simp [go_sem]
  have l1 : wB.cell? ⟨w.heap.size, 1, none⟩ = some (.slice a js.length ca) := by rw [← hwB]; simp [go_sem]
  rw [hwB]
  clear hwB
  replace hgz := Nat.lt_of_lt_of_le hgz hb.size
  replace q0 := cell_below q0 hb
  replace q1 := cell_below q1 hb
  replace q2 := cell_below q2 hb
  replace q3 := cell_below q3 hb
  replace q4 := cell_below q4 hb
  replace q5 := cell_below q5 hb
  replace q6 := cell_below q6 hb
  replace q7 := cell_below q7 hb
  go_upto_region 7 with (first | (go_at_call 24; refine (H1.out _ hb).mono ?_; rintro e w1 ⟨rfl, hb1⟩; replace hb := hb.trans (hb1.mono hb.size); replace l0 := cell_below l0 hb1; replace l1 := cell_below l1 hb1; replace q0 := cell_below q0 hb1; replace q1 := cell_below q1 hb1; replace q2 := cell_below q2 hb1; replace q3 := cell_below q3 hb1; replace q4 := cell_below q4 hb1; replace q5 := cell_below q5 hb1; replace q6 := cell_below q6 hb1; replace q7 := cell_below q7 hb1; clear hb1) | (go_at_call 25; refine (K0.out _).mono ?_; rintro e w2 ⟨rfl, rfl⟩))
  obtain ⟨wB, rfl⟩ : ∃ wx : World, wx = w1 := ⟨_, rfl⟩
  have L0 := Lib.hid l0
  have L1 := Lib.hid l1
  have HB := Lib.hid hb
  clear H1 K0
  go_wp2_with fail
  clear q0 q1 q2 q3 q4 q5 q6 q7 l0 l1 hb
  go_loopw [11, 30] (fun v i wr => ∃ (k : Nat) (av : Option Addr) (cv : Nat), k ≤ 4 ∧ i = .int .i64 k ∧ v = .slice av (gapK L js l q h k).length cv ∧ Hid (wr.ownsRow wB.heap.size 80 6 (.slice av (gapK L js l q h k).length cv) (gapK L js l q h k).length (cl6 (gapK L js l q h k))) ∧ Hid ((gapK L js l q h k).length ≤ 1000 * k) ∧ Below wB.heap.size wB wr) (fun _ i _ => 4 - (intOf i).toNat)
  case atStart => exact ⟨0, none, 0, Nat.zero_le _, rfl, rfl, Lib.hid (World.ownsRow_nil _ _ _ _), Lib.hid (Nat.zero_le _), Below.refl _ _⟩
  case round =>
    obtain ⟨k, av0, cv0, hk, rfl, rfl, HRow0, HG0, hbr0⟩ := hrel
    by_cases hlt : k < 4
    · obtain ⟨tp, dir, hx, HSt, htp, hdir⟩ : ∃ tp dir : Int, (∀ W : World, (Instr.index 60 (.agg #[.int .i64 1, .int .i64 1, .int .i64 1, .int .i64 (-1), .int .i64 2, .int .i64 1, .int .i64 2, .int .i64 (-1)]) (.int .i64 k)).run Tryz.prog W = .ok (.agg #[.int .i64 tp, .int .i64 dir]) W) ∧ Hid (gapK L js l q h (k + 1) = gapK L js l q h k ++ gapW L js l q h tp dir) ∧ tp ≠ 0 ∧ dirB dir = true := by
        rcases (by omega : k = 0 ∨ k = 1 ∨ k = 2 ∨ k = 3) with rfl | rfl | rfl | rfl
        · exact ⟨1, 1, fun _ => by kernel_rfl, Lib.hid rfl, by decide, by decide⟩
        · exact ⟨1, (-1), fun _ => by kernel_rfl, Lib.hid rfl, by decide, by decide⟩
        · exact ⟨2, 1, fun _ => by kernel_rfl, Lib.hid rfl, by decide, by decide⟩
        · exact ⟨2, (-1), fun _ => by kernel_rfl, Lib.hid rfl, by decide, by decide⟩
      have HTD : Hid (tp ≠ 0 ∧ dirB dir = true) := Lib.hid ⟨htp, hdir⟩
      have hk4 : (k : Int) < 4 := by omega
      clear htp hdir
      have HAV : Hid (∀ x, av0 = some x → x.block < wr.heap.size) := Lib.hid fun x hx9 => (own_lt HRow0.out x hx9).2.2
      obtain ⟨M0, hM0⟩ : ∃ M0, gapK L js l q h k = M0 := ⟨_, rfl⟩
      rw [hM0] at HSt HRow0 HG0 ⊢
      clear hM0
      have HTo := Lib.hid (fun W (hW : Below w.heap.size w W) => HTo0.out tp dir W hW)
      have HWa := Lib.hid (fun W (hW : Below w.heap.size w W) => HWa0.out tp dir W hW)
      clear HTo0 HWa0
      go_upto_region 10 with (fail)
      obtain ⟨wz, hwz⟩ : ∃ wz, wr.alloc (.cells #[.int .i64 tp, .int .i64 dir] 59) = wz := ⟨_, rfl⟩
      have hbz : Below wB.heap.size wB wz := by rw [← hwz]; exact hbr0.alloc hbr0.size _
      have p0 : wz.cell? ⟨wr.heap.size, 0, none⟩ = some (.int .i64 tp) := by rw [← hwz]; simp [go_sem]
      have p1 : wz.cell? ⟨wr.heap.size, 1, none⟩ = some (.int .i64 dir) := by rw [← hwz]; simp [go_sem]
      have HRow1 := Lib.hid (HRow0.out.alloc (.cells #[.int .i64 tp, .int .i64 dir] 59))
      rw [hwz] at HRow1 ⊢
      clear hwz HRow0 hx hbr0
      obtain ⟨wbx, hwbx⟩ : ∃ x, wr.heap.size = x := ⟨_, rfl⟩
      rw [hwbx] at p0 p1 HAV ⊢
      clear hwbx
      have l0 := cell_below L0.out hbz
      have l1 := cell_below L1.out hbz
      have hzl := block_lt l0
      have hzp := block_lt p0
      have hbw := HB.out.trans (hbz.mono HB.out.size)
      go_cut [14, 15] (fun v14 v15 wx => ∃ (b14 b15 : Nat) (row : List Pst) (ar : Option Addr) (cr rb wb lb : Nat) (aq : Option Addr) (cq1 eb hb8 wb8 : Nat) (aq8 : Option Addr) (cq8 : Nat), v14 = .pointer (some ⟨b14, 0, none⟩) ∧ v15 = .pointer (some ⟨b15, 0, none⟩) ∧ Below wz.heap.size wz wx ∧ Hid (RowL L js dir h l row) ∧ Hid (row.length ≤ l.length) ∧ Hid (wx.heap[b14]? = some (.cells #[.func (.func 65) #[] #[.pointer (some ⟨rb, 0, none⟩), .pointer (some ⟨wb, 0, none⟩), .pointer (some ⟨lb, 0, none⟩)], .slice aq (cutsK L dir row row.length).length cq1] 67 (0, 0))) ∧ Hid (wx.heap[b15]? = some (.cells #[.func (.func 68) #[] #[.pointer (some ⟨eb, 0, none⟩), .pointer (some ⟨hb8, 0, none⟩), .pointer (some ⟨wb8, 0, none⟩)], .slice aq8 (cutsW L q q.length).length cq8] 67 (0, 0))) ∧ Hid (TMem L a js ca dir tp row ar cr rb wb lb aq wx) ∧ Hid (WMem L ae q cq h tp dir eb hb8 wb8 aq8 wx))
      case first =>
        go_wp2_with fail
        refine wp_region_held_drew (S := fun w' => Below wz.heap.size wz w') (by kernel_rfl) ((Below.refl _ _).drew) (fun hHeld => ?_)
        refine wpAnyH_take (i := 0) (oi := { dst := some 33, op := Go.Op.load 24 (Go.Operand.tmp 4), type := 24, pos := "hold.go:93", after := #[], guard := none }) (v := .agg #[.int .i64 L, .slice a js.length ca]) rfl (by kernel_rfl) (by kernel_rfl) (by kernel_rfl) (fun _ _ _ h => h) (.inl ⟨by kernel_rfl, fun w9 h9 => by
          clear hHeld
          have d0 := (h9.cell (p := ⟨w.heap.size, 0, none⟩) hzl).trans l0
          have d1 := (h9.cell (p := ⟨w.heap.size, 1, none⟩) hzl).trans l1
          clear h9
          go_simp⟩) hHeld ?_
        refine takeU (i := 1) (some 34) (.slice aa l.length cl) (by kernel_rfl) (by kernel_rfl) (by kernel_rfl) (by kernel_rfl) (by kernel_rfl) (fun _ => by kernel_rfl) (fun _ _ _ h => h) hHeld ?_
        refine takeU (i := 2) (some 35) (.int .i64 h) (by kernel_rfl) (by kernel_rfl) (by kernel_rfl) (by kernel_rfl) (by kernel_rfl) (fun _ => by kernel_rfl) (fun _ _ _ h => h) hHeld ?_
        refine wpAnyH_take (i := 3) (oi := { dst := some 36, op := Go.Op.load 59 (Go.Operand.tmp 13), type := 59, pos := "hold.go:93", after := #[], guard := none }) (v := .agg #[.int .i64 tp, .int .i64 dir]) rfl (by kernel_rfl) (by kernel_rfl) (by kernel_rfl) (fun _ _ _ h => h) (.inl ⟨by kernel_rfl, fun w9 h9 => by
          clear hHeld
          have d0 := (h9.cell (p := ⟨wbx, 0, none⟩) hzp).trans p0
          have d1 := (h9.cell (p := ⟨wbx, 1, none⟩) hzp).trans p1
          clear h9
          go_simp⟩) hHeld ?_
        refine wpAnyH_take (i := 5) (oi := { dst := some 38, op := Go.Op.load 24 (Go.Operand.tmp 4), type := 24, pos := "hold.go:93", after := #[], guard := none }) (v := .agg #[.int .i64 L, .slice a js.length ca]) rfl (by kernel_rfl) (by kernel_rfl) (by kernel_rfl) (fun _ _ _ h => h) (.inl ⟨by kernel_rfl, fun w9 h9 => by
          clear hHeld
          have d0 := (h9.cell (p := ⟨w.heap.size, 0, none⟩) hzl).trans l0
          have d1 := (h9.cell (p := ⟨w.heap.size, 1, none⟩) hzl).trans l1
          clear h9
          go_simp⟩) hHeld ?_
        refine takeU (i := 6) (some 39) (.slice ae q.length cq) (by kernel_rfl) (by kernel_rfl) (by kernel_rfl) (by kernel_rfl) (by kernel_rfl) (fun _ => by kernel_rfl) (fun _ _ _ h => h) hHeld ?_
        refine takeU (i := 7) (some 40) (.int .i64 h) (by kernel_rfl) (by kernel_rfl) (by kernel_rfl) (by kernel_rfl) (by kernel_rfl) (fun _ => by kernel_rfl) (fun _ _ _ h => h) hHeld ?_
        refine wpAnyH_take (i := 8) (oi := { dst := some 41, op := Go.Op.load 59 (Go.Operand.tmp 13), type := 59, pos := "hold.go:93", after := #[], guard := none }) (v := .agg #[.int .i64 tp, .int .i64 dir]) rfl (by kernel_rfl) (by kernel_rfl) (by kernel_rfl) (fun _ _ _ h => h) (.inl ⟨by kernel_rfl, fun w9 h9 => by
          clear hHeld
          have d0 := (h9.cell (p := ⟨wbx, 0, none⟩) hzp).trans p0
          have d1 := (h9.cell (p := ⟨wbx, 1, none⟩) hzp).trans p1
          clear h9
          go_simp⟩) hHeld ?_
        try simp only [Act.put, List.setIfInBounds_toArray, List.set_cons_zero, List.set_cons_succ]
        refine wpAnyH_ready (rs := [4, 10, 11]) (by kernel_rfl) (by simp) ?_
        refine AllReadyH.cons (o := { dst := some 37, op := Go.Op.call { callee := Go.Callee.value (Go.Operand.func 31), args := #[Go.Operand.tmp 33, Go.Operand.tmp 34, Go.Operand.tmp 35, Go.Operand.tmp 36], argTypes := #[24, 25, 3, 59] }, type := 67, pos := "hold.go:93", after := #[{ on := 0, ground := Go.Ground.data }, { on := 1, ground := Go.Ground.data }, { on := 2, ground := Go.Ground.data }, { on := 3, ground := Go.Ground.data }], guard := none }) rfl (fun K hK => ?_) (AllReadyH.cons (o := { dst := some 14, op := Go.Op.alloc 67, type := 0, pos := "hold.go:93", after := #[], guard := none }) rfl (fun K hK => ?_) (AllReadyH.cons (o := { dst := some 15, op := Go.Op.alloc 67, type := 0, pos := "hold.go:93", after := #[], guard := none }) rfl (fun K hK => ?_) AllReadyH.nil))
        · go_simp
          go_at_call 31
          refine (HTo.out _ (hbw.trans (hHeld.mono hbw.size))).mono ?_
          rintro e w49 ⟨row, ar, cr, rb, wb, lb, aq, cq1, hRL, hrn, hP, k1, k2, k3, k4, k5, rfl, hC, hbd9, hb49⟩
          have HT : Hid (TMem L a js ca dir tp row ar cr rb wb lb aq w49) := Lib.hid ⟨hP, k1, k2, k3, k4, k5, hC⟩
          have HRL := Lib.hid hRL
          have HRN := Lib.hid hrn
          clear hP k1 k2 k3 k4 k5 hC hRL hrn hbd9
          have hsz4 := hHeld.size
          have hsz4 := Nat.le_trans hsz4 hb49.size
          try (have hs10 := (Array.getElem?_eq_some_iff.1 hx10).1)
          try (have hs11 := (Array.getElem?_eq_some_iff.1 hx11).1)
          refine hK.out _ _ (hHeld.trans (hb49.mono hHeld.size)) (fun hHeld => ?_)
          clear hK K hb49
          try simp only [Act.put, List.setIfInBounds_toArray, List.set_cons_zero, List.set_cons_succ]
          try simp only [Act.put, List.setIfInBounds_toArray, List.set_cons_zero, List.set_cons_succ]
          refine wpAnyH_ready (rs := [9, 10, 11]) (by kernel_rfl) (by simp) ?_
          refine AllReadyH.cons (o := { dst := some 42, op := Go.Op.call { callee := Go.Callee.value (Go.Operand.func 32), args := #[Go.Operand.tmp 38, Go.Operand.tmp 39, Go.Operand.tmp 40, Go.Operand.tmp 41], argTypes := #[24, 26, 3, 59] }, type := 67, pos := "hold.go:93", after := #[{ on := 5, ground := Go.Ground.data }, { on := 6, ground := Go.Ground.data }, { on := 7, ground := Go.Ground.data }, { on := 8, ground := Go.Ground.data }, { on := 4, ground := Go.Ground.chain }], guard := none }) rfl (fun K hK => ?_) (AllReadyH.cons (o := { dst := some 14, op := Go.Op.alloc 67, type := 0, pos := "hold.go:93", after := #[], guard := none }) rfl (fun K hK => ?_) (AllReadyH.cons (o := { dst := some 15, op := Go.Op.alloc 67, type := 0, pos := "hold.go:93", after := #[], guard := none }) rfl (fun K hK => ?_) AllReadyH.nil))
          · go_simp
            go_at_call 32
            refine (HWa.out _ (hbw.trans (hHeld.mono hbw.size))).mono ?_
            rintro e w99 ⟨eb, hb8, wb8, aq8, cq8, k1, k2, k3, k4, rfl, hC, hb99⟩
            have HW : Hid (WMem L ae q cq h tp dir eb hb8 wb8 aq8 w99) := Lib.hid ⟨k1, k2, k3, k4, hC⟩
            replace HT := Lib.hid (HT.out.below hb99)
            clear k1 k2 k3 k4 hC
            have hsz9 := hHeld.size
            have hsz9 := Nat.le_trans hsz9 hb99.size
            try (have hs10 := (Array.getElem?_eq_some_iff.1 hx10).1)
            try (have hs11 := (Array.getElem?_eq_some_iff.1 hx11).1)
            have hsz49 := hb99.size
            refine hK.out _ _ (hHeld.trans (hb99.mono hHeld.size)) (fun hHeld => ?_)
            clear hK K hb99
            try simp only [Act.put, List.setIfInBounds_toArray, List.set_cons_zero, List.set_cons_succ]
            try simp only [Act.put, List.setIfInBounds_toArray, List.set_cons_zero, List.set_cons_succ]
            refine wpAnyH_ready (rs := [10, 11]) (by kernel_rfl) (by simp) ?_
            refine AllReadyH.cons (o := { dst := some 14, op := Go.Op.alloc 67, type := 0, pos := "hold.go:93", after := #[], guard := none }) rfl (fun K hK => ?_) (AllReadyH.cons (o := { dst := some 15, op := Go.Op.alloc 67, type := 0, pos := "hold.go:93", after := #[], guard := none }) rfl (fun K hK => ?_) AllReadyH.nil)
            · go_simp
              have hA0 := hHeld
              refine hK.out _ _ (hHeld.alloc hHeld.size _) (fun hHeld => ?_)
              clear hK K
              try simp only [Act.put, List.setIfInBounds_toArray, List.set_cons_zero, List.set_cons_succ]
              replace HT := Lib.hid (HT.out.below ((Below.refl _ _).alloc (Nat.le_refl _) (.cells #[.nilFunc, .slice none 0 0] 67)))
              replace HW := Lib.hid (HW.out.below ((Below.refl _ _).alloc (Nat.le_refl _) (.cells #[.nilFunc, .slice none 0 0] 67)))
              have hx10 : (w99.alloc (.cells #[.nilFunc, .slice none 0 0] 67)).heap[w99.heap.size]? = some (.cells #[.nilFunc, .slice none 0 0] 67 (0, 0)) := by
                have h9 := heap_alloc_new w99 (.cells #[.nilFunc, .slice none 0 0] 67)
                first | exact h9 | simpa using h9
              try simp only [Act.put, List.setIfInBounds_toArray, List.set_cons_zero, List.set_cons_succ]
              refine wpAnyH_ready (rs := [11]) (by kernel_rfl) (by simp) ?_
              refine AllReadyH.cons (o := { dst := some 15, op := Go.Op.alloc 67, type := 0, pos := "hold.go:93", after := #[], guard := none }) rfl (fun K hK => ?_) AllReadyH.nil
              go_simp
              have hA0 := hHeld
              refine hK.out _ _ (hHeld.alloc hHeld.size _) (fun hHeld => ?_)
              clear hK K
              try simp only [Act.put, List.setIfInBounds_toArray, List.set_cons_zero, List.set_cons_succ]
              replace hx10 := heap_below hx10 ((Below.refl _ _).alloc (Nat.le_refl _) (.cells #[.nilFunc, .slice none 0 0] 67))
              replace HT := Lib.hid (HT.out.below ((Below.refl _ _).alloc (Nat.le_refl _) (.cells #[.nilFunc, .slice none 0 0] 67)))
              replace HW := Lib.hid (HW.out.below ((Below.refl _ _).alloc (Nat.le_refl _) (.cells #[.nilFunc, .slice none 0 0] 67)))
              have hx11 : ((w99.alloc (.cells #[.nilFunc, .slice none 0 0] 67)).alloc (.cells #[.nilFunc, .slice none 0 0] 67)).heap[w99.heap.size + 1]? = some (.cells #[.nilFunc, .slice none 0 0] 67 (0, 0)) := by
                have h9 := heap_alloc_new (w99.alloc (.cells #[.nilFunc, .slice none 0 0] 67)) (.cells #[.nilFunc, .slice none 0 0] 67)
                first | exact h9 | simpa using h9
              try simp only [Act.put, List.setIfInBounds_toArray, List.set_cons_zero, List.set_cons_succ]
              refine wpAnyH_ready (rs := [12]) (by kernel_rfl) (by simp) ?_
              refine AllReadyH.cons (o := { dst := none, op := Go.Op.store 67 (Go.Operand.tmp 14) (Go.Operand.tmp 37), type := 0, pos := "hold.go:93", after := #[{ on := 10, ground := Go.Ground.data }, { on := 4, ground := Go.Ground.data }, { on := 9, ground := Go.Ground.chain }, { on := 0, ground := Go.Ground.phase }, { on := 1, ground := Go.Ground.phase }, { on := 2, ground := Go.Ground.phase }, { on := 3, ground := Go.Ground.phase }, { on := 4, ground := Go.Ground.phase }, { on := 5, ground := Go.Ground.textOnly Go.Departure.lateStores }, { on := 6, ground := Go.Ground.textOnly Go.Departure.lateStores }, { on := 7, ground := Go.Ground.textOnly Go.Departure.lateStores }, { on := 8, ground := Go.Ground.textOnly Go.Departure.lateStores }, { on := 9, ground := Go.Ground.textOnly Go.Departure.lateStoresUnsure }, { on := 10, ground := Go.Ground.phase }, { on := 11, ground := Go.Ground.phase }], guard := none }) rfl (fun K hK => ?_) AllReadyH.nil
              obtain ⟨wS, hwS⟩ : ∃ wS, ((w99.alloc (.cells #[.nilFunc, .slice none 0 0] 67)).alloc (.cells #[.nilFunc, .slice none 0 0] 67)) = wS := ⟨_, rfl⟩
              rw [hwS] at hHeld hx10 hx11 HT HW ⊢
              clear hwS
              have y0 := heapc hx10 (i := 0) (v := .nilFunc) rfl
              have y1 := heapc hx10 (i := 1) (v := .slice none 0 0) rfl
              have g0 : wS.frozen? ⟨w99.heap.size, 0, none⟩ = false := by simp [World.frozen?, hx10]
              have g1 : wS.frozen? ⟨w99.heap.size, 1, none⟩ = false := by simp [World.frozen?, hx10]
              have hzz : wz.heap.size ≤ w99.heap.size := by first | exact Nat.le_refl _ | omega | (have := hsz4; omega) | (have := hsz4; have := hsz9; omega)
              go_simp
              have e1 := heap_setCell_same wS (w99.heap.size) 0 _ 67 (.func (.func 65) #[] #[.pointer (some ⟨rb, 0, none⟩), .pointer (some ⟨wb, 0, none⟩), .pointer (some ⟨lb, 0, none⟩)]) hx10
              have e2 := heap_setCell_same _ (w99.heap.size) 1 _ 67 (.slice aq (cutsK L dir row row.length).length cq1) e1
              have hne : w99.heap.size + 1 ≠ w99.heap.size := by first | omega | (have := hsz4; omega) | (have := hsz4; have := hsz9; omega)
              have e3 := (heap_setCell_other (wS.setCell ⟨w99.heap.size, 0, none⟩ (.func (.func 65) #[] #[.pointer (some ⟨rb, 0, none⟩), .pointer (some ⟨wb, 0, none⟩), .pointer (some ⟨lb, 0, none⟩)])) ⟨w99.heap.size, 1, none⟩ (w99.heap.size + 1) (.slice aq (cutsK L dir row row.length).length cq1) hne).trans ((heap_setCell_other wS ⟨w99.heap.size, 0, none⟩ (w99.heap.size + 1) (.func (.func 65) #[] #[.pointer (some ⟨rb, 0, none⟩), .pointer (some ⟨wb, 0, none⟩), .pointer (some ⟨lb, 0, none⟩)]) hne).trans hx11)
              have hfar : ∀ b, b ≠ w99.heap.size → b ≠ w99.heap.size + 1 → ((wS.setCell ⟨w99.heap.size, 0, none⟩ (.func (.func 65) #[] #[.pointer (some ⟨rb, 0, none⟩), .pointer (some ⟨wb, 0, none⟩), .pointer (some ⟨lb, 0, none⟩)])).setCell ⟨w99.heap.size, 1, none⟩ (.slice aq (cutsK L dir row row.length).length cq1)).heap[b]? = wS.heap[b]? := fun b hb _ => (heap_setCell_other _ ⟨w99.heap.size, 1, none⟩ b _ hb).trans (heap_setCell_other _ ⟨w99.heap.size, 0, none⟩ b _ hb)
              refine hK.out _ _ ((hHeld.setCell (p := ⟨w99.heap.size, 0, none⟩) hzz _).setCell (p := ⟨w99.heap.size, 1, none⟩) hzz _) (fun hHeld => ?_)
              clear hK K
              try simp only [Act.put, List.setIfInBounds_toArray, List.set_cons_zero, List.set_cons_succ]
              try simp only [Act.put, List.setIfInBounds_toArray, List.set_cons_zero, List.set_cons_succ]
              refine wpAnyH_ready (rs := [13]) (by kernel_rfl) (by simp) ?_
              refine AllReadyH.cons (o := { dst := none, op := Go.Op.store 67 (Go.Operand.tmp 15) (Go.Operand.tmp 42), type := 0, pos := "hold.go:93", after := #[{ on := 11, ground := Go.Ground.data }, { on := 9, ground := Go.Ground.data }, { on := 12, ground := Go.Ground.chain }, { on := 0, ground := Go.Ground.phase }, { on := 1, ground := Go.Ground.phase }, { on := 2, ground := Go.Ground.phase }, { on := 3, ground := Go.Ground.phase }, { on := 4, ground := Go.Ground.phase }, { on := 5, ground := Go.Ground.phase }, { on := 6, ground := Go.Ground.phase }, { on := 7, ground := Go.Ground.phase }, { on := 8, ground := Go.Ground.phase }, { on := 9, ground := Go.Ground.phase }, { on := 10, ground := Go.Ground.phase }, { on := 11, ground := Go.Ground.phase }, { on := 12, ground := Go.Ground.phase }], guard := none }) rfl (fun K hK => ?_) AllReadyH.nil
              obtain ⟨wU, hwU⟩ : ∃ wU, (wS.setCell ⟨w99.heap.size, 0, none⟩ (.func (.func 65) #[] #[.pointer (some ⟨rb, 0, none⟩), .pointer (some ⟨wb, 0, none⟩), .pointer (some ⟨lb, 0, none⟩)])).setCell ⟨w99.heap.size, 1, none⟩ (.slice aq (cutsK L dir row row.length).length cq1) = wU := ⟨_, rfl⟩
              rw [hwU] at hHeld e2 e3 hfar ⊢
              clear hwU e1 y0 y1 g0 g1
              have y0 := heapc e3 (i := 0) (v := .nilFunc) rfl
              have y1 := heapc e3 (i := 1) (v := .slice none 0 0) rfl
              have g0 : wU.frozen? ⟨w99.heap.size + 1, 0, none⟩ = false := by simp [World.frozen?, e3]
              have g1 : wU.frozen? ⟨w99.heap.size + 1, 1, none⟩ = false := by simp [World.frozen?, e3]
              have hzz2 : wz.heap.size ≤ w99.heap.size + 1 := by first | exact Nat.le_refl _ | omega | (have := hsz4; omega) | (have := hsz4; have := hsz9; omega)
              go_simp
              have f1 := heap_setCell_same wU (w99.heap.size + 1) 0 _ 67 (.func (.func 68) #[] #[.pointer (some ⟨eb, 0, none⟩), .pointer (some ⟨hb8, 0, none⟩), .pointer (some ⟨wb8, 0, none⟩)]) e3
              have f2 := heap_setCell_same _ (w99.heap.size + 1) 1 _ 67 (.slice aq8 (cutsW L q q.length).length cq8) f1
              have f3 := (heap_setCell_other (wU.setCell ⟨w99.heap.size + 1, 0, none⟩ (.func (.func 68) #[] #[.pointer (some ⟨eb, 0, none⟩), .pointer (some ⟨hb8, 0, none⟩), .pointer (some ⟨wb8, 0, none⟩)])) ⟨w99.heap.size + 1, 1, none⟩ (w99.heap.size) (.slice aq8 (cutsW L q q.length).length cq8) hne.symm).trans ((heap_setCell_other wU ⟨w99.heap.size + 1, 0, none⟩ (w99.heap.size) (.func (.func 68) #[] #[.pointer (some ⟨eb, 0, none⟩), .pointer (some ⟨hb8, 0, none⟩), .pointer (some ⟨wb8, 0, none⟩)]) hne.symm).trans e2)
              have hfar2 : ∀ b, b ≠ w99.heap.size → b ≠ w99.heap.size + 1 → ((wU.setCell ⟨w99.heap.size + 1, 0, none⟩ (.func (.func 68) #[] #[.pointer (some ⟨eb, 0, none⟩), .pointer (some ⟨hb8, 0, none⟩), .pointer (some ⟨wb8, 0, none⟩)])).setCell ⟨w99.heap.size + 1, 1, none⟩ (.slice aq8 (cutsW L q q.length).length cq8)).heap[b]? = wS.heap[b]? := fun b hb hb2 => ((heap_setCell_other _ ⟨w99.heap.size + 1, 1, none⟩ b _ hb2).trans (heap_setCell_other _ ⟨w99.heap.size + 1, 0, none⟩ b _ hb2)).trans (hfar b hb hb2)
              have HT2 := Lib.hid (HT.out.kept hx10 hx11 hfar2)
              have HW2 := Lib.hid (HW.out.kept hx10 hx11 hfar2)
              refine hK.out _ _ ((hHeld.setCell (p := ⟨w99.heap.size + 1, 0, none⟩) hzz2 _).setCell (p := ⟨w99.heap.size + 1, 1, none⟩) hzz2 _) (fun hHeld => ?_)
              clear hK K
              try simp only [Act.put, List.setIfInBounds_toArray, List.set_cons_zero, List.set_cons_succ]
              refine wpAnyH_done (by kernel_rfl) ?_ _
              try simp only [Act.put, List.setIfInBounds_toArray, List.set_cons_zero, List.set_cons_succ]
              go_wp2_with fail
              go_meet
              exact ⟨w99.heap.size, w99.heap.size + 1, row, ar, cr, rb, wb, lb, aq, cq1, eb, hb8, wb8, aq8, cq8, rfl, rfl, hHeld, HRL, HRN, Lib.hid f3, Lib.hid f2, HT2, HW2⟩
            · go_simp
              have hA0 := hHeld
              refine hK.out _ _ (hHeld.alloc hHeld.size _) (fun hHeld => ?_)
              clear hK K
              try simp only [Act.put, List.setIfInBounds_toArray, List.set_cons_zero, List.set_cons_succ]
              replace HT := Lib.hid (HT.out.below ((Below.refl _ _).alloc (Nat.le_refl _) (.cells #[.nilFunc, .slice none 0 0] 67)))
              replace HW := Lib.hid (HW.out.below ((Below.refl _ _).alloc (Nat.le_refl _) (.cells #[.nilFunc, .slice none 0 0] 67)))
              have hx11 : (w99.alloc (.cells #[.nilFunc, .slice none 0 0] 67)).heap[w99.heap.size]? = some (.cells #[.nilFunc, .slice none 0 0] 67 (0, 0)) := by
                have h9 := heap_alloc_new w99 (.cells #[.nilFunc, .slice none 0 0] 67)
                first | exact h9 | simpa using h9
              try simp only [Act.put, List.setIfInBounds_toArray, List.set_cons_zero, List.set_cons_succ]
              refine wpAnyH_ready (rs := [10]) (by kernel_rfl) (by simp) ?_
              refine AllReadyH.cons (o := { dst := some 14, op := Go.Op.alloc 67, type := 0, pos := "hold.go:93", after := #[], guard := none }) rfl (fun K hK => ?_) AllReadyH.nil
              go_simp
              have hA0 := hHeld
              refine hK.out _ _ (hHeld.alloc hHeld.size _) (fun hHeld => ?_)
              clear hK K
              try simp only [Act.put, List.setIfInBounds_toArray, List.set_cons_zero, List.set_cons_succ]
              replace hx11 := heap_below hx11 ((Below.refl _ _).alloc (Nat.le_refl _) (.cells #[.nilFunc, .slice none 0 0] 67))
              replace HT := Lib.hid (HT.out.below ((Below.refl _ _).alloc (Nat.le_refl _) (.cells #[.nilFunc, .slice none 0 0] 67)))
              replace HW := Lib.hid (HW.out.below ((Below.refl _ _).alloc (Nat.le_refl _) (.cells #[.nilFunc, .slice none 0 0] 67)))
              have hx10 : ((w99.alloc (.cells #[.nilFunc, .slice none 0 0] 67)).alloc (.cells #[.nilFunc, .slice none 0 0] 67)).heap[w99.heap.size + 1]? = some (.cells #[.nilFunc, .slice none 0 0] 67 (0, 0)) := by
                have h9 := heap_alloc_new (w99.alloc (.cells #[.nilFunc, .slice none 0 0] 67)) (.cells #[.nilFunc, .slice none 0 0] 67)
                first | exact h9 | simpa using h9
              try simp only [Act.put, List.setIfInBounds_toArray, List.set_cons_zero, List.set_cons_succ]
              refine wpAnyH_ready (rs := [12]) (by kernel_rfl) (by simp) ?_
              refine AllReadyH.cons (o := { dst := none, op := Go.Op.store 67 (Go.Operand.tmp 14) (Go.Operand.tmp 37), type := 0, pos := "hold.go:93", after := #[{ on := 10, ground := Go.Ground.data }, { on := 4, ground := Go.Ground.data }, { on := 9, ground := Go.Ground.chain }, { on := 0, ground := Go.Ground.phase }, { on := 1, ground := Go.Ground.phase }, { on := 2, ground := Go.Ground.phase }, { on := 3, ground := Go.Ground.phase }, { on := 4, ground := Go.Ground.phase }, { on := 5, ground := Go.Ground.textOnly Go.Departure.lateStores }, { on := 6, ground := Go.Ground.textOnly Go.Departure.lateStores }, { on := 7, ground := Go.Ground.textOnly Go.Departure.lateStores }, { on := 8, ground := Go.Ground.textOnly Go.Departure.lateStores }, { on := 9, ground := Go.Ground.textOnly Go.Departure.lateStoresUnsure }, { on := 10, ground := Go.Ground.phase }, { on := 11, ground := Go.Ground.phase }], guard := none }) rfl (fun K hK => ?_) AllReadyH.nil
              obtain ⟨wS, hwS⟩ : ∃ wS, ((w99.alloc (.cells #[.nilFunc, .slice none 0 0] 67)).alloc (.cells #[.nilFunc, .slice none 0 0] 67)) = wS := ⟨_, rfl⟩
              rw [hwS] at hHeld hx10 hx11 HT HW ⊢
              clear hwS
              have y0 := heapc hx10 (i := 0) (v := .nilFunc) rfl
              have y1 := heapc hx10 (i := 1) (v := .slice none 0 0) rfl
              have g0 : wS.frozen? ⟨w99.heap.size + 1, 0, none⟩ = false := by simp [World.frozen?, hx10]
              have g1 : wS.frozen? ⟨w99.heap.size + 1, 1, none⟩ = false := by simp [World.frozen?, hx10]
              have hzz : wz.heap.size ≤ w99.heap.size + 1 := by first | exact Nat.le_refl _ | omega | (have := hsz4; omega) | (have := hsz4; have := hsz9; omega)
              go_simp
              have e1 := heap_setCell_same wS (w99.heap.size + 1) 0 _ 67 (.func (.func 65) #[] #[.pointer (some ⟨rb, 0, none⟩), .pointer (some ⟨wb, 0, none⟩), .pointer (some ⟨lb, 0, none⟩)]) hx10
              have e2 := heap_setCell_same _ (w99.heap.size + 1) 1 _ 67 (.slice aq (cutsK L dir row row.length).length cq1) e1
              have hne : w99.heap.size ≠ w99.heap.size + 1 := by first | omega | (have := hsz4; omega) | (have := hsz4; have := hsz9; omega)
              have e3 := (heap_setCell_other (wS.setCell ⟨w99.heap.size + 1, 0, none⟩ (.func (.func 65) #[] #[.pointer (some ⟨rb, 0, none⟩), .pointer (some ⟨wb, 0, none⟩), .pointer (some ⟨lb, 0, none⟩)])) ⟨w99.heap.size + 1, 1, none⟩ (w99.heap.size) (.slice aq (cutsK L dir row row.length).length cq1) hne).trans ((heap_setCell_other wS ⟨w99.heap.size + 1, 0, none⟩ (w99.heap.size) (.func (.func 65) #[] #[.pointer (some ⟨rb, 0, none⟩), .pointer (some ⟨wb, 0, none⟩), .pointer (some ⟨lb, 0, none⟩)]) hne).trans hx11)
              have hfar : ∀ b, b ≠ w99.heap.size + 1 → b ≠ w99.heap.size → ((wS.setCell ⟨w99.heap.size + 1, 0, none⟩ (.func (.func 65) #[] #[.pointer (some ⟨rb, 0, none⟩), .pointer (some ⟨wb, 0, none⟩), .pointer (some ⟨lb, 0, none⟩)])).setCell ⟨w99.heap.size + 1, 1, none⟩ (.slice aq (cutsK L dir row row.length).length cq1)).heap[b]? = wS.heap[b]? := fun b hb _ => (heap_setCell_other _ ⟨w99.heap.size + 1, 1, none⟩ b _ hb).trans (heap_setCell_other _ ⟨w99.heap.size + 1, 0, none⟩ b _ hb)
              refine hK.out _ _ ((hHeld.setCell (p := ⟨w99.heap.size + 1, 0, none⟩) hzz _).setCell (p := ⟨w99.heap.size + 1, 1, none⟩) hzz _) (fun hHeld => ?_)
              clear hK K
              try simp only [Act.put, List.setIfInBounds_toArray, List.set_cons_zero, List.set_cons_succ]
              try simp only [Act.put, List.setIfInBounds_toArray, List.set_cons_zero, List.set_cons_succ]
              refine wpAnyH_ready (rs := [13]) (by kernel_rfl) (by simp) ?_
              refine AllReadyH.cons (o := { dst := none, op := Go.Op.store 67 (Go.Operand.tmp 15) (Go.Operand.tmp 42), type := 0, pos := "hold.go:93", after := #[{ on := 11, ground := Go.Ground.data }, { on := 9, ground := Go.Ground.data }, { on := 12, ground := Go.Ground.chain }, { on := 0, ground := Go.Ground.phase }, { on := 1, ground := Go.Ground.phase }, { on := 2, ground := Go.Ground.phase }, { on := 3, ground := Go.Ground.phase }, { on := 4, ground := Go.Ground.phase }, { on := 5, ground := Go.Ground.phase }, { on := 6, ground := Go.Ground.phase }, { on := 7, ground := Go.Ground.phase }, { on := 8, ground := Go.Ground.phase }, { on := 9, ground := Go.Ground.phase }, { on := 10, ground := Go.Ground.phase }, { on := 11, ground := Go.Ground.phase }, { on := 12, ground := Go.Ground.phase }], guard := none }) rfl (fun K hK => ?_) AllReadyH.nil
              obtain ⟨wU, hwU⟩ : ∃ wU, (wS.setCell ⟨w99.heap.size + 1, 0, none⟩ (.func (.func 65) #[] #[.pointer (some ⟨rb, 0, none⟩), .pointer (some ⟨wb, 0, none⟩), .pointer (some ⟨lb, 0, none⟩)])).setCell ⟨w99.heap.size + 1, 1, none⟩ (.slice aq (cutsK L dir row row.length).length cq1) = wU := ⟨_, rfl⟩
              rw [hwU] at hHeld e2 e3 hfar ⊢
              clear hwU e1 y0 y1 g0 g1
              have y0 := heapc e3 (i := 0) (v := .nilFunc) rfl
              have y1 := heapc e3 (i := 1) (v := .slice none 0 0) rfl
              have g0 : wU.frozen? ⟨w99.heap.size, 0, none⟩ = false := by simp [World.frozen?, e3]
              have g1 : wU.frozen? ⟨w99.heap.size, 1, none⟩ = false := by simp [World.frozen?, e3]
              have hzz2 : wz.heap.size ≤ w99.heap.size := by first | exact Nat.le_refl _ | omega | (have := hsz4; omega) | (have := hsz4; have := hsz9; omega)
              go_simp
              have f1 := heap_setCell_same wU (w99.heap.size) 0 _ 67 (.func (.func 68) #[] #[.pointer (some ⟨eb, 0, none⟩), .pointer (some ⟨hb8, 0, none⟩), .pointer (some ⟨wb8, 0, none⟩)]) e3
              have f2 := heap_setCell_same _ (w99.heap.size) 1 _ 67 (.slice aq8 (cutsW L q q.length).length cq8) f1
              have f3 := (heap_setCell_other (wU.setCell ⟨w99.heap.size, 0, none⟩ (.func (.func 68) #[] #[.pointer (some ⟨eb, 0, none⟩), .pointer (some ⟨hb8, 0, none⟩), .pointer (some ⟨wb8, 0, none⟩)])) ⟨w99.heap.size, 1, none⟩ (w99.heap.size + 1) (.slice aq8 (cutsW L q q.length).length cq8) hne.symm).trans ((heap_setCell_other wU ⟨w99.heap.size, 0, none⟩ (w99.heap.size + 1) (.func (.func 68) #[] #[.pointer (some ⟨eb, 0, none⟩), .pointer (some ⟨hb8, 0, none⟩), .pointer (some ⟨wb8, 0, none⟩)]) hne.symm).trans e2)
              have hfar2 : ∀ b, b ≠ w99.heap.size + 1 → b ≠ w99.heap.size → ((wU.setCell ⟨w99.heap.size, 0, none⟩ (.func (.func 68) #[] #[.pointer (some ⟨eb, 0, none⟩), .pointer (some ⟨hb8, 0, none⟩), .pointer (some ⟨wb8, 0, none⟩)])).setCell ⟨w99.heap.size, 1, none⟩ (.slice aq8 (cutsW L q q.length).length cq8)).heap[b]? = wS.heap[b]? := fun b hb hb2 => ((heap_setCell_other _ ⟨w99.heap.size, 1, none⟩ b _ hb2).trans (heap_setCell_other _ ⟨w99.heap.size, 0, none⟩ b _ hb2)).trans (hfar b hb hb2)
              have HT2 := Lib.hid (HT.out.kept hx10 hx11 hfar2)
              have HW2 := Lib.hid (HW.out.kept hx10 hx11 hfar2)
              refine hK.out _ _ ((hHeld.setCell (p := ⟨w99.heap.size, 0, none⟩) hzz2 _).setCell (p := ⟨w99.heap.size, 1, none⟩) hzz2 _) (fun hHeld => ?_)
              clear hK K
              try simp only [Act.put, List.setIfInBounds_toArray, List.set_cons_zero, List.set_cons_succ]
              refine wpAnyH_done (by kernel_rfl) ?_ _
              try simp only [Act.put, List.setIfInBounds_toArray, List.set_cons_zero, List.set_cons_succ]
              go_wp2_with fail
              go_meet
              exact ⟨w99.heap.size + 1, w99.heap.size, row, ar, cr, rb, wb, lb, aq, cq1, eb, hb8, wb8, aq8, cq8, rfl, rfl, hHeld, HRL, HRN, Lib.hid f3, Lib.hid f2, HT2, HW2⟩
          · go_simp
            have hA0 := hHeld
            refine hK.out _ _ (hHeld.alloc hHeld.size _) (fun hHeld => ?_)
            clear hK K
            try simp only [Act.put, List.setIfInBounds_toArray, List.set_cons_zero, List.set_cons_succ]
            replace HT := Lib.hid (HT.out.below ((Below.refl _ _).alloc (Nat.le_refl _) (.cells #[.nilFunc, .slice none 0 0] 67)))
            have hx10 : (w49.alloc (.cells #[.nilFunc, .slice none 0 0] 67)).heap[w49.heap.size]? = some (.cells #[.nilFunc, .slice none 0 0] 67 (0, 0)) := by
              have h9 := heap_alloc_new w49 (.cells #[.nilFunc, .slice none 0 0] 67)
              first | exact h9 | simpa using h9
            try simp only [Act.put, List.setIfInBounds_toArray, List.set_cons_zero, List.set_cons_succ]
            refine wpAnyH_ready (rs := [9, 11]) (by kernel_rfl) (by simp) ?_
            refine AllReadyH.cons (o := { dst := some 42, op := Go.Op.call { callee := Go.Callee.value (Go.Operand.func 32), args := #[Go.Operand.tmp 38, Go.Operand.tmp 39, Go.Operand.tmp 40, Go.Operand.tmp 41], argTypes := #[24, 26, 3, 59] }, type := 67, pos := "hold.go:93", after := #[{ on := 5, ground := Go.Ground.data }, { on := 6, ground := Go.Ground.data }, { on := 7, ground := Go.Ground.data }, { on := 8, ground := Go.Ground.data }, { on := 4, ground := Go.Ground.chain }], guard := none }) rfl (fun K hK => ?_) (AllReadyH.cons (o := { dst := some 15, op := Go.Op.alloc 67, type := 0, pos := "hold.go:93", after := #[], guard := none }) rfl (fun K hK => ?_) AllReadyH.nil)
            · go_simp
              go_at_call 32
              refine (HWa.out _ (hbw.trans (hHeld.mono hbw.size))).mono ?_
              rintro e w99 ⟨eb, hb8, wb8, aq8, cq8, k1, k2, k3, k4, rfl, hC, hb99⟩
              have HW : Hid (WMem L ae q cq h tp dir eb hb8 wb8 aq8 w99) := Lib.hid ⟨k1, k2, k3, k4, hC⟩
              replace HT := Lib.hid (HT.out.below hb99)
              clear k1 k2 k3 k4 hC
              replace hx10 := heap_below hx10 hb99
              have hsz9 := hHeld.size
              have hsz9 := Nat.le_trans hsz9 hb99.size
              try (have hs10 := (Array.getElem?_eq_some_iff.1 hx10).1)
              try (have hs11 := (Array.getElem?_eq_some_iff.1 hx11).1)
              have hsz49 := hb99.size
              refine hK.out _ _ (hHeld.trans (hb99.mono hHeld.size)) (fun hHeld => ?_)
              clear hK K hb99
              try simp only [Act.put, List.setIfInBounds_toArray, List.set_cons_zero, List.set_cons_succ]
              try simp only [Act.put, List.setIfInBounds_toArray, List.set_cons_zero, List.set_cons_succ]
              refine wpAnyH_ready (rs := [11]) (by kernel_rfl) (by simp) ?_
              refine AllReadyH.cons (o := { dst := some 15, op := Go.Op.alloc 67, type := 0, pos := "hold.go:93", after := #[], guard := none }) rfl (fun K hK => ?_) AllReadyH.nil
              go_simp
              have hA0 := hHeld
              refine hK.out _ _ (hHeld.alloc hHeld.size _) (fun hHeld => ?_)
              clear hK K
              try simp only [Act.put, List.setIfInBounds_toArray, List.set_cons_zero, List.set_cons_succ]
              replace hx10 := heap_below hx10 ((Below.refl _ _).alloc (Nat.le_refl _) (.cells #[.nilFunc, .slice none 0 0] 67))
              replace HT := Lib.hid (HT.out.below ((Below.refl _ _).alloc (Nat.le_refl _) (.cells #[.nilFunc, .slice none 0 0] 67)))
              replace HW := Lib.hid (HW.out.below ((Below.refl _ _).alloc (Nat.le_refl _) (.cells #[.nilFunc, .slice none 0 0] 67)))
              have hx11 : (w99.alloc (.cells #[.nilFunc, .slice none 0 0] 67)).heap[w99.heap.size]? = some (.cells #[.nilFunc, .slice none 0 0] 67 (0, 0)) := by
                have h9 := heap_alloc_new w99 (.cells #[.nilFunc, .slice none 0 0] 67)
                first | exact h9 | simpa using h9
              try simp only [Act.put, List.setIfInBounds_toArray, List.set_cons_zero, List.set_cons_succ]
              refine wpAnyH_ready (rs := [12]) (by kernel_rfl) (by simp) ?_
              refine AllReadyH.cons (o := { dst := none, op := Go.Op.store 67 (Go.Operand.tmp 14) (Go.Operand.tmp 37), type := 0, pos := "hold.go:93", after := #[{ on := 10, ground := Go.Ground.data }, { on := 4, ground := Go.Ground.data }, { on := 9, ground := Go.Ground.chain }, { on := 0, ground := Go.Ground.phase }, { on := 1, ground := Go.Ground.phase }, { on := 2, ground := Go.Ground.phase }, { on := 3, ground := Go.Ground.phase }, { on := 4, ground := Go.Ground.phase }, { on := 5, ground := Go.Ground.textOnly Go.Departure.lateStores }, { on := 6, ground := Go.Ground.textOnly Go.Departure.lateStores }, { on := 7, ground := Go.Ground.textOnly Go.Departure.lateStores }, { on := 8, ground := Go.Ground.textOnly Go.Departure.lateStores }, { on := 9, ground := Go.Ground.textOnly Go.Departure.lateStoresUnsure }, { on := 10, ground := Go.Ground.phase }, { on := 11, ground := Go.Ground.phase }], guard := none }) rfl (fun K hK => ?_) AllReadyH.nil
              obtain ⟨wS, hwS⟩ : ∃ wS, (w99.alloc (.cells #[.nilFunc, .slice none 0 0] 67)) = wS := ⟨_, rfl⟩
              rw [hwS] at hHeld hx10 hx11 HT HW ⊢
              clear hwS
              have y0 := heapc hx10 (i := 0) (v := .nilFunc) rfl
              have y1 := heapc hx10 (i := 1) (v := .slice none 0 0) rfl
              have g0 : wS.frozen? ⟨w49.heap.size, 0, none⟩ = false := by simp [World.frozen?, hx10]
              have g1 : wS.frozen? ⟨w49.heap.size, 1, none⟩ = false := by simp [World.frozen?, hx10]
              have hzz : wz.heap.size ≤ w49.heap.size := by first | exact Nat.le_refl _ | omega | (have := hsz4; omega) | (have := hsz4; have := hsz9; omega)
              go_simp
              have e1 := heap_setCell_same wS (w49.heap.size) 0 _ 67 (.func (.func 65) #[] #[.pointer (some ⟨rb, 0, none⟩), .pointer (some ⟨wb, 0, none⟩), .pointer (some ⟨lb, 0, none⟩)]) hx10
              have e2 := heap_setCell_same _ (w49.heap.size) 1 _ 67 (.slice aq (cutsK L dir row row.length).length cq1) e1
              have hne : w99.heap.size ≠ w49.heap.size := by first | omega | (have := hsz4; omega) | (have := hsz4; have := hsz9; omega)
              have e3 := (heap_setCell_other (wS.setCell ⟨w49.heap.size, 0, none⟩ (.func (.func 65) #[] #[.pointer (some ⟨rb, 0, none⟩), .pointer (some ⟨wb, 0, none⟩), .pointer (some ⟨lb, 0, none⟩)])) ⟨w49.heap.size, 1, none⟩ (w99.heap.size) (.slice aq (cutsK L dir row row.length).length cq1) hne).trans ((heap_setCell_other wS ⟨w49.heap.size, 0, none⟩ (w99.heap.size) (.func (.func 65) #[] #[.pointer (some ⟨rb, 0, none⟩), .pointer (some ⟨wb, 0, none⟩), .pointer (some ⟨lb, 0, none⟩)]) hne).trans hx11)
              have hfar : ∀ b, b ≠ w49.heap.size → b ≠ w99.heap.size → ((wS.setCell ⟨w49.heap.size, 0, none⟩ (.func (.func 65) #[] #[.pointer (some ⟨rb, 0, none⟩), .pointer (some ⟨wb, 0, none⟩), .pointer (some ⟨lb, 0, none⟩)])).setCell ⟨w49.heap.size, 1, none⟩ (.slice aq (cutsK L dir row row.length).length cq1)).heap[b]? = wS.heap[b]? := fun b hb _ => (heap_setCell_other _ ⟨w49.heap.size, 1, none⟩ b _ hb).trans (heap_setCell_other _ ⟨w49.heap.size, 0, none⟩ b _ hb)
              refine hK.out _ _ ((hHeld.setCell (p := ⟨w49.heap.size, 0, none⟩) hzz _).setCell (p := ⟨w49.heap.size, 1, none⟩) hzz _) (fun hHeld => ?_)
              clear hK K
              try simp only [Act.put, List.setIfInBounds_toArray, List.set_cons_zero, List.set_cons_succ]
              try simp only [Act.put, List.setIfInBounds_toArray, List.set_cons_zero, List.set_cons_succ]
              refine wpAnyH_ready (rs := [13]) (by kernel_rfl) (by simp) ?_
              refine AllReadyH.cons (o := { dst := none, op := Go.Op.store 67 (Go.Operand.tmp 15) (Go.Operand.tmp 42), type := 0, pos := "hold.go:93", after := #[{ on := 11, ground := Go.Ground.data }, { on := 9, ground := Go.Ground.data }, { on := 12, ground := Go.Ground.chain }, { on := 0, ground := Go.Ground.phase }, { on := 1, ground := Go.Ground.phase }, { on := 2, ground := Go.Ground.phase }, { on := 3, ground := Go.Ground.phase }, { on := 4, ground := Go.Ground.phase }, { on := 5, ground := Go.Ground.phase }, { on := 6, ground := Go.Ground.phase }, { on := 7, ground := Go.Ground.phase }, { on := 8, ground := Go.Ground.phase }, { on := 9, ground := Go.Ground.phase }, { on := 10, ground := Go.Ground.phase }, { on := 11, ground := Go.Ground.phase }, { on := 12, ground := Go.Ground.phase }], guard := none }) rfl (fun K hK => ?_) AllReadyH.nil
              obtain ⟨wU, hwU⟩ : ∃ wU, (wS.setCell ⟨w49.heap.size, 0, none⟩ (.func (.func 65) #[] #[.pointer (some ⟨rb, 0, none⟩), .pointer (some ⟨wb, 0, none⟩), .pointer (some ⟨lb, 0, none⟩)])).setCell ⟨w49.heap.size, 1, none⟩ (.slice aq (cutsK L dir row row.length).length cq1) = wU := ⟨_, rfl⟩
              rw [hwU] at hHeld e2 e3 hfar ⊢
              clear hwU e1 y0 y1 g0 g1
              have y0 := heapc e3 (i := 0) (v := .nilFunc) rfl
              have y1 := heapc e3 (i := 1) (v := .slice none 0 0) rfl
              have g0 : wU.frozen? ⟨w99.heap.size, 0, none⟩ = false := by simp [World.frozen?, e3]
              have g1 : wU.frozen? ⟨w99.heap.size, 1, none⟩ = false := by simp [World.frozen?, e3]
              have hzz2 : wz.heap.size ≤ w99.heap.size := by first | exact Nat.le_refl _ | omega | (have := hsz4; omega) | (have := hsz4; have := hsz9; omega)
              go_simp
              have f1 := heap_setCell_same wU (w99.heap.size) 0 _ 67 (.func (.func 68) #[] #[.pointer (some ⟨eb, 0, none⟩), .pointer (some ⟨hb8, 0, none⟩), .pointer (some ⟨wb8, 0, none⟩)]) e3
              have f2 := heap_setCell_same _ (w99.heap.size) 1 _ 67 (.slice aq8 (cutsW L q q.length).length cq8) f1
              have f3 := (heap_setCell_other (wU.setCell ⟨w99.heap.size, 0, none⟩ (.func (.func 68) #[] #[.pointer (some ⟨eb, 0, none⟩), .pointer (some ⟨hb8, 0, none⟩), .pointer (some ⟨wb8, 0, none⟩)])) ⟨w99.heap.size, 1, none⟩ (w49.heap.size) (.slice aq8 (cutsW L q q.length).length cq8) hne.symm).trans ((heap_setCell_other wU ⟨w99.heap.size, 0, none⟩ (w49.heap.size) (.func (.func 68) #[] #[.pointer (some ⟨eb, 0, none⟩), .pointer (some ⟨hb8, 0, none⟩), .pointer (some ⟨wb8, 0, none⟩)]) hne.symm).trans e2)
              have hfar2 : ∀ b, b ≠ w49.heap.size → b ≠ w99.heap.size → ((wU.setCell ⟨w99.heap.size, 0, none⟩ (.func (.func 68) #[] #[.pointer (some ⟨eb, 0, none⟩), .pointer (some ⟨hb8, 0, none⟩), .pointer (some ⟨wb8, 0, none⟩)])).setCell ⟨w99.heap.size, 1, none⟩ (.slice aq8 (cutsW L q q.length).length cq8)).heap[b]? = wS.heap[b]? := fun b hb hb2 => ((heap_setCell_other _ ⟨w99.heap.size, 1, none⟩ b _ hb2).trans (heap_setCell_other _ ⟨w99.heap.size, 0, none⟩ b _ hb2)).trans (hfar b hb hb2)
              have HT2 := Lib.hid (HT.out.kept hx10 hx11 hfar2)
              have HW2 := Lib.hid (HW.out.kept hx10 hx11 hfar2)
              refine hK.out _ _ ((hHeld.setCell (p := ⟨w99.heap.size, 0, none⟩) hzz2 _).setCell (p := ⟨w99.heap.size, 1, none⟩) hzz2 _) (fun hHeld => ?_)
              clear hK K
              try simp only [Act.put, List.setIfInBounds_toArray, List.set_cons_zero, List.set_cons_succ]
              refine wpAnyH_done (by kernel_rfl) ?_ _
              try simp only [Act.put, List.setIfInBounds_toArray, List.set_cons_zero, List.set_cons_succ]
              go_wp2_with fail
              go_meet
              exact ⟨w49.heap.size, w99.heap.size, row, ar, cr, rb, wb, lb, aq, cq1, eb, hb8, wb8, aq8, cq8, rfl, rfl, hHeld, HRL, HRN, Lib.hid f3, Lib.hid f2, HT2, HW2⟩
            · go_simp
              have hA0 := hHeld
              refine hK.out _ _ (hHeld.alloc hHeld.size _) (fun hHeld => ?_)
              clear hK K
              try simp only [Act.put, List.setIfInBounds_toArray, List.set_cons_zero, List.set_cons_succ]
              replace hx10 := heap_below hx10 ((Below.refl _ _).alloc (Nat.le_refl _) (.cells #[.nilFunc, .slice none 0 0] 67))
              replace HT := Lib.hid (HT.out.below ((Below.refl _ _).alloc (Nat.le_refl _) (.cells #[.nilFunc, .slice none 0 0] 67)))
              have hx11 : ((w49.alloc (.cells #[.nilFunc, .slice none 0 0] 67)).alloc (.cells #[.nilFunc, .slice none 0 0] 67)).heap[w49.heap.size + 1]? = some (.cells #[.nilFunc, .slice none 0 0] 67 (0, 0)) := by
                have h9 := heap_alloc_new (w49.alloc (.cells #[.nilFunc, .slice none 0 0] 67)) (.cells #[.nilFunc, .slice none 0 0] 67)
                first | exact h9 | simpa using h9
              try simp only [Act.put, List.setIfInBounds_toArray, List.set_cons_zero, List.set_cons_succ]
              refine wpAnyH_ready (rs := [9]) (by kernel_rfl) (by simp) ?_
              refine AllReadyH.cons (o := { dst := some 42, op := Go.Op.call { callee := Go.Callee.value (Go.Operand.func 32), args := #[Go.Operand.tmp 38, Go.Operand.tmp 39, Go.Operand.tmp 40, Go.Operand.tmp 41], argTypes := #[24, 26, 3, 59] }, type := 67, pos := "hold.go:93", after := #[{ on := 5, ground := Go.Ground.data }, { on := 6, ground := Go.Ground.data }, { on := 7, ground := Go.Ground.data }, { on := 8, ground := Go.Ground.data }, { on := 4, ground := Go.Ground.chain }], guard := none }) rfl (fun K hK => ?_) AllReadyH.nil
              go_simp
              go_at_call 32
              refine (HWa.out _ (hbw.trans (hHeld.mono hbw.size))).mono ?_
              rintro e w99 ⟨eb, hb8, wb8, aq8, cq8, k1, k2, k3, k4, rfl, hC, hb99⟩
              have HW : Hid (WMem L ae q cq h tp dir eb hb8 wb8 aq8 w99) := Lib.hid ⟨k1, k2, k3, k4, hC⟩
              replace HT := Lib.hid (HT.out.below hb99)
              clear k1 k2 k3 k4 hC
              replace hx10 := heap_below hx10 hb99
              replace hx11 := heap_below hx11 hb99
              have hsz9 := hHeld.size
              have hsz9 := Nat.le_trans hsz9 hb99.size
              try (have hs10 := (Array.getElem?_eq_some_iff.1 hx10).1)
              try (have hs11 := (Array.getElem?_eq_some_iff.1 hx11).1)
              have hsz49 := hb99.size
              refine hK.out _ _ (hHeld.trans (hb99.mono hHeld.size)) (fun hHeld => ?_)
              clear hK K hb99
              try simp only [Act.put, List.setIfInBounds_toArray, List.set_cons_zero, List.set_cons_succ]
              try simp only [Act.put, List.setIfInBounds_toArray, List.set_cons_zero, List.set_cons_succ]
              refine wpAnyH_ready (rs := [12]) (by kernel_rfl) (by simp) ?_
              refine AllReadyH.cons (o := { dst := none, op := Go.Op.store 67 (Go.Operand.tmp 14) (Go.Operand.tmp 37), type := 0, pos := "hold.go:93", after := #[{ on := 10, ground := Go.Ground.data }, { on := 4, ground := Go.Ground.data }, { on := 9, ground := Go.Ground.chain }, { on := 0, ground := Go.Ground.phase }, { on := 1, ground := Go.Ground.phase }, { on := 2, ground := Go.Ground.phase }, { on := 3, ground := Go.Ground.phase }, { on := 4, ground := Go.Ground.phase }, { on := 5, ground := Go.Ground.textOnly Go.Departure.lateStores }, { on := 6, ground := Go.Ground.textOnly Go.Departure.lateStores }, { on := 7, ground := Go.Ground.textOnly Go.Departure.lateStores }, { on := 8, ground := Go.Ground.textOnly Go.Departure.lateStores }, { on := 9, ground := Go.Ground.textOnly Go.Departure.lateStoresUnsure }, { on := 10, ground := Go.Ground.phase }, { on := 11, ground := Go.Ground.phase }], guard := none }) rfl (fun K hK => ?_) AllReadyH.nil
              obtain ⟨wS, hwS⟩ : ∃ wS, w99 = wS := ⟨_, rfl⟩
              rw [hwS] at hHeld hx10 hx11 HT HW ⊢
              clear hwS
              have y0 := heapc hx10 (i := 0) (v := .nilFunc) rfl
              have y1 := heapc hx10 (i := 1) (v := .slice none 0 0) rfl
              have g0 : wS.frozen? ⟨w49.heap.size, 0, none⟩ = false := by simp [World.frozen?, hx10]
              have g1 : wS.frozen? ⟨w49.heap.size, 1, none⟩ = false := by simp [World.frozen?, hx10]
              have hzz : wz.heap.size ≤ w49.heap.size := by first | exact Nat.le_refl _ | omega | (have := hsz4; omega) | (have := hsz4; have := hsz9; omega)
              go_simp
              have e1 := heap_setCell_same wS (w49.heap.size) 0 _ 67 (.func (.func 65) #[] #[.pointer (some ⟨rb, 0, none⟩), .pointer (some ⟨wb, 0, none⟩), .pointer (some ⟨lb, 0, none⟩)]) hx10
              have e2 := heap_setCell_same _ (w49.heap.size) 1 _ 67 (.slice aq (cutsK L dir row row.length).length cq1) e1
              have hne : w49.heap.size + 1 ≠ w49.heap.size := by first | omega | (have := hsz4; omega) | (have := hsz4; have := hsz9; omega)
              have e3 := (heap_setCell_other (wS.setCell ⟨w49.heap.size, 0, none⟩ (.func (.func 65) #[] #[.pointer (some ⟨rb, 0, none⟩), .pointer (some ⟨wb, 0, none⟩), .pointer (some ⟨lb, 0, none⟩)])) ⟨w49.heap.size, 1, none⟩ (w49.heap.size + 1) (.slice aq (cutsK L dir row row.length).length cq1) hne).trans ((heap_setCell_other wS ⟨w49.heap.size, 0, none⟩ (w49.heap.size + 1) (.func (.func 65) #[] #[.pointer (some ⟨rb, 0, none⟩), .pointer (some ⟨wb, 0, none⟩), .pointer (some ⟨lb, 0, none⟩)]) hne).trans hx11)
              have hfar : ∀ b, b ≠ w49.heap.size → b ≠ w49.heap.size + 1 → ((wS.setCell ⟨w49.heap.size, 0, none⟩ (.func (.func 65) #[] #[.pointer (some ⟨rb, 0, none⟩), .pointer (some ⟨wb, 0, none⟩), .pointer (some ⟨lb, 0, none⟩)])).setCell ⟨w49.heap.size, 1, none⟩ (.slice aq (cutsK L dir row row.length).length cq1)).heap[b]? = wS.heap[b]? := fun b hb _ => (heap_setCell_other _ ⟨w49.heap.size, 1, none⟩ b _ hb).trans (heap_setCell_other _ ⟨w49.heap.size, 0, none⟩ b _ hb)
              refine hK.out _ _ ((hHeld.setCell (p := ⟨w49.heap.size, 0, none⟩) hzz _).setCell (p := ⟨w49.heap.size, 1, none⟩) hzz _) (fun hHeld => ?_)
              clear hK K
              try simp only [Act.put, List.setIfInBounds_toArray, List.set_cons_zero, List.set_cons_succ]
              try simp only [Act.put, List.setIfInBounds_toArray, List.set_cons_zero, List.set_cons_succ]
              refine wpAnyH_ready (rs := [13]) (by kernel_rfl) (by simp) ?_
              refine AllReadyH.cons (o := { dst := none, op := Go.Op.store 67 (Go.Operand.tmp 15) (Go.Operand.tmp 42), type := 0, pos := "hold.go:93", after := #[{ on := 11, ground := Go.Ground.data }, { on := 9, ground := Go.Ground.data }, { on := 12, ground := Go.Ground.chain }, { on := 0, ground := Go.Ground.phase }, { on := 1, ground := Go.Ground.phase }, { on := 2, ground := Go.Ground.phase }, { on := 3, ground := Go.Ground.phase }, { on := 4, ground := Go.Ground.phase }, { on := 5, ground := Go.Ground.phase }, { on := 6, ground := Go.Ground.phase }, { on := 7, ground := Go.Ground.phase }, { on := 8, ground := Go.Ground.phase }, { on := 9, ground := Go.Ground.phase }, { on := 10, ground := Go.Ground.phase }, { on := 11, ground := Go.Ground.phase }, { on := 12, ground := Go.Ground.phase }], guard := none }) rfl (fun K hK => ?_) AllReadyH.nil
              obtain ⟨wU, hwU⟩ : ∃ wU, (wS.setCell ⟨w49.heap.size, 0, none⟩ (.func (.func 65) #[] #[.pointer (some ⟨rb, 0, none⟩), .pointer (some ⟨wb, 0, none⟩), .pointer (some ⟨lb, 0, none⟩)])).setCell ⟨w49.heap.size, 1, none⟩ (.slice aq (cutsK L dir row row.length).length cq1) = wU := ⟨_, rfl⟩
              rw [hwU] at hHeld e2 e3 hfar ⊢
              clear hwU e1 y0 y1 g0 g1
              have y0 := heapc e3 (i := 0) (v := .nilFunc) rfl
              have y1 := heapc e3 (i := 1) (v := .slice none 0 0) rfl
              have g0 : wU.frozen? ⟨w49.heap.size + 1, 0, none⟩ = false := by simp [World.frozen?, e3]
              have g1 : wU.frozen? ⟨w49.heap.size + 1, 1, none⟩ = false := by simp [World.frozen?, e3]
              have hzz2 : wz.heap.size ≤ w49.heap.size + 1 := by first | exact Nat.le_refl _ | omega | (have := hsz4; omega) | (have := hsz4; have := hsz9; omega)
              go_simp
              have f1 := heap_setCell_same wU (w49.heap.size + 1) 0 _ 67 (.func (.func 68) #[] #[.pointer (some ⟨eb, 0, none⟩), .pointer (some ⟨hb8, 0, none⟩), .pointer (some ⟨wb8, 0, none⟩)]) e3
              have f2 := heap_setCell_same _ (w49.heap.size + 1) 1 _ 67 (.slice aq8 (cutsW L q q.length).length cq8) f1
              have f3 := (heap_setCell_other (wU.setCell ⟨w49.heap.size + 1, 0, none⟩ (.func (.func 68) #[] #[.pointer (some ⟨eb, 0, none⟩), .pointer (some ⟨hb8, 0, none⟩), .pointer (some ⟨wb8, 0, none⟩)])) ⟨w49.heap.size + 1, 1, none⟩ (w49.heap.size) (.slice aq8 (cutsW L q q.length).length cq8) hne.symm).trans ((heap_setCell_other wU ⟨w49.heap.size + 1, 0, none⟩ (w49.heap.size) (.func (.func 68) #[] #[.pointer (some ⟨eb, 0, none⟩), .pointer (some ⟨hb8, 0, none⟩), .pointer (some ⟨wb8, 0, none⟩)]) hne.symm).trans e2)
              have hfar2 : ∀ b, b ≠ w49.heap.size → b ≠ w49.heap.size + 1 → ((wU.setCell ⟨w49.heap.size + 1, 0, none⟩ (.func (.func 68) #[] #[.pointer (some ⟨eb, 0, none⟩), .pointer (some ⟨hb8, 0, none⟩), .pointer (some ⟨wb8, 0, none⟩)])).setCell ⟨w49.heap.size + 1, 1, none⟩ (.slice aq8 (cutsW L q q.length).length cq8)).heap[b]? = wS.heap[b]? := fun b hb hb2 => ((heap_setCell_other _ ⟨w49.heap.size + 1, 1, none⟩ b _ hb2).trans (heap_setCell_other _ ⟨w49.heap.size + 1, 0, none⟩ b _ hb2)).trans (hfar b hb hb2)
              have HT2 := Lib.hid (HT.out.kept hx10 hx11 hfar2)
              have HW2 := Lib.hid (HW.out.kept hx10 hx11 hfar2)
              refine hK.out _ _ ((hHeld.setCell (p := ⟨w49.heap.size + 1, 0, none⟩) hzz2 _).setCell (p := ⟨w49.heap.size + 1, 1, none⟩) hzz2 _) (fun hHeld => ?_)
              clear hK K
              try simp only [Act.put, List.setIfInBounds_toArray, List.set_cons_zero, List.set_cons_succ]
              refine wpAnyH_done (by kernel_rfl) ?_ _
              try simp only [Act.put, List.setIfInBounds_toArray, List.set_cons_zero, List.set_cons_succ]
              go_wp2_with fail
              go_meet
              exact ⟨w49.heap.size, w49.heap.size + 1, row, ar, cr, rb, wb, lb, aq, cq1, eb, hb8, wb8, aq8, cq8, rfl, rfl, hHeld, HRL, HRN, Lib.hid f3, Lib.hid f2, HT2, HW2⟩
          · go_simp
            have hA0 := hHeld
            refine hK.out _ _ (hHeld.alloc hHeld.size _) (fun hHeld => ?_)
            clear hK K
            try simp only [Act.put, List.setIfInBounds_toArray, List.set_cons_zero, List.set_cons_succ]
            replace HT := Lib.hid (HT.out.below ((Below.refl _ _).alloc (Nat.le_refl _) (.cells #[.nilFunc, .slice none 0 0] 67)))
            have hx11 : (w49.alloc (.cells #[.nilFunc, .slice none 0 0] 67)).heap[w49.heap.size]? = some (.cells #[.nilFunc, .slice none 0 0] 67 (0, 0)) := by
              have h9 := heap_alloc_new w49 (.cells #[.nilFunc, .slice none 0 0] 67)
              first | exact h9 | simpa using h9
            try simp only [Act.put, List.setIfInBounds_toArray, List.set_cons_zero, List.set_cons_succ]
            refine wpAnyH_ready (rs := [9, 10]) (by kernel_rfl) (by simp) ?_
            refine AllReadyH.cons (o := { dst := some 42, op := Go.Op.call { callee := Go.Callee.value (Go.Operand.func 32), args := #[Go.Operand.tmp 38, Go.Operand.tmp 39, Go.Operand.tmp 40, Go.Operand.tmp 41], argTypes := #[24, 26, 3, 59] }, type := 67, pos := "hold.go:93", after := #[{ on := 5, ground := Go.Ground.data }, { on := 6, ground := Go.Ground.data }, { on := 7, ground := Go.Ground.data }, { on := 8, ground := Go.Ground.data }, { on := 4, ground := Go.Ground.chain }], guard := none }) rfl (fun K hK => ?_) (AllReadyH.cons (o := { dst := some 14, op := Go.Op.alloc 67, type := 0, pos := "hold.go:93", after := #[], guard := none }) rfl (fun K hK => ?_) AllReadyH.nil)
            · go_simp
              go_at_call 32
              refine (HWa.out _ (hbw.trans (hHeld.mono hbw.size))).mono ?_
              rintro e w99 ⟨eb, hb8, wb8, aq8, cq8, k1, k2, k3, k4, rfl, hC, hb99⟩
              have HW : Hid (WMem L ae q cq h tp dir eb hb8 wb8 aq8 w99) := Lib.hid ⟨k1, k2, k3, k4, hC⟩
              replace HT := Lib.hid (HT.out.below hb99)
              clear k1 k2 k3 k4 hC
              replace hx11 := heap_below hx11 hb99
              have hsz9 := hHeld.size
              have hsz9 := Nat.le_trans hsz9 hb99.size
              try (have hs10 := (Array.getElem?_eq_some_iff.1 hx10).1)
              try (have hs11 := (Array.getElem?_eq_some_iff.1 hx11).1)
              have hsz49 := hb99.size
              refine hK.out _ _ (hHeld.trans (hb99.mono hHeld.size)) (fun hHeld => ?_)
              clear hK K hb99
              try simp only [Act.put, List.setIfInBounds_toArray, List.set_cons_zero, List.set_cons_succ]
              try simp only [Act.put, List.setIfInBounds_toArray, List.set_cons_zero, List.set_cons_succ]
              refine wpAnyH_ready (rs := [10]) (by kernel_rfl) (by simp) ?_
              refine AllReadyH.cons (o := { dst := some 14, op := Go.Op.alloc 67, type := 0, pos := "hold.go:93", after := #[], guard := none }) rfl (fun K hK => ?_) AllReadyH.nil
              go_simp
              have hA0 := hHeld
              refine hK.out _ _ (hHeld.alloc hHeld.size _) (fun hHeld => ?_)
              clear hK K
              try simp only [Act.put, List.setIfInBounds_toArray, List.set_cons_zero, List.set_cons_succ]
              replace hx11 := heap_below hx11 ((Below.refl _ _).alloc (Nat.le_refl _) (.cells #[.nilFunc, .slice none 0 0] 67))
              replace HT := Lib.hid (HT.out.below ((Below.refl _ _).alloc (Nat.le_refl _) (.cells #[.nilFunc, .slice none 0 0] 67)))
              replace HW := Lib.hid (HW.out.below ((Below.refl _ _).alloc (Nat.le_refl _) (.cells #[.nilFunc, .slice none 0 0] 67)))
              have hx10 : (w99.alloc (.cells #[.nilFunc, .slice none 0 0] 67)).heap[w99.heap.size]? = some (.cells #[.nilFunc, .slice none 0 0] 67 (0, 0)) := by
                have h9 := heap_alloc_new w99 (.cells #[.nilFunc, .slice none 0 0] 67)
                first | exact h9 | simpa using h9
              try simp only [Act.put, List.setIfInBounds_toArray, List.set_cons_zero, List.set_cons_succ]
              refine wpAnyH_ready (rs := [12]) (by kernel_rfl) (by simp) ?_
              refine AllReadyH.cons (o := { dst := none, op := Go.Op.store 67 (Go.Operand.tmp 14) (Go.Operand.tmp 37), type := 0, pos := "hold.go:93", after := #[{ on := 10, ground := Go.Ground.data }, { on := 4, ground := Go.Ground.data }, { on := 9, ground := Go.Ground.chain }, { on := 0, ground := Go.Ground.phase }, { on := 1, ground := Go.Ground.phase }, { on := 2, ground := Go.Ground.phase }, { on := 3, ground := Go.Ground.phase }, { on := 4, ground := Go.Ground.phase }, { on := 5, ground := Go.Ground.textOnly Go.Departure.lateStores }, { on := 6, ground := Go.Ground.textOnly Go.Departure.lateStores }, { on := 7, ground := Go.Ground.textOnly Go.Departure.lateStores }, { on := 8, ground := Go.Ground.textOnly Go.Departure.lateStores }, { on := 9, ground := Go.Ground.textOnly Go.Departure.lateStoresUnsure }, { on := 10, ground := Go.Ground.phase }, { on := 11, ground := Go.Ground.phase }], guard := none }) rfl (fun K hK => ?_) AllReadyH.nil
              obtain ⟨wS, hwS⟩ : ∃ wS, (w99.alloc (.cells #[.nilFunc, .slice none 0 0] 67)) = wS := ⟨_, rfl⟩
              rw [hwS] at hHeld hx10 hx11 HT HW ⊢
              clear hwS
              have y0 := heapc hx10 (i := 0) (v := .nilFunc) rfl
              have y1 := heapc hx10 (i := 1) (v := .slice none 0 0) rfl
              have g0 : wS.frozen? ⟨w99.heap.size, 0, none⟩ = false := by simp [World.frozen?, hx10]
              have g1 : wS.frozen? ⟨w99.heap.size, 1, none⟩ = false := by simp [World.frozen?, hx10]
              have hzz : wz.heap.size ≤ w99.heap.size := by first | exact Nat.le_refl _ | omega | (have := hsz4; omega) | (have := hsz4; have := hsz9; omega)
              go_simp
              have e1 := heap_setCell_same wS (w99.heap.size) 0 _ 67 (.func (.func 65) #[] #[.pointer (some ⟨rb, 0, none⟩), .pointer (some ⟨wb, 0, none⟩), .pointer (some ⟨lb, 0, none⟩)]) hx10
              have e2 := heap_setCell_same _ (w99.heap.size) 1 _ 67 (.slice aq (cutsK L dir row row.length).length cq1) e1
              have hne : w49.heap.size ≠ w99.heap.size := by first | omega | (have := hsz4; omega) | (have := hsz4; have := hsz9; omega)
              have e3 := (heap_setCell_other (wS.setCell ⟨w99.heap.size, 0, none⟩ (.func (.func 65) #[] #[.pointer (some ⟨rb, 0, none⟩), .pointer (some ⟨wb, 0, none⟩), .pointer (some ⟨lb, 0, none⟩)])) ⟨w99.heap.size, 1, none⟩ (w49.heap.size) (.slice aq (cutsK L dir row row.length).length cq1) hne).trans ((heap_setCell_other wS ⟨w99.heap.size, 0, none⟩ (w49.heap.size) (.func (.func 65) #[] #[.pointer (some ⟨rb, 0, none⟩), .pointer (some ⟨wb, 0, none⟩), .pointer (some ⟨lb, 0, none⟩)]) hne).trans hx11)
              have hfar : ∀ b, b ≠ w99.heap.size → b ≠ w49.heap.size → ((wS.setCell ⟨w99.heap.size, 0, none⟩ (.func (.func 65) #[] #[.pointer (some ⟨rb, 0, none⟩), .pointer (some ⟨wb, 0, none⟩), .pointer (some ⟨lb, 0, none⟩)])).setCell ⟨w99.heap.size, 1, none⟩ (.slice aq (cutsK L dir row row.length).length cq1)).heap[b]? = wS.heap[b]? := fun b hb _ => (heap_setCell_other _ ⟨w99.heap.size, 1, none⟩ b _ hb).trans (heap_setCell_other _ ⟨w99.heap.size, 0, none⟩ b _ hb)
              refine hK.out _ _ ((hHeld.setCell (p := ⟨w99.heap.size, 0, none⟩) hzz _).setCell (p := ⟨w99.heap.size, 1, none⟩) hzz _) (fun hHeld => ?_)
              clear hK K
              try simp only [Act.put, List.setIfInBounds_toArray, List.set_cons_zero, List.set_cons_succ]
              try simp only [Act.put, List.setIfInBounds_toArray, List.set_cons_zero, List.set_cons_succ]
              refine wpAnyH_ready (rs := [13]) (by kernel_rfl) (by simp) ?_
              refine AllReadyH.cons (o := { dst := none, op := Go.Op.store 67 (Go.Operand.tmp 15) (Go.Operand.tmp 42), type := 0, pos := "hold.go:93", after := #[{ on := 11, ground := Go.Ground.data }, { on := 9, ground := Go.Ground.data }, { on := 12, ground := Go.Ground.chain }, { on := 0, ground := Go.Ground.phase }, { on := 1, ground := Go.Ground.phase }, { on := 2, ground := Go.Ground.phase }, { on := 3, ground := Go.Ground.phase }, { on := 4, ground := Go.Ground.phase }, { on := 5, ground := Go.Ground.phase }, { on := 6, ground := Go.Ground.phase }, { on := 7, ground := Go.Ground.phase }, { on := 8, ground := Go.Ground.phase }, { on := 9, ground := Go.Ground.phase }, { on := 10, ground := Go.Ground.phase }, { on := 11, ground := Go.Ground.phase }, { on := 12, ground := Go.Ground.phase }], guard := none }) rfl (fun K hK => ?_) AllReadyH.nil
              obtain ⟨wU, hwU⟩ : ∃ wU, (wS.setCell ⟨w99.heap.size, 0, none⟩ (.func (.func 65) #[] #[.pointer (some ⟨rb, 0, none⟩), .pointer (some ⟨wb, 0, none⟩), .pointer (some ⟨lb, 0, none⟩)])).setCell ⟨w99.heap.size, 1, none⟩ (.slice aq (cutsK L dir row row.length).length cq1) = wU := ⟨_, rfl⟩
              rw [hwU] at hHeld e2 e3 hfar ⊢
              clear hwU e1 y0 y1 g0 g1
              have y0 := heapc e3 (i := 0) (v := .nilFunc) rfl
              have y1 := heapc e3 (i := 1) (v := .slice none 0 0) rfl
              have g0 : wU.frozen? ⟨w49.heap.size, 0, none⟩ = false := by simp [World.frozen?, e3]
              have g1 : wU.frozen? ⟨w49.heap.size, 1, none⟩ = false := by simp [World.frozen?, e3]
              have hzz2 : wz.heap.size ≤ w49.heap.size := by first | exact Nat.le_refl _ | omega | (have := hsz4; omega) | (have := hsz4; have := hsz9; omega)
              go_simp
              have f1 := heap_setCell_same wU (w49.heap.size) 0 _ 67 (.func (.func 68) #[] #[.pointer (some ⟨eb, 0, none⟩), .pointer (some ⟨hb8, 0, none⟩), .pointer (some ⟨wb8, 0, none⟩)]) e3
              have f2 := heap_setCell_same _ (w49.heap.size) 1 _ 67 (.slice aq8 (cutsW L q q.length).length cq8) f1
              have f3 := (heap_setCell_other (wU.setCell ⟨w49.heap.size, 0, none⟩ (.func (.func 68) #[] #[.pointer (some ⟨eb, 0, none⟩), .pointer (some ⟨hb8, 0, none⟩), .pointer (some ⟨wb8, 0, none⟩)])) ⟨w49.heap.size, 1, none⟩ (w99.heap.size) (.slice aq8 (cutsW L q q.length).length cq8) hne.symm).trans ((heap_setCell_other wU ⟨w49.heap.size, 0, none⟩ (w99.heap.size) (.func (.func 68) #[] #[.pointer (some ⟨eb, 0, none⟩), .pointer (some ⟨hb8, 0, none⟩), .pointer (some ⟨wb8, 0, none⟩)]) hne.symm).trans e2)
              have hfar2 : ∀ b, b ≠ w99.heap.size → b ≠ w49.heap.size → ((wU.setCell ⟨w49.heap.size, 0, none⟩ (.func (.func 68) #[] #[.pointer (some ⟨eb, 0, none⟩), .pointer (some ⟨hb8, 0, none⟩), .pointer (some ⟨wb8, 0, none⟩)])).setCell ⟨w49.heap.size, 1, none⟩ (.slice aq8 (cutsW L q q.length).length cq8)).heap[b]? = wS.heap[b]? := fun b hb hb2 => ((heap_setCell_other _ ⟨w49.heap.size, 1, none⟩ b _ hb2).trans (heap_setCell_other _ ⟨w49.heap.size, 0, none⟩ b _ hb2)).trans (hfar b hb hb2)
              have HT2 := Lib.hid (HT.out.kept hx10 hx11 hfar2)
              have HW2 := Lib.hid (HW.out.kept hx10 hx11 hfar2)
              refine hK.out _ _ ((hHeld.setCell (p := ⟨w49.heap.size, 0, none⟩) hzz2 _).setCell (p := ⟨w49.heap.size, 1, none⟩) hzz2 _) (fun hHeld => ?_)
              clear hK K
              try simp only [Act.put, List.setIfInBounds_toArray, List.set_cons_zero, List.set_cons_succ]
              refine wpAnyH_done (by kernel_rfl) ?_ _
              try simp only [Act.put, List.setIfInBounds_toArray, List.set_cons_zero, List.set_cons_succ]
              go_wp2_with fail
              go_meet
              exact ⟨w99.heap.size, w49.heap.size, row, ar, cr, rb, wb, lb, aq, cq1, eb, hb8, wb8, aq8, cq8, rfl, rfl, hHeld, HRL, HRN, Lib.hid f3, Lib.hid f2, HT2, HW2⟩
            · go_simp
              have hA0 := hHeld
              refine hK.out _ _ (hHeld.alloc hHeld.size _) (fun hHeld => ?_)
              clear hK K
              try simp only [Act.put, List.setIfInBounds_toArray, List.set_cons_zero, List.set_cons_succ]
              replace hx11 := heap_below hx11 ((Below.refl _ _).alloc (Nat.le_refl _) (.cells #[.nilFunc, .slice none 0 0] 67))
              replace HT := Lib.hid (HT.out.below ((Below.refl _ _).alloc (Nat.le_refl _) (.cells #[.nilFunc, .slice none 0 0] 67)))
              have hx10 : ((w49.alloc (.cells #[.nilFunc, .slice none 0 0] 67)).alloc (.cells #[.nilFunc, .slice none 0 0] 67)).heap[w49.heap.size + 1]? = some (.cells #[.nilFunc, .slice none 0 0] 67 (0, 0)) := by
                have h9 := heap_alloc_new (w49.alloc (.cells #[.nilFunc, .slice none 0 0] 67)) (.cells #[.nilFunc, .slice none 0 0] 67)
                first | exact h9 | simpa using h9
              try simp only [Act.put, List.setIfInBounds_toArray, List.set_cons_zero, List.set_cons_succ]
              refine wpAnyH_ready (rs := [9]) (by kernel_rfl) (by simp) ?_
              refine AllReadyH.cons (o := { dst := some 42, op := Go.Op.call { callee := Go.Callee.value (Go.Operand.func 32), args := #[Go.Operand.tmp 38, Go.Operand.tmp 39, Go.Operand.tmp 40, Go.Operand.tmp 41], argTypes := #[24, 26, 3, 59] }, type := 67, pos := "hold.go:93", after := #[{ on := 5, ground := Go.Ground.data }, { on := 6, ground := Go.Ground.data }, { on := 7, ground := Go.Ground.data }, { on := 8, ground := Go.Ground.data }, { on := 4, ground := Go.Ground.chain }], guard := none }) rfl (fun K hK => ?_) AllReadyH.nil
              go_simp
              go_at_call 32
              refine (HWa.out _ (hbw.trans (hHeld.mono hbw.size))).mono ?_
              rintro e w99 ⟨eb, hb8, wb8, aq8, cq8, k1, k2, k3, k4, rfl, hC, hb99⟩
              have HW : Hid (WMem L ae q cq h tp dir eb hb8 wb8 aq8 w99) := Lib.hid ⟨k1, k2, k3, k4, hC⟩
              replace HT := Lib.hid (HT.out.below hb99)
              clear k1 k2 k3 k4 hC
              replace hx10 := heap_below hx10 hb99
              replace hx11 := heap_below hx11 hb99
              have hsz9 := hHeld.size
              have hsz9 := Nat.le_trans hsz9 hb99.size
              try (have hs10 := (Array.getElem?_eq_some_iff.1 hx10).1)
              try (have hs11 := (Array.getElem?_eq_some_iff.1 hx11).1)
              have hsz49 := hb99.size
              refine hK.out _ _ (hHeld.trans (hb99.mono hHeld.size)) (fun hHeld => ?_)
              clear hK K hb99
              try simp only [Act.put, List.setIfInBounds_toArray, List.set_cons_zero, List.set_cons_succ]
              try simp only [Act.put, List.setIfInBounds_toArray, List.set_cons_zero, List.set_cons_succ]
              refine wpAnyH_ready (rs := [12]) (by kernel_rfl) (by simp) ?_
              refine AllReadyH.cons (o := { dst := none, op := Go.Op.store 67 (Go.Operand.tmp 14) (Go.Operand.tmp 37), type := 0, pos := "hold.go:93", after := #[{ on := 10, ground := Go.Ground.data }, { on := 4, ground := Go.Ground.data }, { on := 9, ground := Go.Ground.chain }, { on := 0, ground := Go.Ground.phase }, { on := 1, ground := Go.Ground.phase }, { on := 2, ground := Go.Ground.phase }, { on := 3, ground := Go.Ground.phase }, { on := 4, ground := Go.Ground.phase }, { on := 5, ground := Go.Ground.textOnly Go.Departure.lateStores }, { on := 6, ground := Go.Ground.textOnly Go.Departure.lateStores }, { on := 7, ground := Go.Ground.textOnly Go.Departure.lateStores }, { on := 8, ground := Go.Ground.textOnly Go.Departure.lateStores }, { on := 9, ground := Go.Ground.textOnly Go.Departure.lateStoresUnsure }, { on := 10, ground := Go.Ground.phase }, { on := 11, ground := Go.Ground.phase }], guard := none }) rfl (fun K hK => ?_) AllReadyH.nil
              obtain ⟨wS, hwS⟩ : ∃ wS, w99 = wS := ⟨_, rfl⟩
              rw [hwS] at hHeld hx10 hx11 HT HW ⊢
              clear hwS
              have y0 := heapc hx10 (i := 0) (v := .nilFunc) rfl
              have y1 := heapc hx10 (i := 1) (v := .slice none 0 0) rfl
              have g0 : wS.frozen? ⟨w49.heap.size + 1, 0, none⟩ = false := by simp [World.frozen?, hx10]
              have g1 : wS.frozen? ⟨w49.heap.size + 1, 1, none⟩ = false := by simp [World.frozen?, hx10]
              have hzz : wz.heap.size ≤ w49.heap.size + 1 := by first | exact Nat.le_refl _ | omega | (have := hsz4; omega) | (have := hsz4; have := hsz9; omega)
              go_simp
              have e1 := heap_setCell_same wS (w49.heap.size + 1) 0 _ 67 (.func (.func 65) #[] #[.pointer (some ⟨rb, 0, none⟩), .pointer (some ⟨wb, 0, none⟩), .pointer (some ⟨lb, 0, none⟩)]) hx10
              have e2 := heap_setCell_same _ (w49.heap.size + 1) 1 _ 67 (.slice aq (cutsK L dir row row.length).length cq1) e1
              have hne : w49.heap.size ≠ w49.heap.size + 1 := by first | omega | (have := hsz4; omega) | (have := hsz4; have := hsz9; omega)
              have e3 := (heap_setCell_other (wS.setCell ⟨w49.heap.size + 1, 0, none⟩ (.func (.func 65) #[] #[.pointer (some ⟨rb, 0, none⟩), .pointer (some ⟨wb, 0, none⟩), .pointer (some ⟨lb, 0, none⟩)])) ⟨w49.heap.size + 1, 1, none⟩ (w49.heap.size) (.slice aq (cutsK L dir row row.length).length cq1) hne).trans ((heap_setCell_other wS ⟨w49.heap.size + 1, 0, none⟩ (w49.heap.size) (.func (.func 65) #[] #[.pointer (some ⟨rb, 0, none⟩), .pointer (some ⟨wb, 0, none⟩), .pointer (some ⟨lb, 0, none⟩)]) hne).trans hx11)
              have hfar : ∀ b, b ≠ w49.heap.size + 1 → b ≠ w49.heap.size → ((wS.setCell ⟨w49.heap.size + 1, 0, none⟩ (.func (.func 65) #[] #[.pointer (some ⟨rb, 0, none⟩), .pointer (some ⟨wb, 0, none⟩), .pointer (some ⟨lb, 0, none⟩)])).setCell ⟨w49.heap.size + 1, 1, none⟩ (.slice aq (cutsK L dir row row.length).length cq1)).heap[b]? = wS.heap[b]? := fun b hb _ => (heap_setCell_other _ ⟨w49.heap.size + 1, 1, none⟩ b _ hb).trans (heap_setCell_other _ ⟨w49.heap.size + 1, 0, none⟩ b _ hb)
              refine hK.out _ _ ((hHeld.setCell (p := ⟨w49.heap.size + 1, 0, none⟩) hzz _).setCell (p := ⟨w49.heap.size + 1, 1, none⟩) hzz _) (fun hHeld => ?_)
              clear hK K
              try simp only [Act.put, List.setIfInBounds_toArray, List.set_cons_zero, List.set_cons_succ]
              try simp only [Act.put, List.setIfInBounds_toArray, List.set_cons_zero, List.set_cons_succ]
              refine wpAnyH_ready (rs := [13]) (by kernel_rfl) (by simp) ?_
              refine AllReadyH.cons (o := { dst := none, op := Go.Op.store 67 (Go.Operand.tmp 15) (Go.Operand.tmp 42), type := 0, pos := "hold.go:93", after := #[{ on := 11, ground := Go.Ground.data }, { on := 9, ground := Go.Ground.data }, { on := 12, ground := Go.Ground.chain }, { on := 0, ground := Go.Ground.phase }, { on := 1, ground := Go.Ground.phase }, { on := 2, ground := Go.Ground.phase }, { on := 3, ground := Go.Ground.phase }, { on := 4, ground := Go.Ground.phase }, { on := 5, ground := Go.Ground.phase }, { on := 6, ground := Go.Ground.phase }, { on := 7, ground := Go.Ground.phase }, { on := 8, ground := Go.Ground.phase }, { on := 9, ground := Go.Ground.phase }, { on := 10, ground := Go.Ground.phase }, { on := 11, ground := Go.Ground.phase }, { on := 12, ground := Go.Ground.phase }], guard := none }) rfl (fun K hK => ?_) AllReadyH.nil
              obtain ⟨wU, hwU⟩ : ∃ wU, (wS.setCell ⟨w49.heap.size + 1, 0, none⟩ (.func (.func 65) #[] #[.pointer (some ⟨rb, 0, none⟩), .pointer (some ⟨wb, 0, none⟩), .pointer (some ⟨lb, 0, none⟩)])).setCell ⟨w49.heap.size + 1, 1, none⟩ (.slice aq (cutsK L dir row row.length).length cq1) = wU := ⟨_, rfl⟩
              rw [hwU] at hHeld e2 e3 hfar ⊢
              clear hwU e1 y0 y1 g0 g1
              have y0 := heapc e3 (i := 0) (v := .nilFunc) rfl
              have y1 := heapc e3 (i := 1) (v := .slice none 0 0) rfl
              have g0 : wU.frozen? ⟨w49.heap.size, 0, none⟩ = false := by simp [World.frozen?, e3]
              have g1 : wU.frozen? ⟨w49.heap.size, 1, none⟩ = false := by simp [World.frozen?, e3]
              have hzz2 : wz.heap.size ≤ w49.heap.size := by first | exact Nat.le_refl _ | omega | (have := hsz4; omega) | (have := hsz4; have := hsz9; omega)
              go_simp
              have f1 := heap_setCell_same wU (w49.heap.size) 0 _ 67 (.func (.func 68) #[] #[.pointer (some ⟨eb, 0, none⟩), .pointer (some ⟨hb8, 0, none⟩), .pointer (some ⟨wb8, 0, none⟩)]) e3
              have f2 := heap_setCell_same _ (w49.heap.size) 1 _ 67 (.slice aq8 (cutsW L q q.length).length cq8) f1
              have f3 := (heap_setCell_other (wU.setCell ⟨w49.heap.size, 0, none⟩ (.func (.func 68) #[] #[.pointer (some ⟨eb, 0, none⟩), .pointer (some ⟨hb8, 0, none⟩), .pointer (some ⟨wb8, 0, none⟩)])) ⟨w49.heap.size, 1, none⟩ (w49.heap.size + 1) (.slice aq8 (cutsW L q q.length).length cq8) hne.symm).trans ((heap_setCell_other wU ⟨w49.heap.size, 0, none⟩ (w49.heap.size + 1) (.func (.func 68) #[] #[.pointer (some ⟨eb, 0, none⟩), .pointer (some ⟨hb8, 0, none⟩), .pointer (some ⟨wb8, 0, none⟩)]) hne.symm).trans e2)
              have hfar2 : ∀ b, b ≠ w49.heap.size + 1 → b ≠ w49.heap.size → ((wU.setCell ⟨w49.heap.size, 0, none⟩ (.func (.func 68) #[] #[.pointer (some ⟨eb, 0, none⟩), .pointer (some ⟨hb8, 0, none⟩), .pointer (some ⟨wb8, 0, none⟩)])).setCell ⟨w49.heap.size, 1, none⟩ (.slice aq8 (cutsW L q q.length).length cq8)).heap[b]? = wS.heap[b]? := fun b hb hb2 => ((heap_setCell_other _ ⟨w49.heap.size, 1, none⟩ b _ hb2).trans (heap_setCell_other _ ⟨w49.heap.size, 0, none⟩ b _ hb2)).trans (hfar b hb hb2)
              have HT2 := Lib.hid (HT.out.kept hx10 hx11 hfar2)
              have HW2 := Lib.hid (HW.out.kept hx10 hx11 hfar2)
              refine hK.out _ _ ((hHeld.setCell (p := ⟨w49.heap.size, 0, none⟩) hzz2 _).setCell (p := ⟨w49.heap.size, 1, none⟩) hzz2 _) (fun hHeld => ?_)
              clear hK K
              try simp only [Act.put, List.setIfInBounds_toArray, List.set_cons_zero, List.set_cons_succ]
              refine wpAnyH_done (by kernel_rfl) ?_ _
              try simp only [Act.put, List.setIfInBounds_toArray, List.set_cons_zero, List.set_cons_succ]
              go_wp2_with fail
              go_meet
              exact ⟨w49.heap.size + 1, w49.heap.size, row, ar, cr, rb, wb, lb, aq, cq1, eb, hb8, wb8, aq8, cq8, rfl, rfl, hHeld, HRL, HRN, Lib.hid f3, Lib.hid f2, HT2, HW2⟩
        · go_simp
          have hA0 := hHeld
          refine hK.out _ _ (hHeld.alloc hHeld.size _) (fun hHeld => ?_)
          clear hK K
          try simp only [Act.put, List.setIfInBounds_toArray, List.set_cons_zero, List.set_cons_succ]
          have hx10 : (wz.drew.alloc (.cells #[.nilFunc, .slice none 0 0] 67)).heap[wz.heap.size]? = some (.cells #[.nilFunc, .slice none 0 0] 67 (0, 0)) := by
            have h9 := heap_alloc_new wz.drew (.cells #[.nilFunc, .slice none 0 0] 67)
            first | exact h9 | simpa using h9
          try simp only [Act.put, List.setIfInBounds_toArray, List.set_cons_zero, List.set_cons_succ]
          refine wpAnyH_ready (rs := [4, 11]) (by kernel_rfl) (by simp) ?_
          refine AllReadyH.cons (o := { dst := some 37, op := Go.Op.call { callee := Go.Callee.value (Go.Operand.func 31), args := #[Go.Operand.tmp 33, Go.Operand.tmp 34, Go.Operand.tmp 35, Go.Operand.tmp 36], argTypes := #[24, 25, 3, 59] }, type := 67, pos := "hold.go:93", after := #[{ on := 0, ground := Go.Ground.data }, { on := 1, ground := Go.Ground.data }, { on := 2, ground := Go.Ground.data }, { on := 3, ground := Go.Ground.data }], guard := none }) rfl (fun K hK => ?_) (AllReadyH.cons (o := { dst := some 15, op := Go.Op.alloc 67, type := 0, pos := "hold.go:93", after := #[], guard := none }) rfl (fun K hK => ?_) AllReadyH.nil)
          · go_simp
            go_at_call 31
            refine (HTo.out _ (hbw.trans (hHeld.mono hbw.size))).mono ?_
            rintro e w49 ⟨row, ar, cr, rb, wb, lb, aq, cq1, hRL, hrn, hP, k1, k2, k3, k4, k5, rfl, hC, hbd9, hb49⟩
            have HT : Hid (TMem L a js ca dir tp row ar cr rb wb lb aq w49) := Lib.hid ⟨hP, k1, k2, k3, k4, k5, hC⟩
            have HRL := Lib.hid hRL
            have HRN := Lib.hid hrn
            clear hP k1 k2 k3 k4 k5 hC hRL hrn hbd9
            replace hx10 := heap_below hx10 hb49
            have hsz4 := hHeld.size
            have hsz4 := Nat.le_trans hsz4 hb49.size
            try (have hs10 := (Array.getElem?_eq_some_iff.1 hx10).1)
            try (have hs11 := (Array.getElem?_eq_some_iff.1 hx11).1)
            refine hK.out _ _ (hHeld.trans (hb49.mono hHeld.size)) (fun hHeld => ?_)
            clear hK K hb49
            try simp only [Act.put, List.setIfInBounds_toArray, List.set_cons_zero, List.set_cons_succ]
            try simp only [Act.put, List.setIfInBounds_toArray, List.set_cons_zero, List.set_cons_succ]
            refine wpAnyH_ready (rs := [9, 11]) (by kernel_rfl) (by simp) ?_
            refine AllReadyH.cons (o := { dst := some 42, op := Go.Op.call { callee := Go.Callee.value (Go.Operand.func 32), args := #[Go.Operand.tmp 38, Go.Operand.tmp 39, Go.Operand.tmp 40, Go.Operand.tmp 41], argTypes := #[24, 26, 3, 59] }, type := 67, pos := "hold.go:93", after := #[{ on := 5, ground := Go.Ground.data }, { on := 6, ground := Go.Ground.data }, { on := 7, ground := Go.Ground.data }, { on := 8, ground := Go.Ground.data }, { on := 4, ground := Go.Ground.chain }], guard := none }) rfl (fun K hK => ?_) (AllReadyH.cons (o := { dst := some 15, op := Go.Op.alloc 67, type := 0, pos := "hold.go:93", after := #[], guard := none }) rfl (fun K hK => ?_) AllReadyH.nil)
            · go_simp
              go_at_call 32
              refine (HWa.out _ (hbw.trans (hHeld.mono hbw.size))).mono ?_
              rintro e w99 ⟨eb, hb8, wb8, aq8, cq8, k1, k2, k3, k4, rfl, hC, hb99⟩
              have HW : Hid (WMem L ae q cq h tp dir eb hb8 wb8 aq8 w99) := Lib.hid ⟨k1, k2, k3, k4, hC⟩
              replace HT := Lib.hid (HT.out.below hb99)
              clear k1 k2 k3 k4 hC
              replace hx10 := heap_below hx10 hb99
              have hsz9 := hHeld.size
              have hsz9 := Nat.le_trans hsz9 hb99.size
              try (have hs10 := (Array.getElem?_eq_some_iff.1 hx10).1)
              try (have hs11 := (Array.getElem?_eq_some_iff.1 hx11).1)
              have hsz49 := hb99.size
              refine hK.out _ _ (hHeld.trans (hb99.mono hHeld.size)) (fun hHeld => ?_)
              clear hK K hb99
              try simp only [Act.put, List.setIfInBounds_toArray, List.set_cons_zero, List.set_cons_succ]
              try simp only [Act.put, List.setIfInBounds_toArray, List.set_cons_zero, List.set_cons_succ]
              refine wpAnyH_ready (rs := [11]) (by kernel_rfl) (by simp) ?_
              refine AllReadyH.cons (o := { dst := some 15, op := Go.Op.alloc 67, type := 0, pos := "hold.go:93", after := #[], guard := none }) rfl (fun K hK => ?_) AllReadyH.nil
              go_simp
              have hA0 := hHeld
              refine hK.out _ _ (hHeld.alloc hHeld.size _) (fun hHeld => ?_)
              clear hK K
              try simp only [Act.put, List.setIfInBounds_toArray, List.set_cons_zero, List.set_cons_succ]
              replace hx10 := heap_below hx10 ((Below.refl _ _).alloc (Nat.le_refl _) (.cells #[.nilFunc, .slice none 0 0] 67))
              replace HT := Lib.hid (HT.out.below ((Below.refl _ _).alloc (Nat.le_refl _) (.cells #[.nilFunc, .slice none 0 0] 67)))
              replace HW := Lib.hid (HW.out.below ((Below.refl _ _).alloc (Nat.le_refl _) (.cells #[.nilFunc, .slice none 0 0] 67)))
              have hx11 : (w99.alloc (.cells #[.nilFunc, .slice none 0 0] 67)).heap[w99.heap.size]? = some (.cells #[.nilFunc, .slice none 0 0] 67 (0, 0)) := by
                have h9 := heap_alloc_new w99 (.cells #[.nilFunc, .slice none 0 0] 67)
                first | exact h9 | simpa using h9
              try simp only [Act.put, List.setIfInBounds_toArray, List.set_cons_zero, List.set_cons_succ]
              refine wpAnyH_ready (rs := [12]) (by kernel_rfl) (by simp) ?_
              refine AllReadyH.cons (o := { dst := none, op := Go.Op.store 67 (Go.Operand.tmp 14) (Go.Operand.tmp 37), type := 0, pos := "hold.go:93", after := #[{ on := 10, ground := Go.Ground.data }, { on := 4, ground := Go.Ground.data }, { on := 9, ground := Go.Ground.chain }, { on := 0, ground := Go.Ground.phase }, { on := 1, ground := Go.Ground.phase }, { on := 2, ground := Go.Ground.phase }, { on := 3, ground := Go.Ground.phase }, { on := 4, ground := Go.Ground.phase }, { on := 5, ground := Go.Ground.textOnly Go.Departure.lateStores }, { on := 6, ground := Go.Ground.textOnly Go.Departure.lateStores }, { on := 7, ground := Go.Ground.textOnly Go.Departure.lateStores }, { on := 8, ground := Go.Ground.textOnly Go.Departure.lateStores }, { on := 9, ground := Go.Ground.textOnly Go.Departure.lateStoresUnsure }, { on := 10, ground := Go.Ground.phase }, { on := 11, ground := Go.Ground.phase }], guard := none }) rfl (fun K hK => ?_) AllReadyH.nil
              obtain ⟨wS, hwS⟩ : ∃ wS, (w99.alloc (.cells #[.nilFunc, .slice none 0 0] 67)) = wS := ⟨_, rfl⟩
              rw [hwS] at hHeld hx10 hx11 HT HW ⊢
              clear hwS
              have y0 := heapc hx10 (i := 0) (v := .nilFunc) rfl
              have y1 := heapc hx10 (i := 1) (v := .slice none 0 0) rfl
              have g0 : wS.frozen? ⟨wz.heap.size, 0, none⟩ = false := by simp [World.frozen?, hx10]
              have g1 : wS.frozen? ⟨wz.heap.size, 1, none⟩ = false := by simp [World.frozen?, hx10]
              have hzz : wz.heap.size ≤ wz.heap.size := by first | exact Nat.le_refl _ | omega | (have := hsz4; omega) | (have := hsz4; have := hsz9; omega)
              go_simp
              have e1 := heap_setCell_same wS (wz.heap.size) 0 _ 67 (.func (.func 65) #[] #[.pointer (some ⟨rb, 0, none⟩), .pointer (some ⟨wb, 0, none⟩), .pointer (some ⟨lb, 0, none⟩)]) hx10
              have e2 := heap_setCell_same _ (wz.heap.size) 1 _ 67 (.slice aq (cutsK L dir row row.length).length cq1) e1
              have hne : w99.heap.size ≠ wz.heap.size := by first | omega | (have := hsz4; omega) | (have := hsz4; have := hsz9; omega)
              have e3 := (heap_setCell_other (wS.setCell ⟨wz.heap.size, 0, none⟩ (.func (.func 65) #[] #[.pointer (some ⟨rb, 0, none⟩), .pointer (some ⟨wb, 0, none⟩), .pointer (some ⟨lb, 0, none⟩)])) ⟨wz.heap.size, 1, none⟩ (w99.heap.size) (.slice aq (cutsK L dir row row.length).length cq1) hne).trans ((heap_setCell_other wS ⟨wz.heap.size, 0, none⟩ (w99.heap.size) (.func (.func 65) #[] #[.pointer (some ⟨rb, 0, none⟩), .pointer (some ⟨wb, 0, none⟩), .pointer (some ⟨lb, 0, none⟩)]) hne).trans hx11)
              have hfar : ∀ b, b ≠ wz.heap.size → b ≠ w99.heap.size → ((wS.setCell ⟨wz.heap.size, 0, none⟩ (.func (.func 65) #[] #[.pointer (some ⟨rb, 0, none⟩), .pointer (some ⟨wb, 0, none⟩), .pointer (some ⟨lb, 0, none⟩)])).setCell ⟨wz.heap.size, 1, none⟩ (.slice aq (cutsK L dir row row.length).length cq1)).heap[b]? = wS.heap[b]? := fun b hb _ => (heap_setCell_other _ ⟨wz.heap.size, 1, none⟩ b _ hb).trans (heap_setCell_other _ ⟨wz.heap.size, 0, none⟩ b _ hb)
              refine hK.out _ _ ((hHeld.setCell (p := ⟨wz.heap.size, 0, none⟩) hzz _).setCell (p := ⟨wz.heap.size, 1, none⟩) hzz _) (fun hHeld => ?_)
              clear hK K
              try simp only [Act.put, List.setIfInBounds_toArray, List.set_cons_zero, List.set_cons_succ]
              try simp only [Act.put, List.setIfInBounds_toArray, List.set_cons_zero, List.set_cons_succ]
              refine wpAnyH_ready (rs := [13]) (by kernel_rfl) (by simp) ?_
              refine AllReadyH.cons (o := { dst := none, op := Go.Op.store 67 (Go.Operand.tmp 15) (Go.Operand.tmp 42), type := 0, pos := "hold.go:93", after := #[{ on := 11, ground := Go.Ground.data }, { on := 9, ground := Go.Ground.data }, { on := 12, ground := Go.Ground.chain }, { on := 0, ground := Go.Ground.phase }, { on := 1, ground := Go.Ground.phase }, { on := 2, ground := Go.Ground.phase }, { on := 3, ground := Go.Ground.phase }, { on := 4, ground := Go.Ground.phase }, { on := 5, ground := Go.Ground.phase }, { on := 6, ground := Go.Ground.phase }, { on := 7, ground := Go.Ground.phase }, { on := 8, ground := Go.Ground.phase }, { on := 9, ground := Go.Ground.phase }, { on := 10, ground := Go.Ground.phase }, { on := 11, ground := Go.Ground.phase }, { on := 12, ground := Go.Ground.phase }], guard := none }) rfl (fun K hK => ?_) AllReadyH.nil
              obtain ⟨wU, hwU⟩ : ∃ wU, (wS.setCell ⟨wz.heap.size, 0, none⟩ (.func (.func 65) #[] #[.pointer (some ⟨rb, 0, none⟩), .pointer (some ⟨wb, 0, none⟩), .pointer (some ⟨lb, 0, none⟩)])).setCell ⟨wz.heap.size, 1, none⟩ (.slice aq (cutsK L dir row row.length).length cq1) = wU := ⟨_, rfl⟩
              rw [hwU] at hHeld e2 e3 hfar ⊢
              clear hwU e1 y0 y1 g0 g1
              have y0 := heapc e3 (i := 0) (v := .nilFunc) rfl
              have y1 := heapc e3 (i := 1) (v := .slice none 0 0) rfl
              have g0 : wU.frozen? ⟨w99.heap.size, 0, none⟩ = false := by simp [World.frozen?, e3]
              have g1 : wU.frozen? ⟨w99.heap.size, 1, none⟩ = false := by simp [World.frozen?, e3]
              have hzz2 : wz.heap.size ≤ w99.heap.size := by first | exact Nat.le_refl _ | omega | (have := hsz4; omega) | (have := hsz4; have := hsz9; omega)
              go_simp
              have f1 := heap_setCell_same wU (w99.heap.size) 0 _ 67 (.func (.func 68) #[] #[.pointer (some ⟨eb, 0, none⟩), .pointer (some ⟨hb8, 0, none⟩), .pointer (some ⟨wb8, 0, none⟩)]) e3
              have f2 := heap_setCell_same _ (w99.heap.size) 1 _ 67 (.slice aq8 (cutsW L q q.length).length cq8) f1
              have f3 := (heap_setCell_other (wU.setCell ⟨w99.heap.size, 0, none⟩ (.func (.func 68) #[] #[.pointer (some ⟨eb, 0, none⟩), .pointer (some ⟨hb8, 0, none⟩), .pointer (some ⟨wb8, 0, none⟩)])) ⟨w99.heap.size, 1, none⟩ (wz.heap.size) (.slice aq8 (cutsW L q q.length).length cq8) hne.symm).trans ((heap_setCell_other wU ⟨w99.heap.size, 0, none⟩ (wz.heap.size) (.func (.func 68) #[] #[.pointer (some ⟨eb, 0, none⟩), .pointer (some ⟨hb8, 0, none⟩), .pointer (some ⟨wb8, 0, none⟩)]) hne.symm).trans e2)
              have hfar2 : ∀ b, b ≠ wz.heap.size → b ≠ w99.heap.size → ((wU.setCell ⟨w99.heap.size, 0, none⟩ (.func (.func 68) #[] #[.pointer (some ⟨eb, 0, none⟩), .pointer (some ⟨hb8, 0, none⟩), .pointer (some ⟨wb8, 0, none⟩)])).setCell ⟨w99.heap.size, 1, none⟩ (.slice aq8 (cutsW L q q.length).length cq8)).heap[b]? = wS.heap[b]? := fun b hb hb2 => ((heap_setCell_other _ ⟨w99.heap.size, 1, none⟩ b _ hb2).trans (heap_setCell_other _ ⟨w99.heap.size, 0, none⟩ b _ hb2)).trans (hfar b hb hb2)
              have HT2 := Lib.hid (HT.out.kept hx10 hx11 hfar2)
              have HW2 := Lib.hid (HW.out.kept hx10 hx11 hfar2)
              refine hK.out _ _ ((hHeld.setCell (p := ⟨w99.heap.size, 0, none⟩) hzz2 _).setCell (p := ⟨w99.heap.size, 1, none⟩) hzz2 _) (fun hHeld => ?_)
              clear hK K
              try simp only [Act.put, List.setIfInBounds_toArray, List.set_cons_zero, List.set_cons_succ]
              refine wpAnyH_done (by kernel_rfl) ?_ _
              try simp only [Act.put, List.setIfInBounds_toArray, List.set_cons_zero, List.set_cons_succ]
              go_wp2_with fail
              go_meet
              exact ⟨wz.heap.size, w99.heap.size, row, ar, cr, rb, wb, lb, aq, cq1, eb, hb8, wb8, aq8, cq8, rfl, rfl, hHeld, HRL, HRN, Lib.hid f3, Lib.hid f2, HT2, HW2⟩
            · go_simp
              have hA0 := hHeld
              refine hK.out _ _ (hHeld.alloc hHeld.size _) (fun hHeld => ?_)
              clear hK K
              try simp only [Act.put, List.setIfInBounds_toArray, List.set_cons_zero, List.set_cons_succ]
              replace hx10 := heap_below hx10 ((Below.refl _ _).alloc (Nat.le_refl _) (.cells #[.nilFunc, .slice none 0 0] 67))
              replace HT := Lib.hid (HT.out.below ((Below.refl _ _).alloc (Nat.le_refl _) (.cells #[.nilFunc, .slice none 0 0] 67)))
              have hx11 : (w49.alloc (.cells #[.nilFunc, .slice none 0 0] 67)).heap[w49.heap.size]? = some (.cells #[.nilFunc, .slice none 0 0] 67 (0, 0)) := by
                have h9 := heap_alloc_new w49 (.cells #[.nilFunc, .slice none 0 0] 67)
                first | exact h9 | simpa using h9
              try simp only [Act.put, List.setIfInBounds_toArray, List.set_cons_zero, List.set_cons_succ]
              refine wpAnyH_ready (rs := [9]) (by kernel_rfl) (by simp) ?_
              refine AllReadyH.cons (o := { dst := some 42, op := Go.Op.call { callee := Go.Callee.value (Go.Operand.func 32), args := #[Go.Operand.tmp 38, Go.Operand.tmp 39, Go.Operand.tmp 40, Go.Operand.tmp 41], argTypes := #[24, 26, 3, 59] }, type := 67, pos := "hold.go:93", after := #[{ on := 5, ground := Go.Ground.data }, { on := 6, ground := Go.Ground.data }, { on := 7, ground := Go.Ground.data }, { on := 8, ground := Go.Ground.data }, { on := 4, ground := Go.Ground.chain }], guard := none }) rfl (fun K hK => ?_) AllReadyH.nil
              go_simp
              go_at_call 32
              refine (HWa.out _ (hbw.trans (hHeld.mono hbw.size))).mono ?_
              rintro e w99 ⟨eb, hb8, wb8, aq8, cq8, k1, k2, k3, k4, rfl, hC, hb99⟩
              have HW : Hid (WMem L ae q cq h tp dir eb hb8 wb8 aq8 w99) := Lib.hid ⟨k1, k2, k3, k4, hC⟩
              replace HT := Lib.hid (HT.out.below hb99)
              clear k1 k2 k3 k4 hC
              replace hx10 := heap_below hx10 hb99
              replace hx11 := heap_below hx11 hb99
              have hsz9 := hHeld.size
              have hsz9 := Nat.le_trans hsz9 hb99.size
              try (have hs10 := (Array.getElem?_eq_some_iff.1 hx10).1)
              try (have hs11 := (Array.getElem?_eq_some_iff.1 hx11).1)
              have hsz49 := hb99.size
              refine hK.out _ _ (hHeld.trans (hb99.mono hHeld.size)) (fun hHeld => ?_)
              clear hK K hb99
              try simp only [Act.put, List.setIfInBounds_toArray, List.set_cons_zero, List.set_cons_succ]
              try simp only [Act.put, List.setIfInBounds_toArray, List.set_cons_zero, List.set_cons_succ]
              refine wpAnyH_ready (rs := [12]) (by kernel_rfl) (by simp) ?_
              refine AllReadyH.cons (o := { dst := none, op := Go.Op.store 67 (Go.Operand.tmp 14) (Go.Operand.tmp 37), type := 0, pos := "hold.go:93", after := #[{ on := 10, ground := Go.Ground.data }, { on := 4, ground := Go.Ground.data }, { on := 9, ground := Go.Ground.chain }, { on := 0, ground := Go.Ground.phase }, { on := 1, ground := Go.Ground.phase }, { on := 2, ground := Go.Ground.phase }, { on := 3, ground := Go.Ground.phase }, { on := 4, ground := Go.Ground.phase }, { on := 5, ground := Go.Ground.textOnly Go.Departure.lateStores }, { on := 6, ground := Go.Ground.textOnly Go.Departure.lateStores }, { on := 7, ground := Go.Ground.textOnly Go.Departure.lateStores }, { on := 8, ground := Go.Ground.textOnly Go.Departure.lateStores }, { on := 9, ground := Go.Ground.textOnly Go.Departure.lateStoresUnsure }, { on := 10, ground := Go.Ground.phase }, { on := 11, ground := Go.Ground.phase }], guard := none }) rfl (fun K hK => ?_) AllReadyH.nil
              obtain ⟨wS, hwS⟩ : ∃ wS, w99 = wS := ⟨_, rfl⟩
              rw [hwS] at hHeld hx10 hx11 HT HW ⊢
              clear hwS
              have y0 := heapc hx10 (i := 0) (v := .nilFunc) rfl
              have y1 := heapc hx10 (i := 1) (v := .slice none 0 0) rfl
              have g0 : wS.frozen? ⟨wz.heap.size, 0, none⟩ = false := by simp [World.frozen?, hx10]
              have g1 : wS.frozen? ⟨wz.heap.size, 1, none⟩ = false := by simp [World.frozen?, hx10]
              have hzz : wz.heap.size ≤ wz.heap.size := by first | exact Nat.le_refl _ | omega | (have := hsz4; omega) | (have := hsz4; have := hsz9; omega)
              go_simp
              have e1 := heap_setCell_same wS (wz.heap.size) 0 _ 67 (.func (.func 65) #[] #[.pointer (some ⟨rb, 0, none⟩), .pointer (some ⟨wb, 0, none⟩), .pointer (some ⟨lb, 0, none⟩)]) hx10
              have e2 := heap_setCell_same _ (wz.heap.size) 1 _ 67 (.slice aq (cutsK L dir row row.length).length cq1) e1
              have hne : w49.heap.size ≠ wz.heap.size := by first | omega | (have := hsz4; omega) | (have := hsz4; have := hsz9; omega)
              have e3 := (heap_setCell_other (wS.setCell ⟨wz.heap.size, 0, none⟩ (.func (.func 65) #[] #[.pointer (some ⟨rb, 0, none⟩), .pointer (some ⟨wb, 0, none⟩), .pointer (some ⟨lb, 0, none⟩)])) ⟨wz.heap.size, 1, none⟩ (w49.heap.size) (.slice aq (cutsK L dir row row.length).length cq1) hne).trans ((heap_setCell_other wS ⟨wz.heap.size, 0, none⟩ (w49.heap.size) (.func (.func 65) #[] #[.pointer (some ⟨rb, 0, none⟩), .pointer (some ⟨wb, 0, none⟩), .pointer (some ⟨lb, 0, none⟩)]) hne).trans hx11)
              have hfar : ∀ b, b ≠ wz.heap.size → b ≠ w49.heap.size → ((wS.setCell ⟨wz.heap.size, 0, none⟩ (.func (.func 65) #[] #[.pointer (some ⟨rb, 0, none⟩), .pointer (some ⟨wb, 0, none⟩), .pointer (some ⟨lb, 0, none⟩)])).setCell ⟨wz.heap.size, 1, none⟩ (.slice aq (cutsK L dir row row.length).length cq1)).heap[b]? = wS.heap[b]? := fun b hb _ => (heap_setCell_other _ ⟨wz.heap.size, 1, none⟩ b _ hb).trans (heap_setCell_other _ ⟨wz.heap.size, 0, none⟩ b _ hb)
              refine hK.out _ _ ((hHeld.setCell (p := ⟨wz.heap.size, 0, none⟩) hzz _).setCell (p := ⟨wz.heap.size, 1, none⟩) hzz _) (fun hHeld => ?_)
              clear hK K
              try simp only [Act.put, List.setIfInBounds_toArray, List.set_cons_zero, List.set_cons_succ]
              try simp only [Act.put, List.setIfInBounds_toArray, List.set_cons_zero, List.set_cons_succ]
              refine wpAnyH_ready (rs := [13]) (by kernel_rfl) (by simp) ?_
              refine AllReadyH.cons (o := { dst := none, op := Go.Op.store 67 (Go.Operand.tmp 15) (Go.Operand.tmp 42), type := 0, pos := "hold.go:93", after := #[{ on := 11, ground := Go.Ground.data }, { on := 9, ground := Go.Ground.data }, { on := 12, ground := Go.Ground.chain }, { on := 0, ground := Go.Ground.phase }, { on := 1, ground := Go.Ground.phase }, { on := 2, ground := Go.Ground.phase }, { on := 3, ground := Go.Ground.phase }, { on := 4, ground := Go.Ground.phase }, { on := 5, ground := Go.Ground.phase }, { on := 6, ground := Go.Ground.phase }, { on := 7, ground := Go.Ground.phase }, { on := 8, ground := Go.Ground.phase }, { on := 9, ground := Go.Ground.phase }, { on := 10, ground := Go.Ground.phase }, { on := 11, ground := Go.Ground.phase }, { on := 12, ground := Go.Ground.phase }], guard := none }) rfl (fun K hK => ?_) AllReadyH.nil
              obtain ⟨wU, hwU⟩ : ∃ wU, (wS.setCell ⟨wz.heap.size, 0, none⟩ (.func (.func 65) #[] #[.pointer (some ⟨rb, 0, none⟩), .pointer (some ⟨wb, 0, none⟩), .pointer (some ⟨lb, 0, none⟩)])).setCell ⟨wz.heap.size, 1, none⟩ (.slice aq (cutsK L dir row row.length).length cq1) = wU := ⟨_, rfl⟩
              rw [hwU] at hHeld e2 e3 hfar ⊢
              clear hwU e1 y0 y1 g0 g1
              have y0 := heapc e3 (i := 0) (v := .nilFunc) rfl
              have y1 := heapc e3 (i := 1) (v := .slice none 0 0) rfl
              have g0 : wU.frozen? ⟨w49.heap.size, 0, none⟩ = false := by simp [World.frozen?, e3]
              have g1 : wU.frozen? ⟨w49.heap.size, 1, none⟩ = false := by simp [World.frozen?, e3]
              have hzz2 : wz.heap.size ≤ w49.heap.size := by first | exact Nat.le_refl _ | omega | (have := hsz4; omega) | (have := hsz4; have := hsz9; omega)
              go_simp
              have f1 := heap_setCell_same wU (w49.heap.size) 0 _ 67 (.func (.func 68) #[] #[.pointer (some ⟨eb, 0, none⟩), .pointer (some ⟨hb8, 0, none⟩), .pointer (some ⟨wb8, 0, none⟩)]) e3
              have f2 := heap_setCell_same _ (w49.heap.size) 1 _ 67 (.slice aq8 (cutsW L q q.length).length cq8) f1
              have f3 := (heap_setCell_other (wU.setCell ⟨w49.heap.size, 0, none⟩ (.func (.func 68) #[] #[.pointer (some ⟨eb, 0, none⟩), .pointer (some ⟨hb8, 0, none⟩), .pointer (some ⟨wb8, 0, none⟩)])) ⟨w49.heap.size, 1, none⟩ (wz.heap.size) (.slice aq8 (cutsW L q q.length).length cq8) hne.symm).trans ((heap_setCell_other wU ⟨w49.heap.size, 0, none⟩ (wz.heap.size) (.func (.func 68) #[] #[.pointer (some ⟨eb, 0, none⟩), .pointer (some ⟨hb8, 0, none⟩), .pointer (some ⟨wb8, 0, none⟩)]) hne.symm).trans e2)
              have hfar2 : ∀ b, b ≠ wz.heap.size → b ≠ w49.heap.size → ((wU.setCell ⟨w49.heap.size, 0, none⟩ (.func (.func 68) #[] #[.pointer (some ⟨eb, 0, none⟩), .pointer (some ⟨hb8, 0, none⟩), .pointer (some ⟨wb8, 0, none⟩)])).setCell ⟨w49.heap.size, 1, none⟩ (.slice aq8 (cutsW L q q.length).length cq8)).heap[b]? = wS.heap[b]? := fun b hb hb2 => ((heap_setCell_other _ ⟨w49.heap.size, 1, none⟩ b _ hb2).trans (heap_setCell_other _ ⟨w49.heap.size, 0, none⟩ b _ hb2)).trans (hfar b hb hb2)
              have HT2 := Lib.hid (HT.out.kept hx10 hx11 hfar2)
              have HW2 := Lib.hid (HW.out.kept hx10 hx11 hfar2)
              refine hK.out _ _ ((hHeld.setCell (p := ⟨w49.heap.size, 0, none⟩) hzz2 _).setCell (p := ⟨w49.heap.size, 1, none⟩) hzz2 _) (fun hHeld => ?_)
              clear hK K
              try simp only [Act.put, List.setIfInBounds_toArray, List.set_cons_zero, List.set_cons_succ]
              refine wpAnyH_done (by kernel_rfl) ?_ _
              try simp only [Act.put, List.setIfInBounds_toArray, List.set_cons_zero, List.set_cons_succ]
              go_wp2_with fail
              go_meet
              exact ⟨wz.heap.size, w49.heap.size, row, ar, cr, rb, wb, lb, aq, cq1, eb, hb8, wb8, aq8, cq8, rfl, rfl, hHeld, HRL, HRN, Lib.hid f3, Lib.hid f2, HT2, HW2⟩
          · go_simp
            have hA0 := hHeld
            refine hK.out _ _ (hHeld.alloc hHeld.size _) (fun hHeld => ?_)
            clear hK K
            try simp only [Act.put, List.setIfInBounds_toArray, List.set_cons_zero, List.set_cons_succ]
            replace hx10 := heap_below hx10 ((Below.refl _ _).alloc (Nat.le_refl _) (.cells #[.nilFunc, .slice none 0 0] 67))
            have hx11 : ((wz.drew.alloc (.cells #[.nilFunc, .slice none 0 0] 67)).alloc (.cells #[.nilFunc, .slice none 0 0] 67)).heap[wz.heap.size + 1]? = some (.cells #[.nilFunc, .slice none 0 0] 67 (0, 0)) := by
              have h9 := heap_alloc_new (wz.drew.alloc (.cells #[.nilFunc, .slice none 0 0] 67)) (.cells #[.nilFunc, .slice none 0 0] 67)
              first | exact h9 | simpa using h9
            try simp only [Act.put, List.setIfInBounds_toArray, List.set_cons_zero, List.set_cons_succ]
            refine wpAnyH_ready (rs := [4]) (by kernel_rfl) (by simp) ?_
            refine AllReadyH.cons (o := { dst := some 37, op := Go.Op.call { callee := Go.Callee.value (Go.Operand.func 31), args := #[Go.Operand.tmp 33, Go.Operand.tmp 34, Go.Operand.tmp 35, Go.Operand.tmp 36], argTypes := #[24, 25, 3, 59] }, type := 67, pos := "hold.go:93", after := #[{ on := 0, ground := Go.Ground.data }, { on := 1, ground := Go.Ground.data }, { on := 2, ground := Go.Ground.data }, { on := 3, ground := Go.Ground.data }], guard := none }) rfl (fun K hK => ?_) AllReadyH.nil
            go_simp
            go_at_call 31
            refine (HTo.out _ (hbw.trans (hHeld.mono hbw.size))).mono ?_
            rintro e w49 ⟨row, ar, cr, rb, wb, lb, aq, cq1, hRL, hrn, hP, k1, k2, k3, k4, k5, rfl, hC, hbd9, hb49⟩
            have HT : Hid (TMem L a js ca dir tp row ar cr rb wb lb aq w49) := Lib.hid ⟨hP, k1, k2, k3, k4, k5, hC⟩
            have HRL := Lib.hid hRL
            have HRN := Lib.hid hrn
            clear hP k1 k2 k3 k4 k5 hC hRL hrn hbd9
            replace hx10 := heap_below hx10 hb49
            replace hx11 := heap_below hx11 hb49
            have hsz4 := hHeld.size
            have hsz4 := Nat.le_trans hsz4 hb49.size
            try (have hs10 := (Array.getElem?_eq_some_iff.1 hx10).1)
            try (have hs11 := (Array.getElem?_eq_some_iff.1 hx11).1)
            refine hK.out _ _ (hHeld.trans (hb49.mono hHeld.size)) (fun hHeld => ?_)
            clear hK K hb49
            try simp only [Act.put, List.setIfInBounds_toArray, List.set_cons_zero, List.set_cons_succ]
            try simp only [Act.put, List.setIfInBounds_toArray, List.set_cons_zero, List.set_cons_succ]
            refine wpAnyH_ready (rs := [9]) (by kernel_rfl) (by simp) ?_
            refine AllReadyH.cons (o := { dst := some 42, op := Go.Op.call { callee := Go.Callee.value (Go.Operand.func 32), args := #[Go.Operand.tmp 38, Go.Operand.tmp 39, Go.Operand.tmp 40, Go.Operand.tmp 41], argTypes := #[24, 26, 3, 59] }, type := 67, pos := "hold.go:93", after := #[{ on := 5, ground := Go.Ground.data }, { on := 6, ground := Go.Ground.data }, { on := 7, ground := Go.Ground.data }, { on := 8, ground := Go.Ground.data }, { on := 4, ground := Go.Ground.chain }], guard := none }) rfl (fun K hK => ?_) AllReadyH.nil
            go_simp
            go_at_call 32
            refine (HWa.out _ (hbw.trans (hHeld.mono hbw.size))).mono ?_
            rintro e w99 ⟨eb, hb8, wb8, aq8, cq8, k1, k2, k3, k4, rfl, hC, hb99⟩
            have HW : Hid (WMem L ae q cq h tp dir eb hb8 wb8 aq8 w99) := Lib.hid ⟨k1, k2, k3, k4, hC⟩
            replace HT := Lib.hid (HT.out.below hb99)
            clear k1 k2 k3 k4 hC
            replace hx10 := heap_below hx10 hb99
            replace hx11 := heap_below hx11 hb99
            have hsz9 := hHeld.size
            have hsz9 := Nat.le_trans hsz9 hb99.size
            try (have hs10 := (Array.getElem?_eq_some_iff.1 hx10).1)
            try (have hs11 := (Array.getElem?_eq_some_iff.1 hx11).1)
            have hsz49 := hb99.size
            refine hK.out _ _ (hHeld.trans (hb99.mono hHeld.size)) (fun hHeld => ?_)
            clear hK K hb99
            try simp only [Act.put, List.setIfInBounds_toArray, List.set_cons_zero, List.set_cons_succ]
            try simp only [Act.put, List.setIfInBounds_toArray, List.set_cons_zero, List.set_cons_succ]
            refine wpAnyH_ready (rs := [12]) (by kernel_rfl) (by simp) ?_
            refine AllReadyH.cons (o := { dst := none, op := Go.Op.store 67 (Go.Operand.tmp 14) (Go.Operand.tmp 37), type := 0, pos := "hold.go:93", after := #[{ on := 10, ground := Go.Ground.data }, { on := 4, ground := Go.Ground.data }, { on := 9, ground := Go.Ground.chain }, { on := 0, ground := Go.Ground.phase }, { on := 1, ground := Go.Ground.phase }, { on := 2, ground := Go.Ground.phase }, { on := 3, ground := Go.Ground.phase }, { on := 4, ground := Go.Ground.phase }, { on := 5, ground := Go.Ground.textOnly Go.Departure.lateStores }, { on := 6, ground := Go.Ground.textOnly Go.Departure.lateStores }, { on := 7, ground := Go.Ground.textOnly Go.Departure.lateStores }, { on := 8, ground := Go.Ground.textOnly Go.Departure.lateStores }, { on := 9, ground := Go.Ground.textOnly Go.Departure.lateStoresUnsure }, { on := 10, ground := Go.Ground.phase }, { on := 11, ground := Go.Ground.phase }], guard := none }) rfl (fun K hK => ?_) AllReadyH.nil
            obtain ⟨wS, hwS⟩ : ∃ wS, w99 = wS := ⟨_, rfl⟩
            rw [hwS] at hHeld hx10 hx11 HT HW ⊢
            clear hwS
            have y0 := heapc hx10 (i := 0) (v := .nilFunc) rfl
            have y1 := heapc hx10 (i := 1) (v := .slice none 0 0) rfl
            have g0 : wS.frozen? ⟨wz.heap.size, 0, none⟩ = false := by simp [World.frozen?, hx10]
            have g1 : wS.frozen? ⟨wz.heap.size, 1, none⟩ = false := by simp [World.frozen?, hx10]
            have hzz : wz.heap.size ≤ wz.heap.size := by first | exact Nat.le_refl _ | omega | (have := hsz4; omega) | (have := hsz4; have := hsz9; omega)
            go_simp
            have e1 := heap_setCell_same wS (wz.heap.size) 0 _ 67 (.func (.func 65) #[] #[.pointer (some ⟨rb, 0, none⟩), .pointer (some ⟨wb, 0, none⟩), .pointer (some ⟨lb, 0, none⟩)]) hx10
            have e2 := heap_setCell_same _ (wz.heap.size) 1 _ 67 (.slice aq (cutsK L dir row row.length).length cq1) e1
            have hne : wz.heap.size + 1 ≠ wz.heap.size := by first | omega | (have := hsz4; omega) | (have := hsz4; have := hsz9; omega)
            have e3 := (heap_setCell_other (wS.setCell ⟨wz.heap.size, 0, none⟩ (.func (.func 65) #[] #[.pointer (some ⟨rb, 0, none⟩), .pointer (some ⟨wb, 0, none⟩), .pointer (some ⟨lb, 0, none⟩)])) ⟨wz.heap.size, 1, none⟩ (wz.heap.size + 1) (.slice aq (cutsK L dir row row.length).length cq1) hne).trans ((heap_setCell_other wS ⟨wz.heap.size, 0, none⟩ (wz.heap.size + 1) (.func (.func 65) #[] #[.pointer (some ⟨rb, 0, none⟩), .pointer (some ⟨wb, 0, none⟩), .pointer (some ⟨lb, 0, none⟩)]) hne).trans hx11)
            have hfar : ∀ b, b ≠ wz.heap.size → b ≠ wz.heap.size + 1 → ((wS.setCell ⟨wz.heap.size, 0, none⟩ (.func (.func 65) #[] #[.pointer (some ⟨rb, 0, none⟩), .pointer (some ⟨wb, 0, none⟩), .pointer (some ⟨lb, 0, none⟩)])).setCell ⟨wz.heap.size, 1, none⟩ (.slice aq (cutsK L dir row row.length).length cq1)).heap[b]? = wS.heap[b]? := fun b hb _ => (heap_setCell_other _ ⟨wz.heap.size, 1, none⟩ b _ hb).trans (heap_setCell_other _ ⟨wz.heap.size, 0, none⟩ b _ hb)
            refine hK.out _ _ ((hHeld.setCell (p := ⟨wz.heap.size, 0, none⟩) hzz _).setCell (p := ⟨wz.heap.size, 1, none⟩) hzz _) (fun hHeld => ?_)
            clear hK K
            try simp only [Act.put, List.setIfInBounds_toArray, List.set_cons_zero, List.set_cons_succ]
            try simp only [Act.put, List.setIfInBounds_toArray, List.set_cons_zero, List.set_cons_succ]
            refine wpAnyH_ready (rs := [13]) (by kernel_rfl) (by simp) ?_
            refine AllReadyH.cons (o := { dst := none, op := Go.Op.store 67 (Go.Operand.tmp 15) (Go.Operand.tmp 42), type := 0, pos := "hold.go:93", after := #[{ on := 11, ground := Go.Ground.data }, { on := 9, ground := Go.Ground.data }, { on := 12, ground := Go.Ground.chain }, { on := 0, ground := Go.Ground.phase }, { on := 1, ground := Go.Ground.phase }, { on := 2, ground := Go.Ground.phase }, { on := 3, ground := Go.Ground.phase }, { on := 4, ground := Go.Ground.phase }, { on := 5, ground := Go.Ground.phase }, { on := 6, ground := Go.Ground.phase }, { on := 7, ground := Go.Ground.phase }, { on := 8, ground := Go.Ground.phase }, { on := 9, ground := Go.Ground.phase }, { on := 10, ground := Go.Ground.phase }, { on := 11, ground := Go.Ground.phase }, { on := 12, ground := Go.Ground.phase }], guard := none }) rfl (fun K hK => ?_) AllReadyH.nil
            obtain ⟨wU, hwU⟩ : ∃ wU, (wS.setCell ⟨wz.heap.size, 0, none⟩ (.func (.func 65) #[] #[.pointer (some ⟨rb, 0, none⟩), .pointer (some ⟨wb, 0, none⟩), .pointer (some ⟨lb, 0, none⟩)])).setCell ⟨wz.heap.size, 1, none⟩ (.slice aq (cutsK L dir row row.length).length cq1) = wU := ⟨_, rfl⟩
            rw [hwU] at hHeld e2 e3 hfar ⊢
            clear hwU e1 y0 y1 g0 g1
            have y0 := heapc e3 (i := 0) (v := .nilFunc) rfl
            have y1 := heapc e3 (i := 1) (v := .slice none 0 0) rfl
            have g0 : wU.frozen? ⟨wz.heap.size + 1, 0, none⟩ = false := by simp [World.frozen?, e3]
            have g1 : wU.frozen? ⟨wz.heap.size + 1, 1, none⟩ = false := by simp [World.frozen?, e3]
            have hzz2 : wz.heap.size ≤ wz.heap.size + 1 := by first | exact Nat.le_refl _ | omega | (have := hsz4; omega) | (have := hsz4; have := hsz9; omega)
            go_simp
            have f1 := heap_setCell_same wU (wz.heap.size + 1) 0 _ 67 (.func (.func 68) #[] #[.pointer (some ⟨eb, 0, none⟩), .pointer (some ⟨hb8, 0, none⟩), .pointer (some ⟨wb8, 0, none⟩)]) e3
            have f2 := heap_setCell_same _ (wz.heap.size + 1) 1 _ 67 (.slice aq8 (cutsW L q q.length).length cq8) f1
            have f3 := (heap_setCell_other (wU.setCell ⟨wz.heap.size + 1, 0, none⟩ (.func (.func 68) #[] #[.pointer (some ⟨eb, 0, none⟩), .pointer (some ⟨hb8, 0, none⟩), .pointer (some ⟨wb8, 0, none⟩)])) ⟨wz.heap.size + 1, 1, none⟩ (wz.heap.size) (.slice aq8 (cutsW L q q.length).length cq8) hne.symm).trans ((heap_setCell_other wU ⟨wz.heap.size + 1, 0, none⟩ (wz.heap.size) (.func (.func 68) #[] #[.pointer (some ⟨eb, 0, none⟩), .pointer (some ⟨hb8, 0, none⟩), .pointer (some ⟨wb8, 0, none⟩)]) hne.symm).trans e2)
            have hfar2 : ∀ b, b ≠ wz.heap.size → b ≠ wz.heap.size + 1 → ((wU.setCell ⟨wz.heap.size + 1, 0, none⟩ (.func (.func 68) #[] #[.pointer (some ⟨eb, 0, none⟩), .pointer (some ⟨hb8, 0, none⟩), .pointer (some ⟨wb8, 0, none⟩)])).setCell ⟨wz.heap.size + 1, 1, none⟩ (.slice aq8 (cutsW L q q.length).length cq8)).heap[b]? = wS.heap[b]? := fun b hb hb2 => ((heap_setCell_other _ ⟨wz.heap.size + 1, 1, none⟩ b _ hb2).trans (heap_setCell_other _ ⟨wz.heap.size + 1, 0, none⟩ b _ hb2)).trans (hfar b hb hb2)
            have HT2 := Lib.hid (HT.out.kept hx10 hx11 hfar2)
            have HW2 := Lib.hid (HW.out.kept hx10 hx11 hfar2)
            refine hK.out _ _ ((hHeld.setCell (p := ⟨wz.heap.size + 1, 0, none⟩) hzz2 _).setCell (p := ⟨wz.heap.size + 1, 1, none⟩) hzz2 _) (fun hHeld => ?_)
            clear hK K
            try simp only [Act.put, List.setIfInBounds_toArray, List.set_cons_zero, List.set_cons_succ]
            refine wpAnyH_done (by kernel_rfl) ?_ _
            try simp only [Act.put, List.setIfInBounds_toArray, List.set_cons_zero, List.set_cons_succ]
            go_wp2_with fail
            go_meet
            exact ⟨wz.heap.size, wz.heap.size + 1, row, ar, cr, rb, wb, lb, aq, cq1, eb, hb8, wb8, aq8, cq8, rfl, rfl, hHeld, HRL, HRN, Lib.hid f3, Lib.hid f2, HT2, HW2⟩
        · go_simp
          have hA0 := hHeld
          refine hK.out _ _ (hHeld.alloc hHeld.size _) (fun hHeld => ?_)
          clear hK K
          try simp only [Act.put, List.setIfInBounds_toArray, List.set_cons_zero, List.set_cons_succ]
          have hx11 : (wz.drew.alloc (.cells #[.nilFunc, .slice none 0 0] 67)).heap[wz.heap.size]? = some (.cells #[.nilFunc, .slice none 0 0] 67 (0, 0)) := by
            have h9 := heap_alloc_new wz.drew (.cells #[.nilFunc, .slice none 0 0] 67)
            first | exact h9 | simpa using h9
          try simp only [Act.put, List.setIfInBounds_toArray, List.set_cons_zero, List.set_cons_succ]
          refine wpAnyH_ready (rs := [4, 10]) (by kernel_rfl) (by simp) ?_
          refine AllReadyH.cons (o := { dst := some 37, op := Go.Op.call { callee := Go.Callee.value (Go.Operand.func 31), args := #[Go.Operand.tmp 33, Go.Operand.tmp 34, Go.Operand.tmp 35, Go.Operand.tmp 36], argTypes := #[24, 25, 3, 59] }, type := 67, pos := "hold.go:93", after := #[{ on := 0, ground := Go.Ground.data }, { on := 1, ground := Go.Ground.data }, { on := 2, ground := Go.Ground.data }, { on := 3, ground := Go.Ground.data }], guard := none }) rfl (fun K hK => ?_) (AllReadyH.cons (o := { dst := some 14, op := Go.Op.alloc 67, type := 0, pos := "hold.go:93", after := #[], guard := none }) rfl (fun K hK => ?_) AllReadyH.nil)
          · go_simp
            go_at_call 31
            refine (HTo.out _ (hbw.trans (hHeld.mono hbw.size))).mono ?_
            rintro e w49 ⟨row, ar, cr, rb, wb, lb, aq, cq1, hRL, hrn, hP, k1, k2, k3, k4, k5, rfl, hC, hbd9, hb49⟩
            have HT : Hid (TMem L a js ca dir tp row ar cr rb wb lb aq w49) := Lib.hid ⟨hP, k1, k2, k3, k4, k5, hC⟩
            have HRL := Lib.hid hRL
            have HRN := Lib.hid hrn
            clear hP k1 k2 k3 k4 k5 hC hRL hrn hbd9
            replace hx11 := heap_below hx11 hb49
            have hsz4 := hHeld.size
            have hsz4 := Nat.le_trans hsz4 hb49.size
            try (have hs10 := (Array.getElem?_eq_some_iff.1 hx10).1)
            try (have hs11 := (Array.getElem?_eq_some_iff.1 hx11).1)
            refine hK.out _ _ (hHeld.trans (hb49.mono hHeld.size)) (fun hHeld => ?_)
            clear hK K hb49
            try simp only [Act.put, List.setIfInBounds_toArray, List.set_cons_zero, List.set_cons_succ]
            try simp only [Act.put, List.setIfInBounds_toArray, List.set_cons_zero, List.set_cons_succ]
            refine wpAnyH_ready (rs := [9, 10]) (by kernel_rfl) (by simp) ?_
            refine AllReadyH.cons (o := { dst := some 42, op := Go.Op.call { callee := Go.Callee.value (Go.Operand.func 32), args := #[Go.Operand.tmp 38, Go.Operand.tmp 39, Go.Operand.tmp 40, Go.Operand.tmp 41], argTypes := #[24, 26, 3, 59] }, type := 67, pos := "hold.go:93", after := #[{ on := 5, ground := Go.Ground.data }, { on := 6, ground := Go.Ground.data }, { on := 7, ground := Go.Ground.data }, { on := 8, ground := Go.Ground.data }, { on := 4, ground := Go.Ground.chain }], guard := none }) rfl (fun K hK => ?_) (AllReadyH.cons (o := { dst := some 14, op := Go.Op.alloc 67, type := 0, pos := "hold.go:93", after := #[], guard := none }) rfl (fun K hK => ?_) AllReadyH.nil)
            · go_simp
              go_at_call 32
              refine (HWa.out _ (hbw.trans (hHeld.mono hbw.size))).mono ?_
              rintro e w99 ⟨eb, hb8, wb8, aq8, cq8, k1, k2, k3, k4, rfl, hC, hb99⟩
              have HW : Hid (WMem L ae q cq h tp dir eb hb8 wb8 aq8 w99) := Lib.hid ⟨k1, k2, k3, k4, hC⟩
              replace HT := Lib.hid (HT.out.below hb99)
              clear k1 k2 k3 k4 hC
              replace hx11 := heap_below hx11 hb99
              have hsz9 := hHeld.size
              have hsz9 := Nat.le_trans hsz9 hb99.size
              try (have hs10 := (Array.getElem?_eq_some_iff.1 hx10).1)
              try (have hs11 := (Array.getElem?_eq_some_iff.1 hx11).1)
              have hsz49 := hb99.size
              refine hK.out _ _ (hHeld.trans (hb99.mono hHeld.size)) (fun hHeld => ?_)
              clear hK K hb99
              try simp only [Act.put, List.setIfInBounds_toArray, List.set_cons_zero, List.set_cons_succ]
              try simp only [Act.put, List.setIfInBounds_toArray, List.set_cons_zero, List.set_cons_succ]
              refine wpAnyH_ready (rs := [10]) (by kernel_rfl) (by simp) ?_
              refine AllReadyH.cons (o := { dst := some 14, op := Go.Op.alloc 67, type := 0, pos := "hold.go:93", after := #[], guard := none }) rfl (fun K hK => ?_) AllReadyH.nil
              go_simp
              have hA0 := hHeld
              refine hK.out _ _ (hHeld.alloc hHeld.size _) (fun hHeld => ?_)
              clear hK K
              try simp only [Act.put, List.setIfInBounds_toArray, List.set_cons_zero, List.set_cons_succ]
              replace hx11 := heap_below hx11 ((Below.refl _ _).alloc (Nat.le_refl _) (.cells #[.nilFunc, .slice none 0 0] 67))
              replace HT := Lib.hid (HT.out.below ((Below.refl _ _).alloc (Nat.le_refl _) (.cells #[.nilFunc, .slice none 0 0] 67)))
              replace HW := Lib.hid (HW.out.below ((Below.refl _ _).alloc (Nat.le_refl _) (.cells #[.nilFunc, .slice none 0 0] 67)))
              have hx10 : (w99.alloc (.cells #[.nilFunc, .slice none 0 0] 67)).heap[w99.heap.size]? = some (.cells #[.nilFunc, .slice none 0 0] 67 (0, 0)) := by
                have h9 := heap_alloc_new w99 (.cells #[.nilFunc, .slice none 0 0] 67)
                first | exact h9 | simpa using h9
              try simp only [Act.put, List.setIfInBounds_toArray, List.set_cons_zero, List.set_cons_succ]
              refine wpAnyH_ready (rs := [12]) (by kernel_rfl) (by simp) ?_
              refine AllReadyH.cons (o := { dst := none, op := Go.Op.store 67 (Go.Operand.tmp 14) (Go.Operand.tmp 37), type := 0, pos := "hold.go:93", after := #[{ on := 10, ground := Go.Ground.data }, { on := 4, ground := Go.Ground.data }, { on := 9, ground := Go.Ground.chain }, { on := 0, ground := Go.Ground.phase }, { on := 1, ground := Go.Ground.phase }, { on := 2, ground := Go.Ground.phase }, { on := 3, ground := Go.Ground.phase }, { on := 4, ground := Go.Ground.phase }, { on := 5, ground := Go.Ground.textOnly Go.Departure.lateStores }, { on := 6, ground := Go.Ground.textOnly Go.Departure.lateStores }, { on := 7, ground := Go.Ground.textOnly Go.Departure.lateStores }, { on := 8, ground := Go.Ground.textOnly Go.Departure.lateStores }, { on := 9, ground := Go.Ground.textOnly Go.Departure.lateStoresUnsure }, { on := 10, ground := Go.Ground.phase }, { on := 11, ground := Go.Ground.phase }], guard := none }) rfl (fun K hK => ?_) AllReadyH.nil
              obtain ⟨wS, hwS⟩ : ∃ wS, (w99.alloc (.cells #[.nilFunc, .slice none 0 0] 67)) = wS := ⟨_, rfl⟩
              rw [hwS] at hHeld hx10 hx11 HT HW ⊢
              clear hwS
              have y0 := heapc hx10 (i := 0) (v := .nilFunc) rfl
              have y1 := heapc hx10 (i := 1) (v := .slice none 0 0) rfl
              have g0 : wS.frozen? ⟨w99.heap.size, 0, none⟩ = false := by simp [World.frozen?, hx10]
              have g1 : wS.frozen? ⟨w99.heap.size, 1, none⟩ = false := by simp [World.frozen?, hx10]
              have hzz : wz.heap.size ≤ w99.heap.size := by first | exact Nat.le_refl _ | omega | (have := hsz4; omega) | (have := hsz4; have := hsz9; omega)
              go_simp
              have e1 := heap_setCell_same wS (w99.heap.size) 0 _ 67 (.func (.func 65) #[] #[.pointer (some ⟨rb, 0, none⟩), .pointer (some ⟨wb, 0, none⟩), .pointer (some ⟨lb, 0, none⟩)]) hx10
              have e2 := heap_setCell_same _ (w99.heap.size) 1 _ 67 (.slice aq (cutsK L dir row row.length).length cq1) e1
              have hne : wz.heap.size ≠ w99.heap.size := by first | omega | (have := hsz4; omega) | (have := hsz4; have := hsz9; omega)
              have e3 := (heap_setCell_other (wS.setCell ⟨w99.heap.size, 0, none⟩ (.func (.func 65) #[] #[.pointer (some ⟨rb, 0, none⟩), .pointer (some ⟨wb, 0, none⟩), .pointer (some ⟨lb, 0, none⟩)])) ⟨w99.heap.size, 1, none⟩ (wz.heap.size) (.slice aq (cutsK L dir row row.length).length cq1) hne).trans ((heap_setCell_other wS ⟨w99.heap.size, 0, none⟩ (wz.heap.size) (.func (.func 65) #[] #[.pointer (some ⟨rb, 0, none⟩), .pointer (some ⟨wb, 0, none⟩), .pointer (some ⟨lb, 0, none⟩)]) hne).trans hx11)
              have hfar : ∀ b, b ≠ w99.heap.size → b ≠ wz.heap.size → ((wS.setCell ⟨w99.heap.size, 0, none⟩ (.func (.func 65) #[] #[.pointer (some ⟨rb, 0, none⟩), .pointer (some ⟨wb, 0, none⟩), .pointer (some ⟨lb, 0, none⟩)])).setCell ⟨w99.heap.size, 1, none⟩ (.slice aq (cutsK L dir row row.length).length cq1)).heap[b]? = wS.heap[b]? := fun b hb _ => (heap_setCell_other _ ⟨w99.heap.size, 1, none⟩ b _ hb).trans (heap_setCell_other _ ⟨w99.heap.size, 0, none⟩ b _ hb)
              refine hK.out _ _ ((hHeld.setCell (p := ⟨w99.heap.size, 0, none⟩) hzz _).setCell (p := ⟨w99.heap.size, 1, none⟩) hzz _) (fun hHeld => ?_)
              clear hK K
              try simp only [Act.put, List.setIfInBounds_toArray, List.set_cons_zero, List.set_cons_succ]
              try simp only [Act.put, List.setIfInBounds_toArray, List.set_cons_zero, List.set_cons_succ]
              refine wpAnyH_ready (rs := [13]) (by kernel_rfl) (by simp) ?_
              refine AllReadyH.cons (o := { dst := none, op := Go.Op.store 67 (Go.Operand.tmp 15) (Go.Operand.tmp 42), type := 0, pos := "hold.go:93", after := #[{ on := 11, ground := Go.Ground.data }, { on := 9, ground := Go.Ground.data }, { on := 12, ground := Go.Ground.chain }, { on := 0, ground := Go.Ground.phase }, { on := 1, ground := Go.Ground.phase }, { on := 2, ground := Go.Ground.phase }, { on := 3, ground := Go.Ground.phase }, { on := 4, ground := Go.Ground.phase }, { on := 5, ground := Go.Ground.phase }, { on := 6, ground := Go.Ground.phase }, { on := 7, ground := Go.Ground.phase }, { on := 8, ground := Go.Ground.phase }, { on := 9, ground := Go.Ground.phase }, { on := 10, ground := Go.Ground.phase }, { on := 11, ground := Go.Ground.phase }, { on := 12, ground := Go.Ground.phase }], guard := none }) rfl (fun K hK => ?_) AllReadyH.nil
              obtain ⟨wU, hwU⟩ : ∃ wU, (wS.setCell ⟨w99.heap.size, 0, none⟩ (.func (.func 65) #[] #[.pointer (some ⟨rb, 0, none⟩), .pointer (some ⟨wb, 0, none⟩), .pointer (some ⟨lb, 0, none⟩)])).setCell ⟨w99.heap.size, 1, none⟩ (.slice aq (cutsK L dir row row.length).length cq1) = wU := ⟨_, rfl⟩
              rw [hwU] at hHeld e2 e3 hfar ⊢
              clear hwU e1 y0 y1 g0 g1
              have y0 := heapc e3 (i := 0) (v := .nilFunc) rfl
              have y1 := heapc e3 (i := 1) (v := .slice none 0 0) rfl
              have g0 : wU.frozen? ⟨wz.heap.size, 0, none⟩ = false := by simp [World.frozen?, e3]
              have g1 : wU.frozen? ⟨wz.heap.size, 1, none⟩ = false := by simp [World.frozen?, e3]
              have hzz2 : wz.heap.size ≤ wz.heap.size := by first | exact Nat.le_refl _ | omega | (have := hsz4; omega) | (have := hsz4; have := hsz9; omega)
              go_simp
              have f1 := heap_setCell_same wU (wz.heap.size) 0 _ 67 (.func (.func 68) #[] #[.pointer (some ⟨eb, 0, none⟩), .pointer (some ⟨hb8, 0, none⟩), .pointer (some ⟨wb8, 0, none⟩)]) e3
              have f2 := heap_setCell_same _ (wz.heap.size) 1 _ 67 (.slice aq8 (cutsW L q q.length).length cq8) f1
              have f3 := (heap_setCell_other (wU.setCell ⟨wz.heap.size, 0, none⟩ (.func (.func 68) #[] #[.pointer (some ⟨eb, 0, none⟩), .pointer (some ⟨hb8, 0, none⟩), .pointer (some ⟨wb8, 0, none⟩)])) ⟨wz.heap.size, 1, none⟩ (w99.heap.size) (.slice aq8 (cutsW L q q.length).length cq8) hne.symm).trans ((heap_setCell_other wU ⟨wz.heap.size, 0, none⟩ (w99.heap.size) (.func (.func 68) #[] #[.pointer (some ⟨eb, 0, none⟩), .pointer (some ⟨hb8, 0, none⟩), .pointer (some ⟨wb8, 0, none⟩)]) hne.symm).trans e2)
              have hfar2 : ∀ b, b ≠ w99.heap.size → b ≠ wz.heap.size → ((wU.setCell ⟨wz.heap.size, 0, none⟩ (.func (.func 68) #[] #[.pointer (some ⟨eb, 0, none⟩), .pointer (some ⟨hb8, 0, none⟩), .pointer (some ⟨wb8, 0, none⟩)])).setCell ⟨wz.heap.size, 1, none⟩ (.slice aq8 (cutsW L q q.length).length cq8)).heap[b]? = wS.heap[b]? := fun b hb hb2 => ((heap_setCell_other _ ⟨wz.heap.size, 1, none⟩ b _ hb2).trans (heap_setCell_other _ ⟨wz.heap.size, 0, none⟩ b _ hb2)).trans (hfar b hb hb2)
              have HT2 := Lib.hid (HT.out.kept hx10 hx11 hfar2)
              have HW2 := Lib.hid (HW.out.kept hx10 hx11 hfar2)
              refine hK.out _ _ ((hHeld.setCell (p := ⟨wz.heap.size, 0, none⟩) hzz2 _).setCell (p := ⟨wz.heap.size, 1, none⟩) hzz2 _) (fun hHeld => ?_)
              clear hK K
              try simp only [Act.put, List.setIfInBounds_toArray, List.set_cons_zero, List.set_cons_succ]
              refine wpAnyH_done (by kernel_rfl) ?_ _
              try simp only [Act.put, List.setIfInBounds_toArray, List.set_cons_zero, List.set_cons_succ]
              go_wp2_with fail
              go_meet
              exact ⟨w99.heap.size, wz.heap.size, row, ar, cr, rb, wb, lb, aq, cq1, eb, hb8, wb8, aq8, cq8, rfl, rfl, hHeld, HRL, HRN, Lib.hid f3, Lib.hid f2, HT2, HW2⟩
            · go_simp
              have hA0 := hHeld
              refine hK.out _ _ (hHeld.alloc hHeld.size _) (fun hHeld => ?_)
              clear hK K
              try simp only [Act.put, List.setIfInBounds_toArray, List.set_cons_zero, List.set_cons_succ]
              replace hx11 := heap_below hx11 ((Below.refl _ _).alloc (Nat.le_refl _) (.cells #[.nilFunc, .slice none 0 0] 67))
              replace HT := Lib.hid (HT.out.below ((Below.refl _ _).alloc (Nat.le_refl _) (.cells #[.nilFunc, .slice none 0 0] 67)))
              have hx10 : (w49.alloc (.cells #[.nilFunc, .slice none 0 0] 67)).heap[w49.heap.size]? = some (.cells #[.nilFunc, .slice none 0 0] 67 (0, 0)) := by
                have h9 := heap_alloc_new w49 (.cells #[.nilFunc, .slice none 0 0] 67)
                first | exact h9 | simpa using h9
              try simp only [Act.put, List.setIfInBounds_toArray, List.set_cons_zero, List.set_cons_succ]
              refine wpAnyH_ready (rs := [9]) (by kernel_rfl) (by simp) ?_
              refine AllReadyH.cons (o := { dst := some 42, op := Go.Op.call { callee := Go.Callee.value (Go.Operand.func 32), args := #[Go.Operand.tmp 38, Go.Operand.tmp 39, Go.Operand.tmp 40, Go.Operand.tmp 41], argTypes := #[24, 26, 3, 59] }, type := 67, pos := "hold.go:93", after := #[{ on := 5, ground := Go.Ground.data }, { on := 6, ground := Go.Ground.data }, { on := 7, ground := Go.Ground.data }, { on := 8, ground := Go.Ground.data }, { on := 4, ground := Go.Ground.chain }], guard := none }) rfl (fun K hK => ?_) AllReadyH.nil
              go_simp
              go_at_call 32
              refine (HWa.out _ (hbw.trans (hHeld.mono hbw.size))).mono ?_
              rintro e w99 ⟨eb, hb8, wb8, aq8, cq8, k1, k2, k3, k4, rfl, hC, hb99⟩
              have HW : Hid (WMem L ae q cq h tp dir eb hb8 wb8 aq8 w99) := Lib.hid ⟨k1, k2, k3, k4, hC⟩
              replace HT := Lib.hid (HT.out.below hb99)
              clear k1 k2 k3 k4 hC
              replace hx10 := heap_below hx10 hb99
              replace hx11 := heap_below hx11 hb99
              have hsz9 := hHeld.size
              have hsz9 := Nat.le_trans hsz9 hb99.size
              try (have hs10 := (Array.getElem?_eq_some_iff.1 hx10).1)
              try (have hs11 := (Array.getElem?_eq_some_iff.1 hx11).1)
              have hsz49 := hb99.size
              refine hK.out _ _ (hHeld.trans (hb99.mono hHeld.size)) (fun hHeld => ?_)
              clear hK K hb99
              try simp only [Act.put, List.setIfInBounds_toArray, List.set_cons_zero, List.set_cons_succ]
              try simp only [Act.put, List.setIfInBounds_toArray, List.set_cons_zero, List.set_cons_succ]
              refine wpAnyH_ready (rs := [12]) (by kernel_rfl) (by simp) ?_
              refine AllReadyH.cons (o := { dst := none, op := Go.Op.store 67 (Go.Operand.tmp 14) (Go.Operand.tmp 37), type := 0, pos := "hold.go:93", after := #[{ on := 10, ground := Go.Ground.data }, { on := 4, ground := Go.Ground.data }, { on := 9, ground := Go.Ground.chain }, { on := 0, ground := Go.Ground.phase }, { on := 1, ground := Go.Ground.phase }, { on := 2, ground := Go.Ground.phase }, { on := 3, ground := Go.Ground.phase }, { on := 4, ground := Go.Ground.phase }, { on := 5, ground := Go.Ground.textOnly Go.Departure.lateStores }, { on := 6, ground := Go.Ground.textOnly Go.Departure.lateStores }, { on := 7, ground := Go.Ground.textOnly Go.Departure.lateStores }, { on := 8, ground := Go.Ground.textOnly Go.Departure.lateStores }, { on := 9, ground := Go.Ground.textOnly Go.Departure.lateStoresUnsure }, { on := 10, ground := Go.Ground.phase }, { on := 11, ground := Go.Ground.phase }], guard := none }) rfl (fun K hK => ?_) AllReadyH.nil
              obtain ⟨wS, hwS⟩ : ∃ wS, w99 = wS := ⟨_, rfl⟩
              rw [hwS] at hHeld hx10 hx11 HT HW ⊢
              clear hwS
              have y0 := heapc hx10 (i := 0) (v := .nilFunc) rfl
              have y1 := heapc hx10 (i := 1) (v := .slice none 0 0) rfl
              have g0 : wS.frozen? ⟨w49.heap.size, 0, none⟩ = false := by simp [World.frozen?, hx10]
              have g1 : wS.frozen? ⟨w49.heap.size, 1, none⟩ = false := by simp [World.frozen?, hx10]
              have hzz : wz.heap.size ≤ w49.heap.size := by first | exact Nat.le_refl _ | omega | (have := hsz4; omega) | (have := hsz4; have := hsz9; omega)
              go_simp
              have e1 := heap_setCell_same wS (w49.heap.size) 0 _ 67 (.func (.func 65) #[] #[.pointer (some ⟨rb, 0, none⟩), .pointer (some ⟨wb, 0, none⟩), .pointer (some ⟨lb, 0, none⟩)]) hx10
              have e2 := heap_setCell_same _ (w49.heap.size) 1 _ 67 (.slice aq (cutsK L dir row row.length).length cq1) e1
              have hne : wz.heap.size ≠ w49.heap.size := by first | omega | (have := hsz4; omega) | (have := hsz4; have := hsz9; omega)
              have e3 := (heap_setCell_other (wS.setCell ⟨w49.heap.size, 0, none⟩ (.func (.func 65) #[] #[.pointer (some ⟨rb, 0, none⟩), .pointer (some ⟨wb, 0, none⟩), .pointer (some ⟨lb, 0, none⟩)])) ⟨w49.heap.size, 1, none⟩ (wz.heap.size) (.slice aq (cutsK L dir row row.length).length cq1) hne).trans ((heap_setCell_other wS ⟨w49.heap.size, 0, none⟩ (wz.heap.size) (.func (.func 65) #[] #[.pointer (some ⟨rb, 0, none⟩), .pointer (some ⟨wb, 0, none⟩), .pointer (some ⟨lb, 0, none⟩)]) hne).trans hx11)
              have hfar : ∀ b, b ≠ w49.heap.size → b ≠ wz.heap.size → ((wS.setCell ⟨w49.heap.size, 0, none⟩ (.func (.func 65) #[] #[.pointer (some ⟨rb, 0, none⟩), .pointer (some ⟨wb, 0, none⟩), .pointer (some ⟨lb, 0, none⟩)])).setCell ⟨w49.heap.size, 1, none⟩ (.slice aq (cutsK L dir row row.length).length cq1)).heap[b]? = wS.heap[b]? := fun b hb _ => (heap_setCell_other _ ⟨w49.heap.size, 1, none⟩ b _ hb).trans (heap_setCell_other _ ⟨w49.heap.size, 0, none⟩ b _ hb)
              refine hK.out _ _ ((hHeld.setCell (p := ⟨w49.heap.size, 0, none⟩) hzz _).setCell (p := ⟨w49.heap.size, 1, none⟩) hzz _) (fun hHeld => ?_)
              clear hK K
              try simp only [Act.put, List.setIfInBounds_toArray, List.set_cons_zero, List.set_cons_succ]
              try simp only [Act.put, List.setIfInBounds_toArray, List.set_cons_zero, List.set_cons_succ]
              refine wpAnyH_ready (rs := [13]) (by kernel_rfl) (by simp) ?_
              refine AllReadyH.cons (o := { dst := none, op := Go.Op.store 67 (Go.Operand.tmp 15) (Go.Operand.tmp 42), type := 0, pos := "hold.go:93", after := #[{ on := 11, ground := Go.Ground.data }, { on := 9, ground := Go.Ground.data }, { on := 12, ground := Go.Ground.chain }, { on := 0, ground := Go.Ground.phase }, { on := 1, ground := Go.Ground.phase }, { on := 2, ground := Go.Ground.phase }, { on := 3, ground := Go.Ground.phase }, { on := 4, ground := Go.Ground.phase }, { on := 5, ground := Go.Ground.phase }, { on := 6, ground := Go.Ground.phase }, { on := 7, ground := Go.Ground.phase }, { on := 8, ground := Go.Ground.phase }, { on := 9, ground := Go.Ground.phase }, { on := 10, ground := Go.Ground.phase }, { on := 11, ground := Go.Ground.phase }, { on := 12, ground := Go.Ground.phase }], guard := none }) rfl (fun K hK => ?_) AllReadyH.nil
              obtain ⟨wU, hwU⟩ : ∃ wU, (wS.setCell ⟨w49.heap.size, 0, none⟩ (.func (.func 65) #[] #[.pointer (some ⟨rb, 0, none⟩), .pointer (some ⟨wb, 0, none⟩), .pointer (some ⟨lb, 0, none⟩)])).setCell ⟨w49.heap.size, 1, none⟩ (.slice aq (cutsK L dir row row.length).length cq1) = wU := ⟨_, rfl⟩
              rw [hwU] at hHeld e2 e3 hfar ⊢
              clear hwU e1 y0 y1 g0 g1
              have y0 := heapc e3 (i := 0) (v := .nilFunc) rfl
              have y1 := heapc e3 (i := 1) (v := .slice none 0 0) rfl
              have g0 : wU.frozen? ⟨wz.heap.size, 0, none⟩ = false := by simp [World.frozen?, e3]
              have g1 : wU.frozen? ⟨wz.heap.size, 1, none⟩ = false := by simp [World.frozen?, e3]
              have hzz2 : wz.heap.size ≤ wz.heap.size := by first | exact Nat.le_refl _ | omega | (have := hsz4; omega) | (have := hsz4; have := hsz9; omega)
              go_simp
              have f1 := heap_setCell_same wU (wz.heap.size) 0 _ 67 (.func (.func 68) #[] #[.pointer (some ⟨eb, 0, none⟩), .pointer (some ⟨hb8, 0, none⟩), .pointer (some ⟨wb8, 0, none⟩)]) e3
              have f2 := heap_setCell_same _ (wz.heap.size) 1 _ 67 (.slice aq8 (cutsW L q q.length).length cq8) f1
              have f3 := (heap_setCell_other (wU.setCell ⟨wz.heap.size, 0, none⟩ (.func (.func 68) #[] #[.pointer (some ⟨eb, 0, none⟩), .pointer (some ⟨hb8, 0, none⟩), .pointer (some ⟨wb8, 0, none⟩)])) ⟨wz.heap.size, 1, none⟩ (w49.heap.size) (.slice aq8 (cutsW L q q.length).length cq8) hne.symm).trans ((heap_setCell_other wU ⟨wz.heap.size, 0, none⟩ (w49.heap.size) (.func (.func 68) #[] #[.pointer (some ⟨eb, 0, none⟩), .pointer (some ⟨hb8, 0, none⟩), .pointer (some ⟨wb8, 0, none⟩)]) hne.symm).trans e2)
              have hfar2 : ∀ b, b ≠ w49.heap.size → b ≠ wz.heap.size → ((wU.setCell ⟨wz.heap.size, 0, none⟩ (.func (.func 68) #[] #[.pointer (some ⟨eb, 0, none⟩), .pointer (some ⟨hb8, 0, none⟩), .pointer (some ⟨wb8, 0, none⟩)])).setCell ⟨wz.heap.size, 1, none⟩ (.slice aq8 (cutsW L q q.length).length cq8)).heap[b]? = wS.heap[b]? := fun b hb hb2 => ((heap_setCell_other _ ⟨wz.heap.size, 1, none⟩ b _ hb2).trans (heap_setCell_other _ ⟨wz.heap.size, 0, none⟩ b _ hb2)).trans (hfar b hb hb2)
              have HT2 := Lib.hid (HT.out.kept hx10 hx11 hfar2)
              have HW2 := Lib.hid (HW.out.kept hx10 hx11 hfar2)
              refine hK.out _ _ ((hHeld.setCell (p := ⟨wz.heap.size, 0, none⟩) hzz2 _).setCell (p := ⟨wz.heap.size, 1, none⟩) hzz2 _) (fun hHeld => ?_)
              clear hK K
              try simp only [Act.put, List.setIfInBounds_toArray, List.set_cons_zero, List.set_cons_succ]
              refine wpAnyH_done (by kernel_rfl) ?_ _
              try simp only [Act.put, List.setIfInBounds_toArray, List.set_cons_zero, List.set_cons_succ]
              go_wp2_with fail
              go_meet
              exact ⟨w49.heap.size, wz.heap.size, row, ar, cr, rb, wb, lb, aq, cq1, eb, hb8, wb8, aq8, cq8, rfl, rfl, hHeld, HRL, HRN, Lib.hid f3, Lib.hid f2, HT2, HW2⟩
          · go_simp
            have hA0 := hHeld
            refine hK.out _ _ (hHeld.alloc hHeld.size _) (fun hHeld => ?_)
            clear hK K
            try simp only [Act.put, List.setIfInBounds_toArray, List.set_cons_zero, List.set_cons_succ]
            replace hx11 := heap_below hx11 ((Below.refl _ _).alloc (Nat.le_refl _) (.cells #[.nilFunc, .slice none 0 0] 67))
            have hx10 : ((wz.drew.alloc (.cells #[.nilFunc, .slice none 0 0] 67)).alloc (.cells #[.nilFunc, .slice none 0 0] 67)).heap[wz.heap.size + 1]? = some (.cells #[.nilFunc, .slice none 0 0] 67 (0, 0)) := by
              have h9 := heap_alloc_new (wz.drew.alloc (.cells #[.nilFunc, .slice none 0 0] 67)) (.cells #[.nilFunc, .slice none 0 0] 67)
              first | exact h9 | simpa using h9
            try simp only [Act.put, List.setIfInBounds_toArray, List.set_cons_zero, List.set_cons_succ]
            refine wpAnyH_ready (rs := [4]) (by kernel_rfl) (by simp) ?_
            refine AllReadyH.cons (o := { dst := some 37, op := Go.Op.call { callee := Go.Callee.value (Go.Operand.func 31), args := #[Go.Operand.tmp 33, Go.Operand.tmp 34, Go.Operand.tmp 35, Go.Operand.tmp 36], argTypes := #[24, 25, 3, 59] }, type := 67, pos := "hold.go:93", after := #[{ on := 0, ground := Go.Ground.data }, { on := 1, ground := Go.Ground.data }, { on := 2, ground := Go.Ground.data }, { on := 3, ground := Go.Ground.data }], guard := none }) rfl (fun K hK => ?_) AllReadyH.nil
            go_simp
            go_at_call 31
            refine (HTo.out _ (hbw.trans (hHeld.mono hbw.size))).mono ?_
            rintro e w49 ⟨row, ar, cr, rb, wb, lb, aq, cq1, hRL, hrn, hP, k1, k2, k3, k4, k5, rfl, hC, hbd9, hb49⟩
            have HT : Hid (TMem L a js ca dir tp row ar cr rb wb lb aq w49) := Lib.hid ⟨hP, k1, k2, k3, k4, k5, hC⟩
            have HRL := Lib.hid hRL
            have HRN := Lib.hid hrn
            clear hP k1 k2 k3 k4 k5 hC hRL hrn hbd9
            replace hx10 := heap_below hx10 hb49
            replace hx11 := heap_below hx11 hb49
            have hsz4 := hHeld.size
            have hsz4 := Nat.le_trans hsz4 hb49.size
            try (have hs10 := (Array.getElem?_eq_some_iff.1 hx10).1)
            try (have hs11 := (Array.getElem?_eq_some_iff.1 hx11).1)
            refine hK.out _ _ (hHeld.trans (hb49.mono hHeld.size)) (fun hHeld => ?_)
            clear hK K hb49
            try simp only [Act.put, List.setIfInBounds_toArray, List.set_cons_zero, List.set_cons_succ]
            try simp only [Act.put, List.setIfInBounds_toArray, List.set_cons_zero, List.set_cons_succ]
            refine wpAnyH_ready (rs := [9]) (by kernel_rfl) (by simp) ?_
            refine AllReadyH.cons (o := { dst := some 42, op := Go.Op.call { callee := Go.Callee.value (Go.Operand.func 32), args := #[Go.Operand.tmp 38, Go.Operand.tmp 39, Go.Operand.tmp 40, Go.Operand.tmp 41], argTypes := #[24, 26, 3, 59] }, type := 67, pos := "hold.go:93", after := #[{ on := 5, ground := Go.Ground.data }, { on := 6, ground := Go.Ground.data }, { on := 7, ground := Go.Ground.data }, { on := 8, ground := Go.Ground.data }, { on := 4, ground := Go.Ground.chain }], guard := none }) rfl (fun K hK => ?_) AllReadyH.nil
            go_simp
            go_at_call 32
            refine (HWa.out _ (hbw.trans (hHeld.mono hbw.size))).mono ?_
            rintro e w99 ⟨eb, hb8, wb8, aq8, cq8, k1, k2, k3, k4, rfl, hC, hb99⟩
            have HW : Hid (WMem L ae q cq h tp dir eb hb8 wb8 aq8 w99) := Lib.hid ⟨k1, k2, k3, k4, hC⟩
            replace HT := Lib.hid (HT.out.below hb99)
            clear k1 k2 k3 k4 hC
            replace hx10 := heap_below hx10 hb99
            replace hx11 := heap_below hx11 hb99
            have hsz9 := hHeld.size
            have hsz9 := Nat.le_trans hsz9 hb99.size
            try (have hs10 := (Array.getElem?_eq_some_iff.1 hx10).1)
            try (have hs11 := (Array.getElem?_eq_some_iff.1 hx11).1)
            have hsz49 := hb99.size
            refine hK.out _ _ (hHeld.trans (hb99.mono hHeld.size)) (fun hHeld => ?_)
            clear hK K hb99
            try simp only [Act.put, List.setIfInBounds_toArray, List.set_cons_zero, List.set_cons_succ]
            try simp only [Act.put, List.setIfInBounds_toArray, List.set_cons_zero, List.set_cons_succ]
            refine wpAnyH_ready (rs := [12]) (by kernel_rfl) (by simp) ?_
            refine AllReadyH.cons (o := { dst := none, op := Go.Op.store 67 (Go.Operand.tmp 14) (Go.Operand.tmp 37), type := 0, pos := "hold.go:93", after := #[{ on := 10, ground := Go.Ground.data }, { on := 4, ground := Go.Ground.data }, { on := 9, ground := Go.Ground.chain }, { on := 0, ground := Go.Ground.phase }, { on := 1, ground := Go.Ground.phase }, { on := 2, ground := Go.Ground.phase }, { on := 3, ground := Go.Ground.phase }, { on := 4, ground := Go.Ground.phase }, { on := 5, ground := Go.Ground.textOnly Go.Departure.lateStores }, { on := 6, ground := Go.Ground.textOnly Go.Departure.lateStores }, { on := 7, ground := Go.Ground.textOnly Go.Departure.lateStores }, { on := 8, ground := Go.Ground.textOnly Go.Departure.lateStores }, { on := 9, ground := Go.Ground.textOnly Go.Departure.lateStoresUnsure }, { on := 10, ground := Go.Ground.phase }, { on := 11, ground := Go.Ground.phase }], guard := none }) rfl (fun K hK => ?_) AllReadyH.nil
            obtain ⟨wS, hwS⟩ : ∃ wS, w99 = wS := ⟨_, rfl⟩
            rw [hwS] at hHeld hx10 hx11 HT HW ⊢
            clear hwS
            have y0 := heapc hx10 (i := 0) (v := .nilFunc) rfl
            have y1 := heapc hx10 (i := 1) (v := .slice none 0 0) rfl
            have g0 : wS.frozen? ⟨wz.heap.size + 1, 0, none⟩ = false := by simp [World.frozen?, hx10]
            have g1 : wS.frozen? ⟨wz.heap.size + 1, 1, none⟩ = false := by simp [World.frozen?, hx10]
            have hzz : wz.heap.size ≤ wz.heap.size + 1 := by first | exact Nat.le_refl _ | omega | (have := hsz4; omega) | (have := hsz4; have := hsz9; omega)
            go_simp
            have e1 := heap_setCell_same wS (wz.heap.size + 1) 0 _ 67 (.func (.func 65) #[] #[.pointer (some ⟨rb, 0, none⟩), .pointer (some ⟨wb, 0, none⟩), .pointer (some ⟨lb, 0, none⟩)]) hx10
            have e2 := heap_setCell_same _ (wz.heap.size + 1) 1 _ 67 (.slice aq (cutsK L dir row row.length).length cq1) e1
            have hne : wz.heap.size ≠ wz.heap.size + 1 := by first | omega | (have := hsz4; omega) | (have := hsz4; have := hsz9; omega)
            have e3 := (heap_setCell_other (wS.setCell ⟨wz.heap.size + 1, 0, none⟩ (.func (.func 65) #[] #[.pointer (some ⟨rb, 0, none⟩), .pointer (some ⟨wb, 0, none⟩), .pointer (some ⟨lb, 0, none⟩)])) ⟨wz.heap.size + 1, 1, none⟩ (wz.heap.size) (.slice aq (cutsK L dir row row.length).length cq1) hne).trans ((heap_setCell_other wS ⟨wz.heap.size + 1, 0, none⟩ (wz.heap.size) (.func (.func 65) #[] #[.pointer (some ⟨rb, 0, none⟩), .pointer (some ⟨wb, 0, none⟩), .pointer (some ⟨lb, 0, none⟩)]) hne).trans hx11)
            have hfar : ∀ b, b ≠ wz.heap.size + 1 → b ≠ wz.heap.size → ((wS.setCell ⟨wz.heap.size + 1, 0, none⟩ (.func (.func 65) #[] #[.pointer (some ⟨rb, 0, none⟩), .pointer (some ⟨wb, 0, none⟩), .pointer (some ⟨lb, 0, none⟩)])).setCell ⟨wz.heap.size + 1, 1, none⟩ (.slice aq (cutsK L dir row row.length).length cq1)).heap[b]? = wS.heap[b]? := fun b hb _ => (heap_setCell_other _ ⟨wz.heap.size + 1, 1, none⟩ b _ hb).trans (heap_setCell_other _ ⟨wz.heap.size + 1, 0, none⟩ b _ hb)
            refine hK.out _ _ ((hHeld.setCell (p := ⟨wz.heap.size + 1, 0, none⟩) hzz _).setCell (p := ⟨wz.heap.size + 1, 1, none⟩) hzz _) (fun hHeld => ?_)
            clear hK K
            try simp only [Act.put, List.setIfInBounds_toArray, List.set_cons_zero, List.set_cons_succ]
            try simp only [Act.put, List.setIfInBounds_toArray, List.set_cons_zero, List.set_cons_succ]
            refine wpAnyH_ready (rs := [13]) (by kernel_rfl) (by simp) ?_
            refine AllReadyH.cons (o := { dst := none, op := Go.Op.store 67 (Go.Operand.tmp 15) (Go.Operand.tmp 42), type := 0, pos := "hold.go:93", after := #[{ on := 11, ground := Go.Ground.data }, { on := 9, ground := Go.Ground.data }, { on := 12, ground := Go.Ground.chain }, { on := 0, ground := Go.Ground.phase }, { on := 1, ground := Go.Ground.phase }, { on := 2, ground := Go.Ground.phase }, { on := 3, ground := Go.Ground.phase }, { on := 4, ground := Go.Ground.phase }, { on := 5, ground := Go.Ground.phase }, { on := 6, ground := Go.Ground.phase }, { on := 7, ground := Go.Ground.phase }, { on := 8, ground := Go.Ground.phase }, { on := 9, ground := Go.Ground.phase }, { on := 10, ground := Go.Ground.phase }, { on := 11, ground := Go.Ground.phase }, { on := 12, ground := Go.Ground.phase }], guard := none }) rfl (fun K hK => ?_) AllReadyH.nil
            obtain ⟨wU, hwU⟩ : ∃ wU, (wS.setCell ⟨wz.heap.size + 1, 0, none⟩ (.func (.func 65) #[] #[.pointer (some ⟨rb, 0, none⟩), .pointer (some ⟨wb, 0, none⟩), .pointer (some ⟨lb, 0, none⟩)])).setCell ⟨wz.heap.size + 1, 1, none⟩ (.slice aq (cutsK L dir row row.length).length cq1) = wU := ⟨_, rfl⟩
            rw [hwU] at hHeld e2 e3 hfar ⊢
            clear hwU e1 y0 y1 g0 g1
            have y0 := heapc e3 (i := 0) (v := .nilFunc) rfl
            have y1 := heapc e3 (i := 1) (v := .slice none 0 0) rfl
            have g0 : wU.frozen? ⟨wz.heap.size, 0, none⟩ = false := by simp [World.frozen?, e3]
            have g1 : wU.frozen? ⟨wz.heap.size, 1, none⟩ = false := by simp [World.frozen?, e3]
            have hzz2 : wz.heap.size ≤ wz.heap.size := by first | exact Nat.le_refl _ | omega | (have := hsz4; omega) | (have := hsz4; have := hsz9; omega)
            go_simp
            have f1 := heap_setCell_same wU (wz.heap.size) 0 _ 67 (.func (.func 68) #[] #[.pointer (some ⟨eb, 0, none⟩), .pointer (some ⟨hb8, 0, none⟩), .pointer (some ⟨wb8, 0, none⟩)]) e3
            have f2 := heap_setCell_same _ (wz.heap.size) 1 _ 67 (.slice aq8 (cutsW L q q.length).length cq8) f1
            have f3 := (heap_setCell_other (wU.setCell ⟨wz.heap.size, 0, none⟩ (.func (.func 68) #[] #[.pointer (some ⟨eb, 0, none⟩), .pointer (some ⟨hb8, 0, none⟩), .pointer (some ⟨wb8, 0, none⟩)])) ⟨wz.heap.size, 1, none⟩ (wz.heap.size + 1) (.slice aq8 (cutsW L q q.length).length cq8) hne.symm).trans ((heap_setCell_other wU ⟨wz.heap.size, 0, none⟩ (wz.heap.size + 1) (.func (.func 68) #[] #[.pointer (some ⟨eb, 0, none⟩), .pointer (some ⟨hb8, 0, none⟩), .pointer (some ⟨wb8, 0, none⟩)]) hne.symm).trans e2)
            have hfar2 : ∀ b, b ≠ wz.heap.size + 1 → b ≠ wz.heap.size → ((wU.setCell ⟨wz.heap.size, 0, none⟩ (.func (.func 68) #[] #[.pointer (some ⟨eb, 0, none⟩), .pointer (some ⟨hb8, 0, none⟩), .pointer (some ⟨wb8, 0, none⟩)])).setCell ⟨wz.heap.size, 1, none⟩ (.slice aq8 (cutsW L q q.length).length cq8)).heap[b]? = wS.heap[b]? := fun b hb hb2 => ((heap_setCell_other _ ⟨wz.heap.size, 1, none⟩ b _ hb2).trans (heap_setCell_other _ ⟨wz.heap.size, 0, none⟩ b _ hb2)).trans (hfar b hb hb2)
            have HT2 := Lib.hid (HT.out.kept hx10 hx11 hfar2)
            have HW2 := Lib.hid (HW.out.kept hx10 hx11 hfar2)
            refine hK.out _ _ ((hHeld.setCell (p := ⟨wz.heap.size, 0, none⟩) hzz2 _).setCell (p := ⟨wz.heap.size, 1, none⟩) hzz2 _) (fun hHeld => ?_)
            clear hK K
            try simp only [Act.put, List.setIfInBounds_toArray, List.set_cons_zero, List.set_cons_succ]
            refine wpAnyH_done (by kernel_rfl) ?_ _
            try simp only [Act.put, List.setIfInBounds_toArray, List.set_cons_zero, List.set_cons_succ]
            go_wp2_with fail
            go_meet
            exact ⟨wz.heap.size + 1, wz.heap.size, row, ar, cr, rb, wb, lb, aq, cq1, eb, hb8, wb8, aq8, cq8, rfl, rfl, hHeld, HRL, HRN, Lib.hid f3, Lib.hid f2, HT2, HW2⟩
      case rest =>
        obtain ⟨b14, b15, row, ar, cr, rb, wb, lb, aq, cq1, eb, hb8, wb8, aq8, cq8, rfl, rfl, hbx, HRL, HRN, HX1, HX2, HT, HW⟩ := hcut
        obtain ⟨wx, rfl⟩ : ∃ wx : World, wx = wc := ⟨_, rfl⟩
        have hbx2 := hbz.trans (hbx.mono hbz.size)
        have hbwx := HB.out.trans (hbx2.mono HB.out.size)
        have HRow2 := Lib.hid (owns_belowI HRow1.out hbx)
        have P0 := Lib.hid (cell_below p0 hbx)
        have P1 := Lib.hid (cell_below p1 hbx)
        have x14 := heapc HX1.out (i := 1) rfl
        have x15 := heapc HX2.out (i := 1) rfl
        have HFin := Lib.hid (both_cuts HVE.out HTD.out.2 HTD.out.1 HRL.out)
        have hrow := HRN.out
        have hcl1 := cutsK_len L dir row row.length
        have hcl2 := cutsW_len L q q.length
        have HKc := Lib.hid hcl1
        have HWc := Lib.hid hcl2
        have hl1 : (cutsK L dir row row.length).length ≤ 300 := by omega
        have hl2 : (cutsW L q q.length).length ≤ 300 := by omega
        have hl0 : 0 < (cutsK L dir row row.length).length := by omega
        have HCb : Hid (∀ c, c ∈ (cutsK L dir row row.length) ++ (cutsW L q q.length) → 0 ≤ c ∧ c ≤ L) := Lib.hid fun c hc => by
          rcases List.mem_append.1 hc with hc | hc
          · exact (told_cuts HVE.out HTD.out.2 HRL.out).2.2 c hc
          · exact (want_cuts HVE.out).2.2 c hc
        have HF := Lib.hid (fun m W (hm : m ∈ (cutsK L dir row row.length) ++ (cutsW L q q.length)) (hW : Below wx.heap.size wx W) => by
          have hm2 := HCb.out m hm
          have hLb := HLB.out
          have hT := HT.out.below hW
          have hWm := HW.out.below hW
          exact both1_r b14 b15 #[.pointer (some ⟨rb, 0, none⟩), .pointer (some ⟨wb, 0, none⟩), .pointer (some ⟨lb, 0, none⟩)] #[.pointer (some ⟨eb, 0, none⟩), .pointer (some ⟨hb8, 0, none⟩), .pointer (some ⟨wb8, 0, none⟩)] (hldL tp (begK L dir m) row 0) (mustV q h tp dir m) m W ((heapc (heap_below HX1.out hW) (i := 0) rfl)) ((heapc (heap_below HX2.out hW) (i := 0) rfl))
            (fun W2 h2 => told1_r L a js ca dir tp m row ar cr rb wb lb hLb.1 hLb.2 (by omega) (by omega) W2 (hT.1.below h2) (cell_below hT.2.1 h2) (cell_below hT.2.2.1 h2) (cell_below hT.2.2.2.1 h2) (cell_below hT.2.2.2.2.1 h2) (cell_below hT.2.2.2.2.2.1 h2))
            (fun W2 h2 => wanted1_r ae q cq eb hb8 wb8 h tp dir m W2 (HEw.out W2 (hbwx.trans ((hW.trans (h2.mono hW.size)).mono hbwx.size))) (cell_below hWm.1 h2) (cell_below hWm.2.1 h2) (cell_below hWm.2.2.1 h2) (cell_below hWm.2.2.2.1 h2)))
        have HA1 : Hid (IntsS wx aq (cutsK L dir row row.length)) := Lib.hid HT.out.2.2.2.2.2.2
        have HA2 : Hid (IntsS wx aq8 (cutsW L q q.length)) := Lib.hid HW.out.2.2.2.2
        clear HT HW HRL HRN HTo HWa HX1 HX2 HCb hcl1 hcl2 hbx p0 p1 HRow1 hbz hzl hzp hbw hrow HVE l0 l1
        obtain ⟨fB, hfB⟩ : ∃ fB : Int → Int × Int, (fun m => (hldL tp (begK L dir m) row 0, mustV q h tp dir m)) = fB := ⟨_, rfl⟩
        have HF2 : Hid (∀ m W, m ∈ (cutsK L dir row row.length) ++ (cutsW L q q.length) → Below wx.heap.size wx W → Calls Tryz.prog 33 (#[.int .i64 m] ++ #[.pointer (some ⟨b14, 0, none⟩), .pointer (some ⟨b15, 0, none⟩)]) W fun e w' => e = .returned (.agg #[.int .i64 (fB m).1, .int .i64 (fB m).2]) ∧ Below W.heap.size W w') := Lib.hid (by rw [← hfB]; exact fun m W hm hW => HF.out m W hm hW)
        rw [hfB] at HFin
        clear hfB HF
        generalize (cutsK L dir row row.length) = CA at *
        generalize (cutsW L q q.length) = CB at *
        have HCc := Lib.hid (fun gb W (hW : Below wx.heap.size wx W) y0 y1 => concat2_r gb aq aq8 CA CB cq1 cq8 W (HA1.out.below hW) (HA2.out.below hW) hl0 (by omega) y0 y1)
        have hAB : (CA ++ CB).length ≤ 600 := by rw [List.length_append]; omega
        have HI64 : Hid (∀ j, j < (CA ++ CB).length → I64 (gi (CA ++ CB) j)) := Lib.hid fun j hj => by
          have hm := gi_mem hj
          have i1 := HA1.out.2.1
          have i2 := HA2.out.2.1
          rcases List.mem_append.1 hm with hm | hm
          · obtain ⟨x, hx, ex⟩ := List.getElem_of_mem hm
            rw [← ex, ← gi_at _ hx]
            exact i1 x hx
          · obtain ⟨x, hx, ex⟩ := List.getElem_of_mem hm
            rw [← ex, ← gi_at _ hx]
            exact i2 x hx
        have HAB0 : Hid (CA ++ CB ≠ []) := Lib.hid (fun e => by have := congrArg List.length e; rw [List.length_append] at this; simp only [List.length_nil] at this; omega)
        have HPr := Lib.hid (fun ac cc W (hW : Below wx.heap.size wx W) (hC9 : IntsS W ac (CA ++ CB)) => parts2_r ac (CA ++ CB) cc #[.pointer (some ⟨b14, 0, none⟩), .pointer (some ⟨b15, 0, none⟩)] fB W hC9 HAB0.out (by omega) (fun m W2 hm h2 => HF2.out m W2 hm (hW.trans (h2.mono hW.size))))
        have HU : Hid (∀ W e w', PrqE W (ascL (CA ++ CB)) fB e w' → ∃ b c, e = .returned (.slice b (prtV (ascL (CA ++ CB)) fB (ascL (CA ++ CB)).length).length c) ∧ w'.ownsRow W.heap.size 78 4 (.slice b (prtV (ascL (CA ++ CB)) fB (ascL (CA ++ CB)).length).length c) (prtV (ascL (CA ++ CB)) fB (ascL (CA ++ CB)).length).length (cl4 (prtV (ascL (CA ++ CB)) fB (ascL (CA ++ CB)).length)) ∧ Below W.heap.size W w') := Lib.hid fun W e w' h => h
        have HLen : Hid ((prtV (ascL (CA ++ CB)) fB (ascL (CA ++ CB)).length).length ≤ 600) := Lib.hid (Nat.le_trans (prtV_len _ _ _) (Nat.le_trans (asc_len _) hAB))
        clear HA1 HA2 HF2
        generalize CA ++ CB = CD at *
        go_upto_region 12 with (fail)
        have HAl : Hid (Below wx.heap.size wx (wx.alloc (.cells #[.slice aq CA.length cq1, .slice aq8 CB.length cq8] 22))) := Lib.hid ((Below.refl _ _).alloc (Nat.le_refl _) _)
        have HY : Hid ((wx.alloc (.cells #[.slice aq CA.length cq1, .slice aq8 CB.length cq8] 22)).cell? ⟨wx.heap.size, 0, none⟩ = some (.slice aq CA.length cq1) ∧ (wx.alloc (.cells #[.slice aq CA.length cq1, .slice aq8 CB.length cq8] 22)).cell? ⟨wx.heap.size, 1, none⟩ = some (.slice aq8 CB.length cq8)) := Lib.hid ⟨by simp [go_sem], by simp [go_sem]⟩
        go_wp2_with (first | (go_at_call 35; refine (HCc.out wx.heap.size _ HAl.out HY.out.1 HY.out.2).mono ?_; rintro e w8 ⟨a8, c8, rfl, ho8, hb8x⟩; have hI8 := Lib.hid (ints_own ho8 (by omega) HI64.out); have hb8 := HAl.out.trans (hb8x.mono HAl.out.size); clear ho8 hb8x) | (go_at_call 34; refine (HPr.out a8 c8 _ hb8 hI8.out).mono ?_; rintro e w7 hw7; obtain ⟨b, c, rfl, hr7, hb7⟩ := HU.out _ _ _ hw7))
        generalize prtV (ascL CD) fB (ascL CD).length = P at *
        have hPl := HLen.out
        have hb7x := hb8.trans (hb7.mono hb8.size)
        have HOwn := Lib.hid hr7
        have hwb8 : wbx < w8.heap.size := Nat.lt_of_lt_of_le (block_lt P0.out) hb8.size
        have HCz : Hid (∀ k, k < P.length → ∃ g, b = some ⟨g, 0, none⟩ ∧ wbx < g ∧ g < w7.heap.size ∧ w7.cell? ⟨g, k * 4, none⟩ = some (.int .i64 (gtV P k).1) ∧ w7.cell? ⟨g, k * 4 + 1, none⟩ = some (.int .i64 (gtV P k).2.1) ∧ w7.cell? ⟨g, k * 4 + 2, none⟩ = some (.int .i64 (gtV P k).2.2.1) ∧ w7.cell? ⟨g, k * 4 + 3, none⟩ = some (.int .i64 (gtV P k).2.2.2)) := Lib.hid fun k hk => by
          have h := HOwn.out
          rcases h.2 with ⟨h1, h2⟩ | ⟨g2, c2, cur, h1, h2g, _⟩
          · omega
          · obtain ⟨rfl, rfl⟩ : b = some ⟨g2, 0, none⟩ ∧ c = c2 := by simpa using h1
            have hh := cl4_c P k hk
            have k0 : w7.cell? ⟨g2, k * 4, none⟩ = some (.int .i64 (gtV P k).1) := by rw [World.ownsRow.cellAt h (k * 4) (by omega)]; exact hh.1
            refine ⟨g2, rfl, by omega, block_lt k0, k0, ?_, ?_, ?_⟩
            · rw [World.ownsRow.cellAt h (k * 4 + 1) (by omega)]; exact hh.2.1
            · rw [World.ownsRow.cellAt h (k * 4 + 2) (by omega)]; exact hh.2.2.1
            · rw [World.ownsRow.cellAt h (k * 4 + 3) (by omega)]; exact hh.2.2.2
        obtain ⟨wo, rfl⟩ : ∃ wo : World, wo = w7 := ⟨_, rfl⟩
        have HRow3 := Lib.hid (owns_belowI HRow2.out hb7x)
        have HPa := Lib.hid (cell_below P0.out hb7x)
        have HPb := Lib.hid (cell_below P1.out hb7x)
        have hbo := hbx2.trans (hb7x.mono hbx2.size)
        have HFl := Lib.hid (fun k (hk : k < P.length) => flt_snoc (P := P) hk)
        have HF0 : Hid (∀ k, (fltV skG (P.take k)).length ≤ 600) := Lib.hid fun k => by have h1 := fltV_len (P.take k); have h2 := List.length_take_le' k P; omega
        clear HOwn hr7 hb7 hw7 HU HPr HCc HI64 HAB0 HAl HY hI8 hb8 hb7x HLen HRow2 P0 P1 x14 x15 hAB
        have hg0 := HG0.out
        have hwbo := block_lt HPa.out
        go_wp2_with fail
        go_loopw [11, 53] (fun v i wr => ∃ (j : Nat) (av : Option Addr) (cv : Nat), j ≤ P.length ∧ i = .int .i64 j ∧ v = .slice av (M0 ++ (fltV skG (P.take j)).map (fun p => ((tp, dir, p) : Gp6))).length cv ∧ Hid (wr.ownsRow wB.heap.size 80 6 (.slice av (M0 ++ (fltV skG (P.take j)).map (fun p => ((tp, dir, p) : Gp6))).length cv) (M0 ++ (fltV skG (P.take j)).map (fun p => ((tp, dir, p) : Gp6))).length (cl6 (M0 ++ (fltV skG (P.take j)).map (fun p => ((tp, dir, p) : Gp6))))) ∧ Hid (∀ B, B < wo.heap.size → (∀ x, av0 = some x → x.block ≠ B) → wr.heap[B]? = wo.heap[B]?) ∧ Hid (∀ x, av = some x → wo.heap.size ≤ x.block ∨ ∃ y, av0 = some y ∧ y.block = x.block) ∧ wo.heap.size ≤ wr.heap.size ∧ Below wB.heap.size wB wr) (fun _ i _ => P.length - (intOf i).toNat)
        case atStart => exact ⟨0, av0, cv0, Nat.zero_le _, rfl, by simp [fltV], Lib.hid (by simpa [fltV] using HRow3.out), Lib.hid (fun B _ _ => rfl), Lib.hid (fun x hx9 => .inr ⟨x, hx9, rfl⟩), Nat.le_refl _, hbo⟩
        case round =>
          obtain ⟨j, av, cv, hj, rfl, rfl, HRow, HKe, HAp, hwo, hbB⟩ := hrel
          have hfl := HF0.out j
          have hMl : (M0 ++ (fltV skG (P.take j)).map (fun p => ((tp, dir, p) : Gp6))).length ≤ 5000 := by rw [List.length_append, List.length_map]; omega
          by_cases hjl : j < P.length
          · obtain ⟨g, rfl, hgw, hgo, c0, c1, c2, c3⟩ := HCz.out j hjl
            have hkg : wr.heap[g]? = wo.heap[g]? := HKe.out g hgo (fun x hx9 e => by have := HAV.out x hx9; omega)
            have hkb : wr.heap[wbx]? = wo.heap[wbx]? := HKe.out wbx hwbo (fun x hx9 e => by have := HAV.out x hx9; omega)
            have tr : ∀ B o v, wr.heap[B]? = wo.heap[B]? → wo.cell? ⟨B, o, none⟩ = some v → wr.cell? ⟨B, o, none⟩ = some v := fun B o v hb9 hc => (World.cell?_of_block (w := wo) (w' := wr) (a := ⟨B, o, none⟩) hb9).trans hc
            have c0 := tr _ _ _ hkg c0
            have c1 := tr _ _ _ hkg c1
            have c2 := tr _ _ _ hkg c2
            have c3 := tr _ _ _ hkg c3
            have pa := tr _ _ _ hkb HPa.out
            have pb := tr _ _ _ hkb HPb.out
            clear tr hkg hkb
            have HN0 : Hid (M0 ++ (fltV skG (P.take (j + 1))).map (fun p => ((tp, dir, p) : Gp6)) = if (gtV P j).2.2.1 = (gtV P j).2.2.2 then M0 ++ (fltV skG (P.take j)).map (fun p => ((tp, dir, p) : Gp6)) else (M0 ++ (fltV skG (P.take j)).map (fun p => ((tp, dir, p) : Gp6))) ++ [(tp, dir, (gtV P j).1, (gtV P j).2.1, (gtV P j).2.2.1, (gtV P j).2.2.2)]) := Lib.hid (by
              rw [HFl.out j hjl]
              split
              · rfl
              · rw [List.map_append, List.append_assoc]; rfl)
            clear HCz HFl HF0 HFin HSt hfl
            generalize (gtV P j).1 = x at *
            generalize (gtV P j).2.1 = y at *
            generalize (gtV P j).2.2.1 = v1 at *
            generalize (gtV P j).2.2.2 = v2 at *
            have HNx := HN0
            obtain ⟨M, hM⟩ : ∃ M, M0 ++ (fltV skG (P.take j)).map (fun p => ((tp, dir, p) : Gp6)) = M := ⟨_, rfl⟩
            obtain ⟨M2, hM2⟩ : ∃ M2, M0 ++ (fltV skG (P.take (j + 1))).map (fun p => ((tp, dir, p) : Gp6)) = M2 := ⟨_, rfl⟩
            rw [hM, hM2] at HNx
            rw [hM] at HRow hMl ⊢
            have HM2 := Lib.hid hM2
            clear hM hM2 HN0
            have hk64 : (j : Int) < (P.length : Int) := by omega
            have hsz := hbB.size
            go_upto_region 15 with (fail)
            obtain ⟨wA, hwA⟩ : ∃ wA, wr.alloc (.cells #[.int .i64 x, .int .i64 y, .int .i64 v1, .int .i64 v2] 78) = wA := ⟨_, rfl⟩
            have hbA : Below wB.heap.size wB wA := by rw [← hwA]; exact hbB.alloc hsz _
            have hal : Below wr.heap.size wr wA := by rw [← hwA]; exact (Below.refl _ _).alloc (Nat.le_refl _) _
            have s0 : wA.cell? ⟨wr.heap.size, 0, none⟩ = some (.int .i64 x) := by rw [← hwA]; simp [go_sem]
            have s1 : wA.cell? ⟨wr.heap.size, 1, none⟩ = some (.int .i64 y) := by rw [← hwA]; simp [go_sem]
            have s2 : wA.cell? ⟨wr.heap.size, 2, none⟩ = some (.int .i64 v1) := by rw [← hwA]; simp [go_sem]
            have s3 : wA.cell? ⟨wr.heap.size, 3, none⟩ = some (.int .i64 v2) := by rw [← hwA]; simp [go_sem]
            replace pa := cell_below pa hal
            replace pb := cell_below pb hal
            have HRow := Lib.hid (owns_belowI HRow.out hal)
            have HKA : Hid (∀ B, B < wo.heap.size → (∀ x, av0 = some x → x.block ≠ B) → wA.heap[B]? = wo.heap[B]?) := Lib.hid fun B hB hne => (hal.block B (by omega)).trans (HKe.out B hB hne)
            have hwA2 : wo.heap.size ≤ wA.heap.size := Nat.le_trans hwo hal.size
            rw [hwA]
            clear hwA hal c0 c1 c2 c3
            by_cases hv : v1 = v2
            · have hN := HNx.out
              rw [if_pos hv] at hN
              have HNn := Lib.hid (HM2.out.trans hN)
              have hvn : (v1 != v2) = false := by rw [hv]; simp
              clear hN HNx HM2
              go_wp2_with fail
              go_roundw
              case rel => exact ⟨j + 1, av, cv, by omega, by go_num, by rw [HNn.out], Lib.hid (by rw [HNn.out]; exact HRow.out), HKA, HAp, hwA2, hbA⟩
              case measure => simp [intOf]; omega
            · have hN := HNx.out
              rw [if_neg hv] at hN
              have HAP : Hid (M.length + 1 = (M0 ++ (fltV skG (P.take (j + 1))).map (fun p => ((tp, dir, p) : Gp6))).length ∧ cl6 M ++ [.int .i64 tp, .int .i64 dir, .int .i64 x, .int .i64 y, .int .i64 v1, .int .i64 v2] = cl6 (M0 ++ (fltV skG (P.take (j + 1))).map (fun p => ((tp, dir, p) : Gp6)))) := Lib.hid (by rw [HM2.out, hN, cl6_app]; exact ⟨by simp, rfl⟩)
              have hvn : (v1 != v2) = true := by simpa using hv
              clear hN HNx HM2
              have hown := Lib.hid (HRow.out.alloc (.cells #[.int .i64 tp, .int .i64 dir, .int .i64 x, .int .i64 y, .int .i64 v1, .int .i64 v2] 80))
              have hbs := hbA.size
              go_wp2_with (first | (at_builtin; go_loud (refine wpList_append_lies _ rfl _ _ 36 rfl wB.heap.size 80 n0 _ 6 48 Tryz.underlying36 hi hz0 hz1 hz2 rfl (by decide) (.slice _ M.length cv) M.length _ (by rfl) hown.out ⟨wA.heap.size, 0, none⟩ 1 1 [.int .i64 tp, .int .i64 dir, .int .i64 x, .int .i64 y, .int .i64 v1, .int .i64 v2] (by rfl) (by rfl) ?d1 ?d2 (by decide) ?d3 ?d4 ?d5 _ rfl ?_)))
              case d1 =>
                refine World.news_of_block (cs := #[.int .i64 tp, .int .i64 dir, .int .i64 x, .int .i64 y, .int .i64 v1, .int .i64 v2]) (t := 80) (fr := (0, 0)) ?_
                exact heap_alloc_new _ _
              case d2 => simp [Value.oneCell']
              case d3 => unfold maxLen; omega
              case d4 => omega
              case d5 => first | (simp; omega) | simp | omega
              intro g6 c6 w6 hown6 hgrow6 hat6 hlt6
              have hb6 : Below wB.heap.size wB w6 := ((hbA.alloc hbs _).grown hgrow6 (by first | (simp; omega) | simp | omega) (fun z hz => owns_blockI hown.out hz))
              have hKP := kp_grown (W := wA) hgrow6 hat6 (by simp)
              have HK6 : Hid (∀ B, B < wo.heap.size → (∀ x, av0 = some x → x.block ≠ B) → w6.heap[B]? = wo.heap[B]?) := Lib.hid fun B hB hne => ((hKP B (by omega) (fun x hx9 e => by
                rcases HAp.out x hx9 with h9 | ⟨y, hy, hy2⟩
                · omega
                · exact hne y hy (by omega))).1).trans (HKA.out B hB hne)
              have HA6 : Hid (∀ x, some (⟨g6, 0, none⟩ : Addr) = some x → wo.heap.size ≤ x.block ∨ ∃ y, av0 = some y ∧ y.block = x.block) := Lib.hid fun x hx9 => by
                cases hx9
                rcases hat6 with h9 | h9
                · cases hav : av with
                  | none => rw [hav] at h9; simp [Value.ownBlock] at h9
                  | some y =>
                    rw [hav] at h9
                    simp [Value.ownBlock] at h9
                    have := HAp.out y hav
                    rw [h9] at this
                    exact this
                · left
                  try simp at h9
                  show wo.heap.size ≤ g6
                  omega
              have hw6 : wo.heap.size ≤ w6.heap.size := by
                have h9 := hgrow6.size
                try simp at h9
                omega
              go_wp2_with fail
              go_roundw
              case rel => exact ⟨j + 1, some ⟨g6, 0, none⟩, c6, by omega, by go_num, by rw [← HAP.out.1], Lib.hid (by rw [← HAP.out.1, ← HAP.out.2]; exact hown6), HK6, HA6, hw6, hb6⟩
              case measure => simp [intOf]; omega
          · obtain rfl : j = P.length := by omega
            have HFi : Hid (M0 ++ (fltV skG (P.take P.length)).map (fun p => ((tp, dir, p) : Gp6)) = gapK L js l q h (k + 1)) := Lib.hid (by rw [List.take_length, HFin.out, HSt.out])
            have hML := hMl
            have HLx : Hid ((gapK L js l q h (k + 1)).length ≤ 1000 * (k + 1)) := Lib.hid (by rw [← HFi.out, List.length_append, List.length_map]; omega)
            clear HCz HFl HF0 HFin HSt
            go_wp2_with fail
            go_roundw
            case rel => exact ⟨k + 1, av, cv, by omega, by go_num, by rw [← HFi.out], Lib.hid (by rw [← HFi.out]; exact HRow.out), HLx, hbB⟩
            case measure => simp [intOf]; omega
    · obtain rfl : k = 4 := by omega
      have hgl := HG0.out
      have hbw := HB.out.trans (hbr0.mono HB.out.size)
      have HEnd : Hid (GapA (gapK L js l q h 4) 0 w (.returned (.tuple #[.slice av0 (gapK L js l q h 4).length cv0, .int .i64 0])) wr) := Lib.hid ⟨av0, cv0, rfl, gap_own HRow0.out (by omega), hbw⟩
      clear HRow0
      go_wp2_with fail
      go_ret2
      exact HEnd.out
end Go.Proofs.YtneafbhiencjlaaGreatDoor
