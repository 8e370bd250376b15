/-
  told: the course of what signs make hold. By an AI agent.
-/
import Derived.Test.YtiagflackfkmnaaGreatRuU
namespace Go.Proofs.YtiagflackfkmnaaGreat
set_option linter.unusedVariables false
set_option linter.unusedSimpArgs false
open Go.RowKit

set_option maxRecDepth 100000 in
set_option maxHeartbeats 2000000 in
theorem told_r (L : Int) (a : Option Addr) (js : List Int) (ca : Nat) (aa : Option Addr) (l : List Sgn) (cl : Nat) (h dir tp : Int) (hL1 : 0 ≤ L) (hL2 : L ≤ 100000) (hJ : ∀ j, j < js.length → 0 ≤ gi js j ∧ gi js j ≤ 100000) (hC : ∀ j, j < l.length → (0 ≤ (gs l j).c ∧ (gs l j).c ≤ 100000) ∧ 0 ≤ (gs l j).v ∧ (gs l j).v ≤ 100000) (hn : l.length ≤ 1000) (w : World) (hI : IntsS w a js) (hA : SgnS w aa l) :
    Calls Tryz.prog 58 #[.agg #[.int .i64 L, .slice a js.length ca], .slice aa l.length cl, .int .i64 h, .agg #[.int .i64 tp, .int .i64 dir]] w (ToldE L a js ca dir tp h l w) := by
  have HR := Lib.hid (fun W (hW : Below w.heap.size w W) => (rowOf_r L a js ca aa l cl h dir hL1 hL2 hJ (fun j hj => by have := hC j hj; omega) hn W (hI.below hW) (hA.below hW)).mono fun e w' H => rowF_of hL1 hL2 hJ hC H)
  have HLB := Lib.hid (And.intro hL1 hL2)
  obtain ⟨n0, hi, hz0, hz1, hz2⟩ := info_parts infoInt
  clear hI hA hJ hC
  go_enter Tryz.func58, Tryz.ntmps58
  go_wp2_with fail
  obtain ⟨wB, hwB⟩ : ∃ wB, ((w.alloc (.cells #[.int .i64 L, .slice a js.length ca] 24)).alloc (.cells #[.int .i64 tp, .int .i64 dir] 91)).alloc (.cells #[.nilFunc, .slice none 0 0] 97) = wB := ⟨_, rfl⟩
  have hb : Below w.heap.size w wB := by rw [← hwB]; exact (((Below.refl _ _).alloc (Nat.le_refl _) _).alloc (by simp) _).alloc (by simp; omega) _
  have hsz : w.heap.size + 2 < wB.heap.size := by rw [← hwB]; simp
  have l0 : wB.cell? ⟨w.heap.size, 0, none⟩ = some (.int .i64 L) := by rw [← hwB]; simp [go_sem]
  have l1 : wB.cell? ⟨w.heap.size, 1, none⟩ = some (.slice a js.length ca) := by rw [← hwB]; simp [go_sem]
  have y0 : wB.cell? ⟨w.heap.size + 1, 0, none⟩ = some (.int .i64 tp) := by rw [← hwB]; simp [go_sem]
  have y1 : wB.cell? ⟨w.heap.size + 1, 1, none⟩ = some (.int .i64 dir) := by rw [← hwB]; simp [go_sem]
  have r0 : wB.cell? ⟨w.heap.size + 1 + 1, 0, none⟩ = some .nilFunc := by rw [← hwB]; simp [go_sem]
  have r1 : wB.cell? ⟨w.heap.size + 1 + 1, 1, none⟩ = some (.slice none 0 0) := by rw [← hwB]; simp [go_sem]
  have fr : wB.frozen? ⟨w.heap.size + 1 + 1, 0, none⟩ = false ∧ wB.frozen? ⟨w.heap.size + 1 + 1, 1, none⟩ = false := by rw [← hwB]; simp [go_sem]
  have HFR := Lib.hid fr
  have hrh : wB.heap[w.heap.size + 1 + 1]? = some (.cells #[.nilFunc, .slice none 0 0] 97) := by rw [← hwB]; have := heap_alloc_new ((w.alloc (.cells #[.int .i64 L, .slice a js.length ca] 24)).alloc (.cells #[.int .i64 tp, .int .i64 dir] 91)) (.cells #[.nilFunc, .slice none 0 0] 97); simpa using this
  have HRH := Lib.hid hrh
  clear hrh
  rw [hwB]
  clear hwB fr
  refine (HR.out _ hb).mono ?_
  rintro E w1 ⟨row, ar, cr, hRL, hrl, hbd, rfl, hPS, hb1⟩
  replace l0 := cell_below l0 hb1
  replace l1 := cell_below l1 hb1
  replace y0 := cell_below y0 hb1
  replace y1 := cell_below y1 hb1
  replace r0 := cell_below r0 hb1
  replace r1 := cell_below r1 hb1
  have f0 := (hb1.frozen (p := ⟨w.heap.size + 1 + 1, 0, none⟩) (by simp; omega)).trans HFR.out.1
  have f1 := (hb1.frozen (p := ⟨w.heap.size + 1 + 1, 1, none⟩) (by simp; omega)).trans HFR.out.2
  have hs1 := hb1.size
  have hw1 := hb.trans (hb1.mono hb.size)
  have HRL := Lib.hid hRL
  have HBd := Lib.hid hbd
  have HPS := Lib.hid hPS
  have hbB1 := Lib.hid hb1
  clear hRL hbd hPS hb1 HFR HR
  have hz4 : w.heap.size < w1.heap.size := block_lt l0
  go_upto_region 2 with (fail)
  obtain ⟨wX, hwX⟩ : ∃ wX, w1.alloc (.cells #[.slice ar row.length cr] 79) = wX := ⟨_, rfl⟩
  have hbX : Below w1.heap.size w1 wX := by rw [← hwX]; exact (Below.refl _ _).alloc (Nat.le_refl _) _
  have q0 : wX.cell? ⟨w1.heap.size, 0, none⟩ = some (.slice ar row.length cr) := by rw [← hwX]; simp [go_sem]
  rw [hwX]
  clear hwX
  replace l0 := cell_below l0 hbX
  replace l1 := cell_below l1 hbX
  replace y0 := cell_below y0 hbX
  replace y1 := cell_below y1 hbX
  have HR0 := Lib.hid (cell_below r0 hbX)
  have HR1 := Lib.hid (cell_below r1 hbX)
  replace f0 := (hbX.frozen (p := ⟨w.heap.size + 1 + 1, 0, none⟩) (by simp; omega)).trans f0
  replace f1 := (hbX.frozen (p := ⟨w.heap.size + 1 + 1, 1, none⟩) (by simp; omega)).trans f1
  have HF01 := Lib.hid (And.intro f0 f1)
  have HPX := Lib.hid (HPS.out.below hbX)
  have hwX := hw1.trans (hbX.mono hw1.size)
  have hsX := hbX.size
  have hbX1 := Lib.hid hbX
  clear r0 r1 f0 f1 HPS hbX
  have hzq := block_lt q0
  have HY0 := Lib.hid y0
  have HL0 := Lib.hid l0
  have HL1 := Lib.hid l1
  have HY1 := Lib.hid y1
  have HQ0 := Lib.hid q0
  have hown0 : Hid ((wX.alloc (.cells #[.int .i64 0, .int .i64 L] 3)).ownsRow wX.heap.size 3 1 (.slice (some ⟨wX.heap.size, 0, none⟩) (cutsK L dir row 0).length 2) (cutsK L dir row 0).length (clI (cutsK L dir row 0))) := Lib.hid (by
    exact ⟨rfl, .inr ⟨wX.heap.size, 2, #[.int .i64 0, .int .i64 L], rfl, Nat.le_refl _, heap_alloc_new _ _, Nat.le_refl 2, by decide, rfl, rfl⟩⟩)
  clear y0
  obtain ⟨-, pb, po, pad, pcp, hpa, hpc⟩ := HPX.out
  have HPC := Lib.hid hpc
  have HPA : Hid (0 < row.length → ar = some ⟨pb, po, none⟩) := Lib.hid fun h => hpa (List.ne_nil_of_length_pos h)
  clear hpa hpc
  go_wp2_with fail
  have hbX0 : Below wX.heap.size wX (wX.alloc (.cells #[.int .i64 0, .int .i64 L] 3)) := (Below.refl _ _).alloc (Nat.le_refl _) _
  have HBX0 := Lib.hid hbX0
  clear hbX0
  have hlen2 := cutsK_len L dir row
  have HLen2 := Lib.hid hlen2
  clear hlen2 l0 l1 y1
  go_loopw [10, 24] (fun q i9 wr => ∃ k : Nat, k ≤ row.length ∧ i9 = .int .i64 k ∧ (∃ a c, q = .slice a (cutsK L dir row k).length c) ∧ Hid (wr.ownsRow wX.heap.size 3 1 q (cutsK L dir row k).length (clI (cutsK L dir row k))) ∧ Below wX.heap.size wX wr) (fun _ i9 _ => row.length - (intOf i9).toNat)
  case atStart => exact ⟨0, Nat.zero_le _, rfl, ⟨_, _, rfl⟩, hown0, HBX0.out⟩
  case round =>
    clear hown0
    obtain ⟨k, hk, rfl, ⟨av, cv, rfl⟩, HRow, hbr⟩ := hrel
    have l0 := cell_below HL0.out hbr
    have l1 := cell_below HL1.out hbr
    have y1 := cell_below HY1.out hbr
    have hz4 : w.heap.size < wX.heap.size := block_lt HL0.out
    have hz7 : w.heap.size + 1 < wX.heap.size := block_lt HY1.out
    by_cases hlt : k < row.length
    · obtain rfl := HPA.out (by omega)
      obtain ⟨⟨⟨c0, c1, c2, c3, c4, c5, c6, c7⟩, c8, c9, c10, c11⟩, -⟩ := HPC.out k hlt
      have c0 := cell_below c0 hbr
      have c1 := cell_below c1 hbr
      have c2 := cell_below c2 hbr
      have c3 := cell_below c3 hbr
      have c4 := cell_below c4 hbr
      have c5 := cell_below c5 hbr
      have c6 := cell_below c6 hbr
      have c7 := cell_below c7 hbr
      have c8 := cell_below c8 hbr
      have c9 := cell_below c9 hbr
      have c10 := cell_below c10 hbr
      have c11 := cell_below c11 hbr
      have hbk := HBd.out (gq row k) (by unfold gq; rw [List.getD_eq_getElem?_getD, List.getElem?_eq_getElem hlt]; exact List.getElem_mem hlt)
      have hll := HLen2.out k
      have HPair : Hid (clI (cutsK L dir row (k + 1)) = clI (cutsK L dir row k) ++ [.int .i64 (dstK L dir (gq row k).d), .int .i64 (dstK L dir (gq row k).u)] ∧ (cutsK L dir row (k + 1)).length = (cutsK L dir row k).length + 2) := Lib.hid ⟨cutsK_pair L dir row k, by rw [HLen2.out, HLen2.out]; omega⟩
      have HD1 := Lib.hid (fun W => distance_r L a js.length ca dir (gq row k).d HLB.out.1 HLB.out.2 (by omega) (by omega) W)
      have HD2 := Lib.hid (fun W => distance_r L a js.length ca dir (gq row k).u HLB.out.1 HLB.out.2 (by omega) (by omega) W)
      have hsr := hbr.size
      have HNe : Hid (some wr.heap.size ≠ (Value.slice av (cutsK L dir row k).length cv).ownBlock) := Lib.hid fun e => by
        have := (World.ownsRow.lt HRow.out _ e.symm).2
        omega
      have hcl : (cutsK L dir row k).length ≤ 10000 := by omega
      clear HPC HPA hbk hll
      generalize pad k = adk at *
      generalize pcp k = cpk at *
      obtain ⟨x, hx⟩ : ∃ x, gq row k = x := ⟨_, rfl⟩
      rw [hx] at HPair HD1 HD2 c0 c1 c2 c3 c4 c5 c6 c7 c8 c9 c10 c11
      clear hx
      obtain ⟨D, hD⟩ : ∃ D, x.d = D := ⟨_, rfl⟩
      obtain ⟨U, hU⟩ : ∃ U, x.u = U := ⟨_, rfl⟩
      rw [hD] at HPair HD1 c9
      rw [hU] at HPair HD2 c10
      clear hD hU
      obtain ⟨CQ, hCQ⟩ : ∃ CQ, cutsK L dir row k = CQ := ⟨_, rfl⟩
      rw [hCQ] at HRow HNe HPair hcl ⊢
      clear hCQ
      go_upto_region 6 with (fail)
      obtain ⟨ws, hws⟩ : ∃ ws, wr.alloc (.cells #[.int .i64 x.s.n, .int .i64 x.s.k, .int .i64 x.s.v, .int .i64 x.s.c, .int .i64 x.s.d, .int .i64 x.s.rk, .int .i64 x.s.up, .int .i64 x.s.dn, .slice adk x.s.cv.length cpk, .int .i64 D, .int .i64 U, .bool x.b] 82) = ws := ⟨_, rfl⟩
      have hbs0 : Below wr.heap.size wr ws := by rw [← hws]; exact (Below.refl _ _).alloc (Nat.le_refl _) _
      have x9 : ws.cell? ⟨wr.heap.size, 9, none⟩ = some (.int .i64 D) := by rw [← hws]; simp [go_sem]
      have x10 : ws.cell? ⟨wr.heap.size, 10, none⟩ = some (.int .i64 U) := by rw [← hws]; simp [go_sem]
      rw [hws]
      clear hws
      have HRow := Lib.hid (owns_belowI HRow.out hbs0)
      have hbs : Below wX.heap.size wX ws := hbr.trans (hbs0.mono hsr)
      replace l0 := cell_below l0 hbs0
      replace l1 := cell_below l1 hbs0
      replace y1 := cell_below y1 hbs0
      have hss := hbs0.size
      have hzp := block_lt x9
      have hsX2 := hbs.size
      clear c0 c1 c2 c3 c4 c5 c6 c7 c8 c9 c10 c11 hbr hbs0
      refine wp_region_held_drew (S := fun w' => Below wX.heap.size ws w' ∧ w'.heap[wr.heap.size]? = ws.heap[wr.heap.size]?) (by kernel_rfl) ⟨(Below.refl _ _).drew, rfl⟩ (fun hHeld => ?_)
      refine takeU (i := 0) (some 28) (.slice av CQ.length cv) (by kernel_rfl) (by kernel_rfl) (by kernel_rfl) (by kernel_rfl) (by kernel_rfl) (fun _ => by kernel_rfl) (fun _ _ _ h => h) hHeld ?_
      refine wpAnyH_take (i := 1) (oi := { dst := some 29, op := Go.Op.load 24 (Go.Operand.tmp 4), type := 24, pos := "hold.go:109", after := #[], guard := none }) (v := .agg #[.int .i64 L, .slice a js.length ca]) rfl (by kernel_rfl) (by kernel_rfl) (by kernel_rfl) (fun _ _ _ h => h) (.inl ⟨by kernel_rfl, fun w9 h9 => by
        clear hHeld
        have d0 := (h9.1.cell (p := ⟨w.heap.size, 0, none⟩) hz4).trans l0
        have d1 := (h9.1.cell (p := ⟨w.heap.size, 1, none⟩) hz4).trans l1
        clear h9
        go_simp⟩) hHeld ?_
      refine takeU (i := 2) (some 30) (.pointer (some ⟨w.heap.size + 1, 1, none⟩)) (by kernel_rfl) (by kernel_rfl) (by kernel_rfl) (by kernel_rfl) (by kernel_rfl) (fun _ => by kernel_rfl) (fun _ _ _ h => h) hHeld ?_
      refine wpAnyH_take (i := 3) (oi := { dst := some 31, op := Go.Op.load 3 (Go.Operand.tmp 30), type := 3, pos := "hold.go:109", after := #[{ on := 2, ground := Go.Ground.data }], guard := none }) (v := .int .i64 dir) rfl (by kernel_rfl) (by kernel_rfl) (by kernel_rfl) (fun _ _ _ h => h) (.inl ⟨by kernel_rfl, fun w9 h9 => by
        clear hHeld
        have d0 := (h9.1.cell (p := ⟨w.heap.size + 1, 1, none⟩) hz7).trans y1
        clear h9
        go_simp⟩) hHeld ?_
      refine takeU (i := 4) (some 32) (.pointer (some ⟨wr.heap.size, 9, none⟩)) (by kernel_rfl) (by kernel_rfl) (by kernel_rfl) (by kernel_rfl) (by kernel_rfl) (fun _ => by kernel_rfl) (fun _ _ _ h => h) hHeld ?_
      refine wpAnyH_take (i := 5) (oi := { dst := some 33, op := Go.Op.load 3 (Go.Operand.tmp 32), type := 3, pos := "hold.go:109", after := #[{ on := 4, ground := Go.Ground.data }], guard := none }) (v := .int .i64 D) rfl (by kernel_rfl) (by kernel_rfl) (by kernel_rfl) (fun _ _ _ h => h) (.inl ⟨by kernel_rfl, fun w9 h9 => by
        clear hHeld
        have d0 := (World.cell?_of_block (w := ws) (w' := w9) (a := ⟨wr.heap.size, 9, none⟩) h9.2).trans x9
        clear h9
        go_simp⟩) hHeld ?_
      refine wpAnyH_take (i := 7) (oi := { dst := some 35, op := Go.Op.load 24 (Go.Operand.tmp 4), type := 24, pos := "hold.go:109", after := #[], guard := none }) (v := .agg #[.int .i64 L, .slice a js.length ca]) rfl (by kernel_rfl) (by kernel_rfl) (by kernel_rfl) (fun _ _ _ h => h) (.inl ⟨by kernel_rfl, fun w9 h9 => by
        clear hHeld
        have d0 := (h9.1.cell (p := ⟨w.heap.size, 0, none⟩) hz4).trans l0
        have d1 := (h9.1.cell (p := ⟨w.heap.size, 1, none⟩) hz4).trans l1
        clear h9
        go_simp⟩) hHeld ?_
      refine takeU (i := 8) (some 36) (.pointer (some ⟨w.heap.size + 1, 1, none⟩)) (by kernel_rfl) (by kernel_rfl) (by kernel_rfl) (by kernel_rfl) (by kernel_rfl) (fun _ => by kernel_rfl) (fun _ _ _ h => h) hHeld ?_
      refine wpAnyH_take (i := 9) (oi := { dst := some 37, op := Go.Op.load 3 (Go.Operand.tmp 36), type := 3, pos := "hold.go:109", after := #[{ on := 8, ground := Go.Ground.data }], guard := none }) (v := .int .i64 dir) rfl (by kernel_rfl) (by kernel_rfl) (by kernel_rfl) (fun _ _ _ h => h) (.inl ⟨by kernel_rfl, fun w9 h9 => by
        clear hHeld
        have d0 := (h9.1.cell (p := ⟨w.heap.size + 1, 1, none⟩) hz7).trans y1
        clear h9
        go_simp⟩) hHeld ?_
      refine takeU (i := 10) (some 38) (.pointer (some ⟨wr.heap.size, 10, none⟩)) (by kernel_rfl) (by kernel_rfl) (by kernel_rfl) (by kernel_rfl) (by kernel_rfl) (fun _ => by kernel_rfl) (fun _ _ _ h => h) hHeld ?_
      refine wpAnyH_take (i := 11) (oi := { dst := some 39, op := Go.Op.load 3 (Go.Operand.tmp 38), type := 3, pos := "hold.go:109", after := #[{ on := 10, ground := Go.Ground.data }], guard := none }) (v := .int .i64 U) rfl (by kernel_rfl) (by kernel_rfl) (by kernel_rfl) (fun _ _ _ h => h) (.inl ⟨by kernel_rfl, fun w9 h9 => by
        clear hHeld
        have d0 := (World.cell?_of_block (w := ws) (w' := w9) (a := ⟨wr.heap.size, 10, none⟩) h9.2).trans x10
        clear h9
        go_simp⟩) hHeld ?_
      try simp only [Act.put, List.setIfInBounds_toArray, List.set_cons_zero, List.set_cons_succ]
      refine wpAnyH_ready (rs := [6]) (by kernel_rfl) (by simp) ?_
      refine AllReadyH.cons (o := { dst := some 34, op := Go.Op.call { callee := Go.Callee.value (Go.Operand.func 80), args := #[Go.Operand.tmp 29, Go.Operand.tmp 31, Go.Operand.tmp 33], argTypes := #[24, 3, 3] }, type := 3, pos := "hold.go:109", after := #[{ on := 1, ground := Go.Ground.data }, { on := 3, ground := Go.Ground.data }, { on := 5, ground := Go.Ground.data }], guard := none }) rfl (fun K hK => ?_) AllReadyH.nil
      go_simp
      go_at_call 80
      refine (HD1.out _).mono ?_
      rintro e w6 ⟨rfl, hb6⟩
      have hw6 : Below ws.heap.size ws w6 := ((Below.refl ws.heap.size ws).drew).trans (hb6.mono ((Below.refl ws.heap.size ws).drew).size)
      have hs6 := hw6.size
      refine hK.out _ _ ⟨hHeld.1.trans (hb6.mono (by have := hHeld.1.size; omega)), (hb6.block wr.heap.size (by have := hHeld.1.size; omega)).trans hHeld.2⟩ (fun hHeld => ?_)
      clear hK K hb6
      try simp only [Act.put, List.setIfInBounds_toArray, List.set_cons_zero, List.set_cons_succ]
      refine wpAnyH_ready (rs := [12]) (by kernel_rfl) (by simp) ?_
      refine AllReadyH.cons (o := { dst := some 40, op := Go.Op.call { callee := Go.Callee.value (Go.Operand.func 80), args := #[Go.Operand.tmp 35, Go.Operand.tmp 37, Go.Operand.tmp 39], argTypes := #[24, 3, 3] }, type := 3, pos := "hold.go:109", after := #[{ on := 7, ground := Go.Ground.data }, { on := 9, ground := Go.Ground.data }, { on := 11, ground := Go.Ground.data }, { on := 6, ground := Go.Ground.chain }], guard := none }) rfl (fun K hK => ?_) AllReadyH.nil
      go_simp
      go_at_call 80
      refine (HD2.out _).mono ?_
      rintro e w12 ⟨rfl, hb12⟩
      have hw12 : Below ws.heap.size ws w12 := (hw6).trans (hb12.mono (hw6).size)
      have hs12 := hw12.size
      refine hK.out _ _ ⟨hHeld.1.trans (hb12.mono (by have := hHeld.1.size; omega)), (hb12.block wr.heap.size (by have := hHeld.1.size; omega)).trans hHeld.2⟩ (fun hHeld => ?_)
      clear hK K hb12
      try simp only [Act.put, List.setIfInBounds_toArray, List.set_cons_zero, List.set_cons_succ]
      refine wpAnyH_ready (rs := [13]) (by kernel_rfl) (by simp) ?_
      refine AllReadyH.cons (o := { dst := some 41, op := Go.Op.buildSlice 22 2 #[(0, Go.Operand.tmp 34), (1, Go.Operand.tmp 40)], type := 22, pos := "hold.go:109", after := #[{ on := 6, ground := Go.Ground.data }, { on := 12, ground := Go.Ground.data }], guard := none }) rfl (fun K hK => ?_) AllReadyH.nil
      go_simp
      refine hK.out _ _ ⟨hHeld.1.alloc (by omega) _, (Below.heap_alloc _ _ _ (by omega)).trans hHeld.2⟩ (fun hHeld => ?_)
      clear hK K
      refine wpAnyH_ready (rs := [14]) (by kernel_rfl) (by simp) ?_
      refine AllReadyH.cons (o := { dst := some 42, op := Go.Op.call { callee := Go.Callee.builtin Go.Builtin.append, args := #[Go.Operand.tmp 28, Go.Operand.tmp 41], argTypes := #[22, 22] }, type := 22, pos := "hold.go:109", after := #[{ on := 0, ground := Go.Ground.data }, { on := 13, ground := Go.Ground.data }, { on := 12, ground := Go.Ground.chain }], guard := none }) rfl (fun K hK => ?_) AllReadyH.nil
      refine step_append_lies _ (by rfl) _ _ _ (by rfl) wX.heap.size 3 n0 _ 1 8 Tryz.underlying22 hi hz0 hz1 hz2 rfl (by decide) (.slice av CQ.length cv) CQ.length _ (by rfl) (owns_belowI HRow.out (hw12.alloc hs12 _)) ⟨w12.heap.size, 0, none⟩ 2 2 [.int .i64 (dstK L dir D), .int .i64 (dstK L dir U)] (by rfl) (by rfl) (World.news_of_block (w := w12.alloc (.cells #[.int .i64 (dstK L dir D), .int .i64 (dstK L dir U)] 3)) (B := w12.heap.size) (cs := #[.int .i64 (dstK L dir D), .int .i64 (dstK L dir U)]) (t := 3) (fr := (0, 0)) (heap_alloc_new _ _)) (by simp [Value.oneCell']) (by decide) (by unfold maxLen; omega) (by omega) (by simp; omega) _ rfl ?_
      intro g6 c6 w6 hown6 hgrow6 hat6 hlt6
      refine hK.out _ _ ⟨hHeld.1.grown hgrow6 (by simp; omega) (fun z hz => owns_blockI HRow.out hz), (hgrow6.block wr.heap.size (by simp; omega) HNe.out).trans hHeld.2⟩ (fun hHeld => ?_)
      have hb6 : Below wX.heap.size wX w6 := hbs.trans hHeld.1
      have hown6 := Lib.hid hown6
      clear hK K hgrow6 hat6 hlt6
      try simp only [Act.put, List.setIfInBounds_toArray, List.set_cons_zero, List.set_cons_succ]
      refine takeU (i := 15) (some 10) (.slice (some ⟨g6, 0, none⟩) (CQ.length + 2) c6) (by kernel_rfl) (by kernel_rfl) (by kernel_rfl) (by kernel_rfl) (by kernel_rfl) (fun _ => by kernel_rfl) (fun _ _ _ h => h) hHeld ?_
      refine wpAnyH_done (by kernel_rfl) ?_ _
      try simp only [Act.put, List.setIfInBounds_toArray, List.set_cons_zero, List.set_cons_succ]
      go_wp2_with fail
      go_roundw
      case rel => exact ⟨k + 1, by omega, by go_num, ⟨some ⟨g6, 0, none⟩, c6, by rw [HPair.out.2]⟩, Lib.hid (by rw [HPair.out.1, HPair.out.2]; exact hown6.out), hb6⟩
      case measure => simp [intOf]; omega
    · obtain rfl : k = row.length := by omega
      have hbw := hwX.trans (hbr.mono hwX.size)
      have r0 := cell_below HR0.out hbr
      have r1 := cell_below HR1.out hbr
      have f0 := (hbr.frozen (p := ⟨w.heap.size + 1 + 1, 0, none⟩) (block_lt HR0.out)).trans HF01.out.1
      have f1 := (hbr.frozen (p := ⟨w.heap.size + 1 + 1, 1, none⟩) (block_lt HR1.out)).trans HF01.out.2
      have HRW : Hid (wr.heap[w.heap.size + 1 + 1]? = some (.cells #[.nilFunc, .slice none 0 0] 97)) := Lib.hid ((((hbB1.out.trans (hbX1.out.mono hbB1.out.size)).trans (hbr.mono (by have := hbB1.out.size; have := hbX1.out.size; omega))).block _ (by omega)).trans HRH.out)
      have HPr := Lib.hid (HPX.out.below hbr)
      have q0 := cell_below HQ0.out hbr
      have y0 := cell_below HY0.out hbr
      have HFar : Hid (∀ v0 v1 b, b ≠ w.heap.size + 1 + 1 → ((wr.setCell ⟨w.heap.size + 1 + 1, 0, none⟩ v0).setCell ⟨w.heap.size + 1 + 1, 1, none⟩ v1).heap[b]? = wr.heap[b]?) := Lib.hid fun v0 v1 b hb => (Below.heap_setCell _ _ _ _ (by simpa using hb)).trans (Below.heap_setCell _ _ _ _ (by simpa using hb))
      have HBf : Hid (∀ v0 v1, Below w.heap.size w ((wr.setCell ⟨w.heap.size + 1 + 1, 0, none⟩ v0).setCell ⟨w.heap.size + 1 + 1, 1, none⟩ v1)) := Lib.hid fun v0 v1 => (hbw.setCell (p := ⟨w.heap.size + 1 + 1, 0, none⟩) (by simp; omega) _).setCell (p := ⟨w.heap.size + 1 + 1, 1, none⟩) (by simp; omega) _
      have Q0 := Lib.hid q0
      have Y0 := Lib.hid y0
      have L0 := Lib.hid l0
      have L1 := Lib.hid l1
      have Y1 := Lib.hid y1
      have hlc := HLen2.out row.length
      have HLc := Lib.hid hlc
      have hsr := hbr.size
      clear q0 y0 hbr hbw hlc l0 l1 y1
      go_wp2_with fail
      refine bodyPost_ret (v := .agg #[.func (.func 97) #[] #[.pointer (some ⟨w1.heap.size, 0, none⟩), .pointer (some ⟨w.heap.size + 1, 0, none⟩), .pointer (some ⟨w.heap.size, 0, none⟩)], .slice av (cutsK L dir row row.length).length cv]) (by simp [results, Tryz.results58, go_sem, r0, r1]) rfl ?_
      have tr : ∀ v0 v1 b o v, b ≠ w.heap.size + 1 + 1 → wr.cell? ⟨b, o, none⟩ = some v → ((wr.setCell ⟨w.heap.size + 1 + 1, 0, none⟩ v0).setCell ⟨w.heap.size + 1 + 1, 1, none⟩ v1).cell? ⟨b, o, none⟩ = some v := fun v0 v1 b o v hb hc => (World.cell?_of_block (w := wr) (a := ⟨b, o, none⟩) (HFar.out v0 v1 b hb)).trans hc
      refine ⟨row, ar, cr, w1.heap.size, w.heap.size + 1, w.heap.size, av, cv, HRL.out, hrl, pst_far HPr.out (fun b o k n hc => HFar.out _ _ b (cell_neF HRW.out hc)), tr _ _ _ _ _ (by omega) Q0.out, tr _ _ _ _ _ (by omega) Y0.out, tr _ _ _ _ _ (by omega) Y1.out, tr _ _ _ _ _ (by omega) L0.out, tr _ _ _ _ _ (by omega) L1.out, rfl, ?_, cutsK_bd HLB.out.1 HLB.out.2 HBd.out row.length (Nat.le_refl _), HBf.out _ _⟩
      have hcb := cutsK_bd HLB.out.1 HLB.out.2 HBd.out (dir := dir) row.length (Nat.le_refl _)
      refine ⟨by rw [HLc.out]; omega, fun i hi => ?_, ?_⟩
      · have := hcb (gi (cutsK L dir row row.length) i) (by unfold gi; rw [List.getD_eq_getElem?_getD, List.getElem?_eq_getElem hi]; exact List.getElem_mem hi)
        unfold I64
        omega
      · rcases HRow.out.2 with ⟨h1, h2⟩ | ⟨g2, c2, cur, h1, hg2, hb2, _⟩
        · exact absurd h2 (by rw [HLc.out]; omega)
        · obtain ⟨rfl, rfl⟩ : av = some ⟨g2, 0, none⟩ ∧ cv = c2 := by simpa using h1
          refine ⟨g2, 0, fun _ => rfl, fun i hi => ?_⟩
          rw [Nat.zero_add]
          refine tr _ _ _ _ _ (by omega) ?_
          rw [World.ownsRow.cellAt HRow.out i (by omega)]; exact clI_get _ hi
end Go.Proofs.YtiagflackfkmnaaGreat
