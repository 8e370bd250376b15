/-
  The reference's Holding. By an AI agent.
-/
import Derived.Test.YtiagflackfkmnaaGreatRuHb
import Derived.Deep.RegionHeld3
import Derived.Deep.DeepCutAuto
import Derived.BigQuiet
import Derived.BigRegion
namespace Go.Proofs.YtiagflackfkmnaaGreat
set_option linter.unusedVariables false
set_option linter.unusedSimpArgs false
open Go.RowKit

/-- One sign of account more, or none. -/
theorem lst_yes {p : Nat → Bool} {i : Nat} (h : p i = true) : lstX p (i + 1) = i := by rw [lstX, if_pos h]
theorem lst_no {p : Nat → Bool} {i : Nat} (h : p i = false) : lstX p (i + 1) = lstX p i := by rw [lstX, if_neg (by rw [h]; simp)]
set_option maxRecDepth 100000 in
set_option maxHeartbeats 4000000 in
theorem refHolding_r (L : Int) (a : Option Addr) (js : List Int) (ca : Nat) (aa : Option Addr) (l : List Sgn) (cl : Nat) (dir t k : Int) (hL1 : 0 ≤ L) (hL2 : L ≤ 100000) (hJ : ∀ j, j < js.length → 0 ≤ gi js j ∧ gi js j ≤ 100000) (hC : ∀ j, j < l.length → (0 ≤ (gs l j).c ∧ (gs l j).c ≤ 100000) ∧ 0 ≤ (gs l j).v ∧ (gs l j).v ≤ 100000) (hV : ∀ i, i < l.length → (gs l i).k = 1 → 0 < (gs l i).v) (hSo : ∀ i j, i < j → j < l.length → dstK L dir (gs l i).c ≤ dstK L dir (gs l j).c) (hn : l.length ≤ 1000) (ht : t = 1 ∨ t = 2) (hk1 : -1000000 ≤ k) (hk2 : k ≤ 1000000) (w : World) (hI : IntsS w a js) (hA : SgnS w aa l) :
    Calls Tryz.prog 56 #[.agg #[.int .i64 L, .slice a js.length ca], .slice aa l.length cl, .int .i64 dir, .int .i64 t, .int .i64 k] w fun e w' => e = .returned (.int .i64 (hS L js dir t k l 0)) ∧ Below w.heap.size w w' := by
  have HA := Lib.hid hA
  have HC := Lib.hid hC
  have HJ := Lib.hid hJ
  have HNone : Hid ((∀ j, j < l.length → relB L dir t k l j = false) → hS L js dir t k l 0 = 0) := Lib.hid fun h => hold_none ht hV h 0
  have HLast : Hid (∀ x, x < l.length → relB L dir t k l x = true → (∀ j, x < j → j < l.length → relB L dir t k l j = false) → hS L js dir t k l 0 = if endB (gs l x).k t = true then 0 else if jctB L js dir (dstK L dir (gs l x).c) k = true then 0 else if (plB l x && decide ((gs l (x + 1)).v ≤ k - dstK L dir (gs l x).c)) = true then 0 else strR (gs l x).k (gs l x).v t) := Lib.hid fun x h1 h2 h3 => hold_last ht hV hSo h1 h2 h3 0
  have HLc := Lib.hid (lstX_cases (relB L dir t k l))
  clear hC hJ hV hSo
  obtain ⟨-, blk, off, ad, cp, hadr, hc⟩ := hA
  have HR := Lib.hid hc
  have HAd : Hid (0 < l.length → aa = some ⟨blk, off, none⟩) := Lib.hid fun h => hadr (List.ne_nil_of_length_pos h)
  obtain ⟨hjl, -, jb, jo, hja, hjc⟩ := hI
  have HJc := Lib.hid hjc
  have HJa : Hid (0 < js.length → a = some ⟨jb, jo, none⟩) := Lib.hid fun h => hja (List.ne_nil_of_length_pos h)
  have HRel : Hid (∀ i, relB L dir t k l i = (decide (dstK L dir (gs l i).c ≤ k) && (decide (0 < strR (gs l i).k (gs l i).v t) || endB (gs l i).k t))) := Lib.hid fun i => rfl
  generalize hS L js dir t k l 0 = HV at *
  clear hadr hc hja hjc
  have HT := Lib.hid ht
  clear ht
  go_enter Tryz.func56, Tryz.ntmps56
  go_wp2_with fail
  obtain ⟨wB, hwB⟩ : ∃ wB, w.alloc (.cells #[.int .i64 L, .slice a js.length ca] 24) = wB := ⟨_, rfl⟩
  have hb : Below w.heap.size w wB := by rw [← hwB]; exact (Below.refl _ _).alloc (Nat.le_refl _) _
  have p0 : wB.cell? ⟨w.heap.size, 0, none⟩ = some (.int .i64 L) := by rw [← hwB]; simp [go_sem]
  have p1 : wB.cell? ⟨w.heap.size, 1, none⟩ = some (.slice a js.length ca) := by rw [← hwB]; simp [go_sem]
  rw [hwB]
  clear hwB
  have P0 := Lib.hid p0
  have P1 := Lib.hid p1
  have HB := Lib.hid hb
  clear p0 p1 hb
  go_wp2_with fail
  go_loopw [11, 12] (fun q i9 wr => ∃ i : Nat, i ≤ l.length ∧ i9 = .int .i64 i ∧ q = .int .i64 (lstX (relB L dir t k l) i) ∧ Below wB.heap.size wB wr) (fun _ i9 _ => l.length - (intOf i9).toNat)
  case atStart => exact ⟨0, Nat.zero_le _, rfl, rfl, Below.refl _ _⟩
  case round =>
    obtain ⟨i, hi, rfl, rfl, hbr⟩ := hrel
    have hbw := HB.out.trans (hbr.mono HB.out.size)
    have p0 := cell_below P0.out hbr
    have p1 := cell_below P1.out hbr
    have hzp := block_lt p0
    by_cases hlt : i < l.length
    · obtain rfl := HAd.out (by omega)
      obtain ⟨⟨c0, c1, c2, c3, c4, c5, c6, c7⟩, c8, hP⟩ := HR.out i hlt
      have hci := HC.out i hlt
      have HRi := HRel.out i
      have c0 := cell_below c0 hbw
      have c1 := cell_below c1 hbw
      have c2 := cell_below c2 hbw
      have c3 := cell_below c3 hbw
      have c4 := cell_below c4 hbw
      have c5 := cell_below c5 hbw
      have c6 := cell_below c6 hbw
      have c7 := cell_below c7 hbw
      have c8 := cell_below c8 hbw
      have hzc := block_lt c0
      have HD := Lib.hid (fun W => refDistance_r L a js.length ca dir (gs l i).c hL1 hL2 (by omega) (by omega) W)
      have HS := Lib.hid (fun W => refStart_r (gs l i) (ad i) (cp i) t HT.out W)
      have HE := Lib.hid (fun W => refEnd_r (gs l i) (ad i) (cp i) t HT.out W)
      obtain ⟨LX, hLX⟩ : ∃ LX, lstX (relB L dir t k l) i = LX := ⟨_, rfl⟩
      have HLY : Hid (relB L dir t k l i = true → lstX (relB L dir t k l) (i + 1) = i) := Lib.hid fun h => lst_yes h
      have HLN : Hid (relB L dir t k l i = false → lstX (relB L dir t k l) (i + 1) = LX) := Lib.hid fun h => by rw [lst_no h, hLX]
      rw [hLX]
      clear hLX hP HR HAd HC HJ HA HNone HLast HLc HJc HJa HRel
      have g1 : (i : Int) < (l.length : Int) := by omega
      generalize ad i = adi at *
      generalize cp i = cpi at *
      generalize strR (gs l i).k (gs l i).v t = S at *
      generalize dstK L dir (gs l i).c = D at *
      obtain ⟨eb, heb⟩ : ∃ eb, endB (gs l i).k t = eb := ⟨_, rfl⟩
      rw [heb] at HE HRi
      clear heb hci
      obtain ⟨x, hx⟩ : ∃ x, gs l i = x := ⟨_, rfl⟩
      rw [hx] at HS HE HD c0 c1 c2 c3 c4 c5 c6 c7 c8
      clear hx
      generalize relB L dir t k l i = rb at *
      obtain ⟨LY, hLY⟩ : ∃ LY, lstX (relB L dir t k l) (i + 1) = LY := ⟨_, rfl⟩
      rw [hLY] at HLY HLN
      have HLYe := Lib.hid hLY
      clear hLY
      go_wp2_with fail
      by_cases h1 : D ≤ k
      · have d1 : decide (D ≤ k) = true := decide_eq_true h1
        by_cases h2 : 0 < S
        · have d2 : decide (0 < S) = true := decide_eq_true h2
          have hv := HLY.out (by rw [HRi, d1, d2]; rfl)
          have HV2 := Lib.hid hv
          clear hv HRi HLY HLN HE
          refine wp_region_held_drew (S := fun w' => Below wr.heap.size wr w') (by kernel_rfl) ((Below.refl _ _).drew) (fun hHeld => ?_)
          refine wpAnyH_take (i := 0) (oi := { dst := some 22, op := Go.Op.load 24 (Go.Operand.tmp 5), type := 24, pos := "ref.go:165", after := #[], guard := none }) (v := .agg #[.int .i64 L, .slice a js.length ca]) rfl (by kernel_rfl) (by kernel_rfl) (by kernel_rfl) (fun _ _ _ h => h) (.inl ⟨by kernel_rfl, fun w9 h9 => by
            clear hHeld
            have d0 := (h9.cell (p := ⟨w.heap.size, 0, none⟩) hzp).trans p0
            have d1 := (h9.cell (p := ⟨w.heap.size, 1, none⟩) hzp).trans p1
            clear h9
            go_simp⟩) hHeld ?_
          refine takeU (i := 1) (some 23) (.int .i64 dir) (by kernel_rfl) (by kernel_rfl) (by kernel_rfl) (by kernel_rfl) (by kernel_rfl) (fun _ => by kernel_rfl) (fun _ _ _ h => h) hHeld ?_
          refine takeU (i := 2) (some 24) (.slice (some ⟨blk, off, none⟩) l.length cl) (by kernel_rfl) (by kernel_rfl) (by kernel_rfl) (by kernel_rfl) (by kernel_rfl) (fun _ => by kernel_rfl) (fun _ _ _ h => h) hHeld ?_
          refine takeU (i := 3) (some 25) (.int .i64 i) (by kernel_rfl) (by kernel_rfl) (by kernel_rfl) (by kernel_rfl) (by kernel_rfl) (fun _ => by kernel_rfl) (fun _ _ _ h => h) hHeld ?_
          refine wpAnyH_take (i := 4) (oi := { dst := some 26, op := Go.Op.indexAddr 25 (Go.Operand.tmp 24) (Go.Operand.tmp 25), type := 0, pos := "ref.go:165", after := #[{ on := 2, ground := Go.Ground.data }, { on := 3, ground := Go.Ground.data }], guard := none }) (v := .pointer (some ⟨blk, off + i * 9, none⟩)) rfl (by kernel_rfl) (by kernel_rfl) (by kernel_rfl) (fun _ _ _ h => h) (.inl ⟨by kernel_rfl, fun w9 h9 => by
            clear hHeld h9
            go_simp⟩) hHeld ?_
          refine takeU (i := 5) (some 27) (.pointer (some ⟨blk, off + i * 9 + 3, none⟩)) (by kernel_rfl) (by kernel_rfl) (by kernel_rfl) (by kernel_rfl) (by kernel_rfl) (fun _ => by kernel_rfl) (fun _ _ _ h => h) hHeld ?_
          refine wpAnyH_take (i := 6) (oi := { dst := some 28, op := Go.Op.load 3 (Go.Operand.tmp 27), type := 3, pos := "ref.go:165", after := #[{ on := 5, ground := Go.Ground.data }], guard := none }) (v := .int .i64 x.c) rfl (by kernel_rfl) (by kernel_rfl) (by kernel_rfl) (fun _ _ _ h => h) (.inl ⟨by kernel_rfl, fun w9 h9 => by
            clear hHeld
            have d0 := (h9.cell (p := ⟨blk, off + i * 9 + 3, none⟩) hzc).trans c3
            clear h9
            go_simp⟩) hHeld ?_
          refine takeU (i := 8) (some 30) (.int .i64 k) (by kernel_rfl) (by kernel_rfl) (by kernel_rfl) (by kernel_rfl) (by kernel_rfl) (fun _ => by kernel_rfl) (fun _ _ _ h => h) hHeld ?_
          try simp only [Act.put, List.setIfInBounds_toArray, List.set_cons_zero, List.set_cons_succ]
          refine wpAnyH_ready (rs := [7]) (by kernel_rfl) (by simp) ?_
          refine AllReadyH.cons (o := { dst := some 29, op := Go.Op.call { callee := Go.Callee.value (Go.Operand.func 91), args := #[Go.Operand.tmp 22, Go.Operand.tmp 23, Go.Operand.tmp 28], argTypes := #[24, 3, 3] }, type := 3, pos := "ref.go:165", after := #[{ on := 0, ground := Go.Ground.data }, { on := 1, ground := Go.Ground.data }, { on := 6, ground := Go.Ground.data }], guard := none }) rfl (fun K hK => ?_) AllReadyH.nil
          go_simp
          go_at_call 91
          refine (HD.out _).mono ?_
          rintro e w79 ⟨rfl, hb79⟩
          refine hK.out _ _ (hHeld.trans (hb79.mono hHeld.size)) (fun hHeld => ?_)
          clear hK K hb79
          try simp only [Act.put, List.setIfInBounds_toArray, List.set_cons_zero, List.set_cons_succ]
          refine wpAnyH_take (i := 9) (oi := { dst := some 31, op := Go.Op.binOp Go.BinOp.leq 3 (Go.Operand.tmp 29) (Go.Operand.tmp 30) 3, type := 4, pos := "ref.go:165", after := #[{ on := 7, ground := Go.Ground.data }, { on := 8, ground := Go.Ground.data }], guard := none }) (v := .bool true) rfl (by kernel_rfl) (by kernel_rfl) (by kernel_rfl) (fun _ _ _ h => h) (.inl ⟨by kernel_rfl, fun w9 h9 => by
            clear hHeld h9
            go_simp⟩) hHeld ?_
          refine takeU (i := 10) (some 32) (.bool true) (by kernel_rfl) (by kernel_rfl) (by kernel_rfl) (by kernel_rfl) (by kernel_rfl) (fun _ => by kernel_rfl) (fun _ _ _ h => h) hHeld ?_
          refine takeU (i := 11) (some 33) (.slice (some ⟨blk, off, none⟩) l.length cl) (by kernel_rfl) (by kernel_rfl) (by kernel_rfl) (by kernel_rfl) (by kernel_rfl) (fun _ => by kernel_rfl) (fun _ _ _ h => h) hHeld ?_
          refine takeU (i := 12) (some 34) (.int .i64 i) (by kernel_rfl) (by kernel_rfl) (by kernel_rfl) (by kernel_rfl) (by kernel_rfl) (fun _ => by kernel_rfl) (fun _ _ _ h => h) hHeld ?_
          refine wpAnyH_take (i := 13) (oi := { dst := some 35, op := Go.Op.indexAddr 25 (Go.Operand.tmp 33) (Go.Operand.tmp 34), type := 0, pos := "ref.go:165", after := #[{ on := 11, ground := Go.Ground.data }, { on := 12, ground := Go.Ground.data }, { on := 10, ground := Go.Ground.guard }], guard := some (10, true) }) (v := .pointer (some ⟨blk, off + i * 9, none⟩)) rfl (by kernel_rfl) (by kernel_rfl) (by kernel_rfl) (fun _ _ _ h => h) (.inl ⟨by kernel_rfl, fun w9 h9 => by
            clear hHeld h9
            go_simp⟩) hHeld ?_
          refine wpAnyH_take (i := 14) (oi := { dst := some 36, op := Go.Op.load 34 (Go.Operand.tmp 35), type := 34, pos := "ref.go:165", after := #[{ on := 13, ground := Go.Ground.data }, { on := 10, ground := Go.Ground.guard }], guard := some (10, true) }) (v := .agg #[.int .i64 x.n, .int .i64 x.k, .int .i64 x.v, .int .i64 x.c, .int .i64 x.d, .int .i64 x.rk, .int .i64 x.up, .int .i64 x.dn, .slice adi x.cv.length cpi]) rfl (by kernel_rfl) (by kernel_rfl) (by kernel_rfl) (fun _ _ _ h => h) (.inl ⟨by kernel_rfl, fun w9 h9 => by
            clear hHeld
            have d0 := (h9.cell (p := ⟨blk, off + i * 9, none⟩) hzc).trans c0
            have d1 := (h9.cell (p := ⟨blk, off + i * 9 + 1, none⟩) hzc).trans c1
            have d2 := (h9.cell (p := ⟨blk, off + i * 9 + 2, none⟩) hzc).trans c2
            have d3 := (h9.cell (p := ⟨blk, off + i * 9 + 3, none⟩) hzc).trans c3
            have d4 := (h9.cell (p := ⟨blk, off + i * 9 + 4, none⟩) hzc).trans c4
            have d5 := (h9.cell (p := ⟨blk, off + i * 9 + 5, none⟩) hzc).trans c5
            have d6 := (h9.cell (p := ⟨blk, off + i * 9 + 6, none⟩) hzc).trans c6
            have d7 := (h9.cell (p := ⟨blk, off + i * 9 + 7, none⟩) hzc).trans c7
            have d8 := (h9.cell (p := ⟨blk, off + i * 9 + 8, none⟩) hzc).trans c8
            clear h9
            go_simp⟩) hHeld ?_
          refine takeU (i := 15) (some 37) (.int .i64 t) (by kernel_rfl) (by kernel_rfl) (by kernel_rfl) (by kernel_rfl) (by kernel_rfl) (fun _ => by kernel_rfl) (fun _ _ _ h => h) hHeld ?_
          try simp only [Act.put, List.setIfInBounds_toArray, List.set_cons_zero, List.set_cons_succ]
          refine wpAnyH_ready (rs := [16]) (by kernel_rfl) (by simp) ?_
          refine AllReadyH.cons (o := { dst := some 38, op := Go.Op.call { callee := Go.Callee.value (Go.Operand.func 94), args := #[Go.Operand.tmp 36, Go.Operand.tmp 37], argTypes := #[34, 3] }, type := 3, pos := "ref.go:165", after := #[{ on := 14, ground := Go.Ground.data }, { on := 15, ground := Go.Ground.data }, { on := 10, ground := Go.Ground.chain }, { on := 10, ground := Go.Ground.guard }], guard := some (10, true) }) rfl (fun K hK => ?_) AllReadyH.nil
          go_simp
          go_at_call 94
          refine (HS.out _).mono ?_
          rintro e w169 ⟨rfl, hb169⟩
          refine hK.out _ _ (hHeld.trans (hb169.mono hHeld.size)) (fun hHeld => ?_)
          clear hK K hb169
          try simp only [Act.put, List.setIfInBounds_toArray, List.set_cons_zero, List.set_cons_succ]
          refine wpAnyH_take (i := 17) (oi := { dst := some 39, op := Go.Op.binOp Go.BinOp.gtr 3 (Go.Operand.tmp 38) (Go.Operand.const (Go.Value.int Go.IntKind.i64 0)) 3, type := 4, pos := "ref.go:165", after := #[{ on := 16, ground := Go.Ground.data }, { on := 10, ground := Go.Ground.guard }], guard := some (10, true) }) (v := .bool true) rfl (by kernel_rfl) (by kernel_rfl) (by kernel_rfl) (fun _ _ _ h => h) (.inl ⟨by kernel_rfl, fun w9 h9 => by
            clear hHeld h9
            go_simp⟩) hHeld ?_
          refine takeU (i := 18) (some 40) (.bool true) (by kernel_rfl) (by kernel_rfl) (by kernel_rfl) (by kernel_rfl) (by kernel_rfl) (fun _ => by kernel_rfl) (fun _ _ _ h => h) hHeld ?_
          refine skipU (i := 19) (some 41) (by kernel_rfl) (by kernel_rfl) (by kernel_rfl) (by kernel_rfl) (by kernel_rfl) (fun _ _ _ h => h) hHeld ?_
          refine skipU (i := 20) (some 42) (by kernel_rfl) (by kernel_rfl) (by kernel_rfl) (by kernel_rfl) (by kernel_rfl) (fun _ _ _ h => h) hHeld ?_
          refine skipU (i := 21) (some 43) (by kernel_rfl) (by kernel_rfl) (by kernel_rfl) (by kernel_rfl) (by kernel_rfl) (fun _ _ _ h => h) hHeld ?_
          refine skipU (i := 22) (some 44) (by kernel_rfl) (by kernel_rfl) (by kernel_rfl) (by kernel_rfl) (by kernel_rfl) (fun _ _ _ h => h) hHeld ?_
          refine skipU (i := 23) (some 45) (by kernel_rfl) (by kernel_rfl) (by kernel_rfl) (by kernel_rfl) (by kernel_rfl) (fun _ _ _ h => h) hHeld ?_
          refine skipU (i := 24) (some 46) (by kernel_rfl) (by kernel_rfl) (by kernel_rfl) (by kernel_rfl) (by kernel_rfl) (fun _ _ _ h => h) hHeld ?_
          refine takeU (i := 25) (some 47) (.bool true) (by kernel_rfl) (by kernel_rfl) (by kernel_rfl) (by kernel_rfl) (by kernel_rfl) (fun _ => by kernel_rfl) (fun _ _ _ h => h) hHeld ?_
          refine takeU (i := 26) (some 48) (.bool true) (by kernel_rfl) (by kernel_rfl) (by kernel_rfl) (by kernel_rfl) (by kernel_rfl) (fun _ => by kernel_rfl) (fun _ _ _ h => h) hHeld ?_
          refine wpAnyH_done (by kernel_rfl) ?_ _
          try simp only [Act.put, List.setIfInBounds_toArray, List.set_cons_zero, List.set_cons_succ]
          go_wp2_with fail
          go_roundw
          case rel => exact ⟨i + 1, by omega, by go_num, by rw [HLYe.out, HV2.out], hbr.trans (hHeld.mono hbr.size)⟩
          case measure => simp [intOf]; omega
        · have d2 : decide (0 < S) = false := decide_eq_false h2
          cases eb with
          | true =>
            have hv := HLY.out (by rw [HRi, d1, d2]; rfl)
            have HV2 := Lib.hid hv
            clear hv HRi HLY HLN
            refine wp_region_held_drew (S := fun w' => Below wr.heap.size wr w') (by kernel_rfl) ((Below.refl _ _).drew) (fun hHeld => ?_)
            refine wpAnyH_take (i := 0) (oi := { dst := some 22, op := Go.Op.load 24 (Go.Operand.tmp 5), type := 24, pos := "ref.go:165", after := #[], guard := none }) (v := .agg #[.int .i64 L, .slice a js.length ca]) rfl (by kernel_rfl) (by kernel_rfl) (by kernel_rfl) (fun _ _ _ h => h) (.inl ⟨by kernel_rfl, fun w9 h9 => by
              clear hHeld
              have d0 := (h9.cell (p := ⟨w.heap.size, 0, none⟩) hzp).trans p0
              have d1 := (h9.cell (p := ⟨w.heap.size, 1, none⟩) hzp).trans p1
              clear h9
              go_simp⟩) hHeld ?_
            refine takeU (i := 1) (some 23) (.int .i64 dir) (by kernel_rfl) (by kernel_rfl) (by kernel_rfl) (by kernel_rfl) (by kernel_rfl) (fun _ => by kernel_rfl) (fun _ _ _ h => h) hHeld ?_
            refine takeU (i := 2) (some 24) (.slice (some ⟨blk, off, none⟩) l.length cl) (by kernel_rfl) (by kernel_rfl) (by kernel_rfl) (by kernel_rfl) (by kernel_rfl) (fun _ => by kernel_rfl) (fun _ _ _ h => h) hHeld ?_
            refine takeU (i := 3) (some 25) (.int .i64 i) (by kernel_rfl) (by kernel_rfl) (by kernel_rfl) (by kernel_rfl) (by kernel_rfl) (fun _ => by kernel_rfl) (fun _ _ _ h => h) hHeld ?_
            refine wpAnyH_take (i := 4) (oi := { dst := some 26, op := Go.Op.indexAddr 25 (Go.Operand.tmp 24) (Go.Operand.tmp 25), type := 0, pos := "ref.go:165", after := #[{ on := 2, ground := Go.Ground.data }, { on := 3, ground := Go.Ground.data }], guard := none }) (v := .pointer (some ⟨blk, off + i * 9, none⟩)) rfl (by kernel_rfl) (by kernel_rfl) (by kernel_rfl) (fun _ _ _ h => h) (.inl ⟨by kernel_rfl, fun w9 h9 => by
              clear hHeld h9
              go_simp⟩) hHeld ?_
            refine takeU (i := 5) (some 27) (.pointer (some ⟨blk, off + i * 9 + 3, none⟩)) (by kernel_rfl) (by kernel_rfl) (by kernel_rfl) (by kernel_rfl) (by kernel_rfl) (fun _ => by kernel_rfl) (fun _ _ _ h => h) hHeld ?_
            refine wpAnyH_take (i := 6) (oi := { dst := some 28, op := Go.Op.load 3 (Go.Operand.tmp 27), type := 3, pos := "ref.go:165", after := #[{ on := 5, ground := Go.Ground.data }], guard := none }) (v := .int .i64 x.c) rfl (by kernel_rfl) (by kernel_rfl) (by kernel_rfl) (fun _ _ _ h => h) (.inl ⟨by kernel_rfl, fun w9 h9 => by
              clear hHeld
              have d0 := (h9.cell (p := ⟨blk, off + i * 9 + 3, none⟩) hzc).trans c3
              clear h9
              go_simp⟩) hHeld ?_
            refine takeU (i := 8) (some 30) (.int .i64 k) (by kernel_rfl) (by kernel_rfl) (by kernel_rfl) (by kernel_rfl) (by kernel_rfl) (fun _ => by kernel_rfl) (fun _ _ _ h => h) hHeld ?_
            try simp only [Act.put, List.setIfInBounds_toArray, List.set_cons_zero, List.set_cons_succ]
            refine wpAnyH_ready (rs := [7]) (by kernel_rfl) (by simp) ?_
            refine AllReadyH.cons (o := { dst := some 29, op := Go.Op.call { callee := Go.Callee.value (Go.Operand.func 91), args := #[Go.Operand.tmp 22, Go.Operand.tmp 23, Go.Operand.tmp 28], argTypes := #[24, 3, 3] }, type := 3, pos := "ref.go:165", after := #[{ on := 0, ground := Go.Ground.data }, { on := 1, ground := Go.Ground.data }, { on := 6, ground := Go.Ground.data }], guard := none }) rfl (fun K hK => ?_) AllReadyH.nil
            go_simp
            go_at_call 91
            refine (HD.out _).mono ?_
            rintro e w79 ⟨rfl, hb79⟩
            refine hK.out _ _ (hHeld.trans (hb79.mono hHeld.size)) (fun hHeld => ?_)
            clear hK K hb79
            try simp only [Act.put, List.setIfInBounds_toArray, List.set_cons_zero, List.set_cons_succ]
            refine wpAnyH_take (i := 9) (oi := { dst := some 31, op := Go.Op.binOp Go.BinOp.leq 3 (Go.Operand.tmp 29) (Go.Operand.tmp 30) 3, type := 4, pos := "ref.go:165", after := #[{ on := 7, ground := Go.Ground.data }, { on := 8, ground := Go.Ground.data }], guard := none }) (v := .bool true) rfl (by kernel_rfl) (by kernel_rfl) (by kernel_rfl) (fun _ _ _ h => h) (.inl ⟨by kernel_rfl, fun w9 h9 => by
              clear hHeld h9
              go_simp⟩) hHeld ?_
            refine takeU (i := 10) (some 32) (.bool true) (by kernel_rfl) (by kernel_rfl) (by kernel_rfl) (by kernel_rfl) (by kernel_rfl) (fun _ => by kernel_rfl) (fun _ _ _ h => h) hHeld ?_
            refine takeU (i := 11) (some 33) (.slice (some ⟨blk, off, none⟩) l.length cl) (by kernel_rfl) (by kernel_rfl) (by kernel_rfl) (by kernel_rfl) (by kernel_rfl) (fun _ => by kernel_rfl) (fun _ _ _ h => h) hHeld ?_
            refine takeU (i := 12) (some 34) (.int .i64 i) (by kernel_rfl) (by kernel_rfl) (by kernel_rfl) (by kernel_rfl) (by kernel_rfl) (fun _ => by kernel_rfl) (fun _ _ _ h => h) hHeld ?_
            refine wpAnyH_take (i := 13) (oi := { dst := some 35, op := Go.Op.indexAddr 25 (Go.Operand.tmp 33) (Go.Operand.tmp 34), type := 0, pos := "ref.go:165", after := #[{ on := 11, ground := Go.Ground.data }, { on := 12, ground := Go.Ground.data }, { on := 10, ground := Go.Ground.guard }], guard := some (10, true) }) (v := .pointer (some ⟨blk, off + i * 9, none⟩)) rfl (by kernel_rfl) (by kernel_rfl) (by kernel_rfl) (fun _ _ _ h => h) (.inl ⟨by kernel_rfl, fun w9 h9 => by
              clear hHeld h9
              go_simp⟩) hHeld ?_
            refine wpAnyH_take (i := 14) (oi := { dst := some 36, op := Go.Op.load 34 (Go.Operand.tmp 35), type := 34, pos := "ref.go:165", after := #[{ on := 13, ground := Go.Ground.data }, { on := 10, ground := Go.Ground.guard }], guard := some (10, true) }) (v := .agg #[.int .i64 x.n, .int .i64 x.k, .int .i64 x.v, .int .i64 x.c, .int .i64 x.d, .int .i64 x.rk, .int .i64 x.up, .int .i64 x.dn, .slice adi x.cv.length cpi]) rfl (by kernel_rfl) (by kernel_rfl) (by kernel_rfl) (fun _ _ _ h => h) (.inl ⟨by kernel_rfl, fun w9 h9 => by
              clear hHeld
              have d0 := (h9.cell (p := ⟨blk, off + i * 9, none⟩) hzc).trans c0
              have d1 := (h9.cell (p := ⟨blk, off + i * 9 + 1, none⟩) hzc).trans c1
              have d2 := (h9.cell (p := ⟨blk, off + i * 9 + 2, none⟩) hzc).trans c2
              have d3 := (h9.cell (p := ⟨blk, off + i * 9 + 3, none⟩) hzc).trans c3
              have d4 := (h9.cell (p := ⟨blk, off + i * 9 + 4, none⟩) hzc).trans c4
              have d5 := (h9.cell (p := ⟨blk, off + i * 9 + 5, none⟩) hzc).trans c5
              have d6 := (h9.cell (p := ⟨blk, off + i * 9 + 6, none⟩) hzc).trans c6
              have d7 := (h9.cell (p := ⟨blk, off + i * 9 + 7, none⟩) hzc).trans c7
              have d8 := (h9.cell (p := ⟨blk, off + i * 9 + 8, none⟩) hzc).trans c8
              clear h9
              go_simp⟩) hHeld ?_
            refine takeU (i := 15) (some 37) (.int .i64 t) (by kernel_rfl) (by kernel_rfl) (by kernel_rfl) (by kernel_rfl) (by kernel_rfl) (fun _ => by kernel_rfl) (fun _ _ _ h => h) hHeld ?_
            try simp only [Act.put, List.setIfInBounds_toArray, List.set_cons_zero, List.set_cons_succ]
            refine wpAnyH_ready (rs := [16]) (by kernel_rfl) (by simp) ?_
            refine AllReadyH.cons (o := { dst := some 38, op := Go.Op.call { callee := Go.Callee.value (Go.Operand.func 94), args := #[Go.Operand.tmp 36, Go.Operand.tmp 37], argTypes := #[34, 3] }, type := 3, pos := "ref.go:165", after := #[{ on := 14, ground := Go.Ground.data }, { on := 15, ground := Go.Ground.data }, { on := 10, ground := Go.Ground.chain }, { on := 10, ground := Go.Ground.guard }], guard := some (10, true) }) rfl (fun K hK => ?_) AllReadyH.nil
            go_simp
            go_at_call 94
            refine (HS.out _).mono ?_
            rintro e w169 ⟨rfl, hb169⟩
            refine hK.out _ _ (hHeld.trans (hb169.mono hHeld.size)) (fun hHeld => ?_)
            clear hK K hb169
            try simp only [Act.put, List.setIfInBounds_toArray, List.set_cons_zero, List.set_cons_succ]
            refine wpAnyH_take (i := 17) (oi := { dst := some 39, op := Go.Op.binOp Go.BinOp.gtr 3 (Go.Operand.tmp 38) (Go.Operand.const (Go.Value.int Go.IntKind.i64 0)) 3, type := 4, pos := "ref.go:165", after := #[{ on := 16, ground := Go.Ground.data }, { on := 10, ground := Go.Ground.guard }], guard := some (10, true) }) (v := .bool false) rfl (by kernel_rfl) (by kernel_rfl) (by kernel_rfl) (fun _ _ _ h => h) (.inl ⟨by kernel_rfl, fun w9 h9 => by
              clear hHeld h9
              go_simp⟩) hHeld ?_
            refine takeU (i := 18) (some 40) (.bool false) (by kernel_rfl) (by kernel_rfl) (by kernel_rfl) (by kernel_rfl) (by kernel_rfl) (fun _ => by kernel_rfl) (fun _ _ _ h => h) hHeld ?_
            refine takeU (i := 19) (some 41) (.slice (some ⟨blk, off, none⟩) l.length cl) (by kernel_rfl) (by kernel_rfl) (by kernel_rfl) (by kernel_rfl) (by kernel_rfl) (fun _ => by kernel_rfl) (fun _ _ _ h => h) hHeld ?_
            refine takeU (i := 20) (some 42) (.int .i64 i) (by kernel_rfl) (by kernel_rfl) (by kernel_rfl) (by kernel_rfl) (by kernel_rfl) (fun _ => by kernel_rfl) (fun _ _ _ h => h) hHeld ?_
            refine wpAnyH_take (i := 21) (oi := { dst := some 43, op := Go.Op.indexAddr 25 (Go.Operand.tmp 41) (Go.Operand.tmp 42), type := 0, pos := "ref.go:165", after := #[{ on := 19, ground := Go.Ground.data }, { on := 20, ground := Go.Ground.data }, { on := 18, ground := Go.Ground.guard }], guard := some (18, false) }) (v := .pointer (some ⟨blk, off + i * 9, none⟩)) rfl (by kernel_rfl) (by kernel_rfl) (by kernel_rfl) (fun _ _ _ h => h) (.inl ⟨by kernel_rfl, fun w9 h9 => by
              clear hHeld h9
              go_simp⟩) hHeld ?_
            refine wpAnyH_take (i := 22) (oi := { dst := some 44, op := Go.Op.load 34 (Go.Operand.tmp 43), type := 34, pos := "ref.go:165", after := #[{ on := 21, ground := Go.Ground.data }, { on := 18, ground := Go.Ground.guard }], guard := some (18, false) }) (v := .agg #[.int .i64 x.n, .int .i64 x.k, .int .i64 x.v, .int .i64 x.c, .int .i64 x.d, .int .i64 x.rk, .int .i64 x.up, .int .i64 x.dn, .slice adi x.cv.length cpi]) rfl (by kernel_rfl) (by kernel_rfl) (by kernel_rfl) (fun _ _ _ h => h) (.inl ⟨by kernel_rfl, fun w9 h9 => by
              clear hHeld
              have d0 := (h9.cell (p := ⟨blk, off + i * 9, none⟩) hzc).trans c0
              have d1 := (h9.cell (p := ⟨blk, off + i * 9 + 1, none⟩) hzc).trans c1
              have d2 := (h9.cell (p := ⟨blk, off + i * 9 + 2, none⟩) hzc).trans c2
              have d3 := (h9.cell (p := ⟨blk, off + i * 9 + 3, none⟩) hzc).trans c3
              have d4 := (h9.cell (p := ⟨blk, off + i * 9 + 4, none⟩) hzc).trans c4
              have d5 := (h9.cell (p := ⟨blk, off + i * 9 + 5, none⟩) hzc).trans c5
              have d6 := (h9.cell (p := ⟨blk, off + i * 9 + 6, none⟩) hzc).trans c6
              have d7 := (h9.cell (p := ⟨blk, off + i * 9 + 7, none⟩) hzc).trans c7
              have d8 := (h9.cell (p := ⟨blk, off + i * 9 + 8, none⟩) hzc).trans c8
              clear h9
              go_simp⟩) hHeld ?_
            refine takeU (i := 23) (some 45) (.int .i64 t) (by kernel_rfl) (by kernel_rfl) (by kernel_rfl) (by kernel_rfl) (by kernel_rfl) (fun _ => by kernel_rfl) (fun _ _ _ h => h) hHeld ?_
            try simp only [Act.put, List.setIfInBounds_toArray, List.set_cons_zero, List.set_cons_succ]
            refine wpAnyH_ready (rs := [24]) (by kernel_rfl) (by simp) ?_
            refine AllReadyH.cons (o := { dst := some 46, op := Go.Op.call { callee := Go.Callee.value (Go.Operand.func 95), args := #[Go.Operand.tmp 44, Go.Operand.tmp 45], argTypes := #[34, 3] }, type := 4, pos := "ref.go:165", after := #[{ on := 22, ground := Go.Ground.data }, { on := 23, ground := Go.Ground.data }, { on := 18, ground := Go.Ground.chain }, { on := 18, ground := Go.Ground.guard }], guard := some (18, false) }) rfl (fun K hK => ?_) AllReadyH.nil
            go_simp
            go_at_call 95
            refine (HE.out _).mono ?_
            rintro e w249 ⟨rfl, hb249⟩
            refine hK.out _ _ (hHeld.trans (hb249.mono hHeld.size)) (fun hHeld => ?_)
            clear hK K hb249
            try simp only [Act.put, List.setIfInBounds_toArray, List.set_cons_zero, List.set_cons_succ]
            refine takeU (i := 25) (some 47) (.bool true) (by kernel_rfl) (by kernel_rfl) (by kernel_rfl) (by kernel_rfl) (by kernel_rfl) (fun _ => by kernel_rfl) (fun _ _ _ h => h) hHeld ?_
            refine takeU (i := 26) (some 48) (.bool true) (by kernel_rfl) (by kernel_rfl) (by kernel_rfl) (by kernel_rfl) (by kernel_rfl) (fun _ => by kernel_rfl) (fun _ _ _ h => h) hHeld ?_
            refine wpAnyH_done (by kernel_rfl) ?_ _
            try simp only [Act.put, List.setIfInBounds_toArray, List.set_cons_zero, List.set_cons_succ]
            go_wp2_with fail
            go_roundw
            case rel => exact ⟨i + 1, by omega, by go_num, by rw [HLYe.out, HV2.out], hbr.trans (hHeld.mono hbr.size)⟩
            case measure => simp [intOf]; omega
          | false =>
            have hv := HLN.out (by rw [HRi, d1, d2]; rfl)
            have HV2 := Lib.hid hv
            clear hv HRi HLY HLN
            refine wp_region_held_drew (S := fun w' => Below wr.heap.size wr w') (by kernel_rfl) ((Below.refl _ _).drew) (fun hHeld => ?_)
            refine wpAnyH_take (i := 0) (oi := { dst := some 22, op := Go.Op.load 24 (Go.Operand.tmp 5), type := 24, pos := "ref.go:165", after := #[], guard := none }) (v := .agg #[.int .i64 L, .slice a js.length ca]) rfl (by kernel_rfl) (by kernel_rfl) (by kernel_rfl) (fun _ _ _ h => h) (.inl ⟨by kernel_rfl, fun w9 h9 => by
              clear hHeld
              have d0 := (h9.cell (p := ⟨w.heap.size, 0, none⟩) hzp).trans p0
              have d1 := (h9.cell (p := ⟨w.heap.size, 1, none⟩) hzp).trans p1
              clear h9
              go_simp⟩) hHeld ?_
            refine takeU (i := 1) (some 23) (.int .i64 dir) (by kernel_rfl) (by kernel_rfl) (by kernel_rfl) (by kernel_rfl) (by kernel_rfl) (fun _ => by kernel_rfl) (fun _ _ _ h => h) hHeld ?_
            refine takeU (i := 2) (some 24) (.slice (some ⟨blk, off, none⟩) l.length cl) (by kernel_rfl) (by kernel_rfl) (by kernel_rfl) (by kernel_rfl) (by kernel_rfl) (fun _ => by kernel_rfl) (fun _ _ _ h => h) hHeld ?_
            refine takeU (i := 3) (some 25) (.int .i64 i) (by kernel_rfl) (by kernel_rfl) (by kernel_rfl) (by kernel_rfl) (by kernel_rfl) (fun _ => by kernel_rfl) (fun _ _ _ h => h) hHeld ?_
            refine wpAnyH_take (i := 4) (oi := { dst := some 26, op := Go.Op.indexAddr 25 (Go.Operand.tmp 24) (Go.Operand.tmp 25), type := 0, pos := "ref.go:165", after := #[{ on := 2, ground := Go.Ground.data }, { on := 3, ground := Go.Ground.data }], guard := none }) (v := .pointer (some ⟨blk, off + i * 9, none⟩)) rfl (by kernel_rfl) (by kernel_rfl) (by kernel_rfl) (fun _ _ _ h => h) (.inl ⟨by kernel_rfl, fun w9 h9 => by
              clear hHeld h9
              go_simp⟩) hHeld ?_
            refine takeU (i := 5) (some 27) (.pointer (some ⟨blk, off + i * 9 + 3, none⟩)) (by kernel_rfl) (by kernel_rfl) (by kernel_rfl) (by kernel_rfl) (by kernel_rfl) (fun _ => by kernel_rfl) (fun _ _ _ h => h) hHeld ?_
            refine wpAnyH_take (i := 6) (oi := { dst := some 28, op := Go.Op.load 3 (Go.Operand.tmp 27), type := 3, pos := "ref.go:165", after := #[{ on := 5, ground := Go.Ground.data }], guard := none }) (v := .int .i64 x.c) rfl (by kernel_rfl) (by kernel_rfl) (by kernel_rfl) (fun _ _ _ h => h) (.inl ⟨by kernel_rfl, fun w9 h9 => by
              clear hHeld
              have d0 := (h9.cell (p := ⟨blk, off + i * 9 + 3, none⟩) hzc).trans c3
              clear h9
              go_simp⟩) hHeld ?_
            refine takeU (i := 8) (some 30) (.int .i64 k) (by kernel_rfl) (by kernel_rfl) (by kernel_rfl) (by kernel_rfl) (by kernel_rfl) (fun _ => by kernel_rfl) (fun _ _ _ h => h) hHeld ?_
            try simp only [Act.put, List.setIfInBounds_toArray, List.set_cons_zero, List.set_cons_succ]
            refine wpAnyH_ready (rs := [7]) (by kernel_rfl) (by simp) ?_
            refine AllReadyH.cons (o := { dst := some 29, op := Go.Op.call { callee := Go.Callee.value (Go.Operand.func 91), args := #[Go.Operand.tmp 22, Go.Operand.tmp 23, Go.Operand.tmp 28], argTypes := #[24, 3, 3] }, type := 3, pos := "ref.go:165", after := #[{ on := 0, ground := Go.Ground.data }, { on := 1, ground := Go.Ground.data }, { on := 6, ground := Go.Ground.data }], guard := none }) rfl (fun K hK => ?_) AllReadyH.nil
            go_simp
            go_at_call 91
            refine (HD.out _).mono ?_
            rintro e w79 ⟨rfl, hb79⟩
            refine hK.out _ _ (hHeld.trans (hb79.mono hHeld.size)) (fun hHeld => ?_)
            clear hK K hb79
            try simp only [Act.put, List.setIfInBounds_toArray, List.set_cons_zero, List.set_cons_succ]
            refine wpAnyH_take (i := 9) (oi := { dst := some 31, op := Go.Op.binOp Go.BinOp.leq 3 (Go.Operand.tmp 29) (Go.Operand.tmp 30) 3, type := 4, pos := "ref.go:165", after := #[{ on := 7, ground := Go.Ground.data }, { on := 8, ground := Go.Ground.data }], guard := none }) (v := .bool true) rfl (by kernel_rfl) (by kernel_rfl) (by kernel_rfl) (fun _ _ _ h => h) (.inl ⟨by kernel_rfl, fun w9 h9 => by
              clear hHeld h9
              go_simp⟩) hHeld ?_
            refine takeU (i := 10) (some 32) (.bool true) (by kernel_rfl) (by kernel_rfl) (by kernel_rfl) (by kernel_rfl) (by kernel_rfl) (fun _ => by kernel_rfl) (fun _ _ _ h => h) hHeld ?_
            refine takeU (i := 11) (some 33) (.slice (some ⟨blk, off, none⟩) l.length cl) (by kernel_rfl) (by kernel_rfl) (by kernel_rfl) (by kernel_rfl) (by kernel_rfl) (fun _ => by kernel_rfl) (fun _ _ _ h => h) hHeld ?_
            refine takeU (i := 12) (some 34) (.int .i64 i) (by kernel_rfl) (by kernel_rfl) (by kernel_rfl) (by kernel_rfl) (by kernel_rfl) (fun _ => by kernel_rfl) (fun _ _ _ h => h) hHeld ?_
            refine wpAnyH_take (i := 13) (oi := { dst := some 35, op := Go.Op.indexAddr 25 (Go.Operand.tmp 33) (Go.Operand.tmp 34), type := 0, pos := "ref.go:165", after := #[{ on := 11, ground := Go.Ground.data }, { on := 12, ground := Go.Ground.data }, { on := 10, ground := Go.Ground.guard }], guard := some (10, true) }) (v := .pointer (some ⟨blk, off + i * 9, none⟩)) rfl (by kernel_rfl) (by kernel_rfl) (by kernel_rfl) (fun _ _ _ h => h) (.inl ⟨by kernel_rfl, fun w9 h9 => by
              clear hHeld h9
              go_simp⟩) hHeld ?_
            refine wpAnyH_take (i := 14) (oi := { dst := some 36, op := Go.Op.load 34 (Go.Operand.tmp 35), type := 34, pos := "ref.go:165", after := #[{ on := 13, ground := Go.Ground.data }, { on := 10, ground := Go.Ground.guard }], guard := some (10, true) }) (v := .agg #[.int .i64 x.n, .int .i64 x.k, .int .i64 x.v, .int .i64 x.c, .int .i64 x.d, .int .i64 x.rk, .int .i64 x.up, .int .i64 x.dn, .slice adi x.cv.length cpi]) rfl (by kernel_rfl) (by kernel_rfl) (by kernel_rfl) (fun _ _ _ h => h) (.inl ⟨by kernel_rfl, fun w9 h9 => by
              clear hHeld
              have d0 := (h9.cell (p := ⟨blk, off + i * 9, none⟩) hzc).trans c0
              have d1 := (h9.cell (p := ⟨blk, off + i * 9 + 1, none⟩) hzc).trans c1
              have d2 := (h9.cell (p := ⟨blk, off + i * 9 + 2, none⟩) hzc).trans c2
              have d3 := (h9.cell (p := ⟨blk, off + i * 9 + 3, none⟩) hzc).trans c3
              have d4 := (h9.cell (p := ⟨blk, off + i * 9 + 4, none⟩) hzc).trans c4
              have d5 := (h9.cell (p := ⟨blk, off + i * 9 + 5, none⟩) hzc).trans c5
              have d6 := (h9.cell (p := ⟨blk, off + i * 9 + 6, none⟩) hzc).trans c6
              have d7 := (h9.cell (p := ⟨blk, off + i * 9 + 7, none⟩) hzc).trans c7
              have d8 := (h9.cell (p := ⟨blk, off + i * 9 + 8, none⟩) hzc).trans c8
              clear h9
              go_simp⟩) hHeld ?_
            refine takeU (i := 15) (some 37) (.int .i64 t) (by kernel_rfl) (by kernel_rfl) (by kernel_rfl) (by kernel_rfl) (by kernel_rfl) (fun _ => by kernel_rfl) (fun _ _ _ h => h) hHeld ?_
            try simp only [Act.put, List.setIfInBounds_toArray, List.set_cons_zero, List.set_cons_succ]
            refine wpAnyH_ready (rs := [16]) (by kernel_rfl) (by simp) ?_
            refine AllReadyH.cons (o := { dst := some 38, op := Go.Op.call { callee := Go.Callee.value (Go.Operand.func 94), args := #[Go.Operand.tmp 36, Go.Operand.tmp 37], argTypes := #[34, 3] }, type := 3, pos := "ref.go:165", after := #[{ on := 14, ground := Go.Ground.data }, { on := 15, ground := Go.Ground.data }, { on := 10, ground := Go.Ground.chain }, { on := 10, ground := Go.Ground.guard }], guard := some (10, true) }) rfl (fun K hK => ?_) AllReadyH.nil
            go_simp
            go_at_call 94
            refine (HS.out _).mono ?_
            rintro e w169 ⟨rfl, hb169⟩
            refine hK.out _ _ (hHeld.trans (hb169.mono hHeld.size)) (fun hHeld => ?_)
            clear hK K hb169
            try simp only [Act.put, List.setIfInBounds_toArray, List.set_cons_zero, List.set_cons_succ]
            refine wpAnyH_take (i := 17) (oi := { dst := some 39, op := Go.Op.binOp Go.BinOp.gtr 3 (Go.Operand.tmp 38) (Go.Operand.const (Go.Value.int Go.IntKind.i64 0)) 3, type := 4, pos := "ref.go:165", after := #[{ on := 16, ground := Go.Ground.data }, { on := 10, ground := Go.Ground.guard }], guard := some (10, true) }) (v := .bool false) rfl (by kernel_rfl) (by kernel_rfl) (by kernel_rfl) (fun _ _ _ h => h) (.inl ⟨by kernel_rfl, fun w9 h9 => by
              clear hHeld h9
              go_simp⟩) hHeld ?_
            refine takeU (i := 18) (some 40) (.bool false) (by kernel_rfl) (by kernel_rfl) (by kernel_rfl) (by kernel_rfl) (by kernel_rfl) (fun _ => by kernel_rfl) (fun _ _ _ h => h) hHeld ?_
            refine takeU (i := 19) (some 41) (.slice (some ⟨blk, off, none⟩) l.length cl) (by kernel_rfl) (by kernel_rfl) (by kernel_rfl) (by kernel_rfl) (by kernel_rfl) (fun _ => by kernel_rfl) (fun _ _ _ h => h) hHeld ?_
            refine takeU (i := 20) (some 42) (.int .i64 i) (by kernel_rfl) (by kernel_rfl) (by kernel_rfl) (by kernel_rfl) (by kernel_rfl) (fun _ => by kernel_rfl) (fun _ _ _ h => h) hHeld ?_
            refine wpAnyH_take (i := 21) (oi := { dst := some 43, op := Go.Op.indexAddr 25 (Go.Operand.tmp 41) (Go.Operand.tmp 42), type := 0, pos := "ref.go:165", after := #[{ on := 19, ground := Go.Ground.data }, { on := 20, ground := Go.Ground.data }, { on := 18, ground := Go.Ground.guard }], guard := some (18, false) }) (v := .pointer (some ⟨blk, off + i * 9, none⟩)) rfl (by kernel_rfl) (by kernel_rfl) (by kernel_rfl) (fun _ _ _ h => h) (.inl ⟨by kernel_rfl, fun w9 h9 => by
              clear hHeld h9
              go_simp⟩) hHeld ?_
            refine wpAnyH_take (i := 22) (oi := { dst := some 44, op := Go.Op.load 34 (Go.Operand.tmp 43), type := 34, pos := "ref.go:165", after := #[{ on := 21, ground := Go.Ground.data }, { on := 18, ground := Go.Ground.guard }], guard := some (18, false) }) (v := .agg #[.int .i64 x.n, .int .i64 x.k, .int .i64 x.v, .int .i64 x.c, .int .i64 x.d, .int .i64 x.rk, .int .i64 x.up, .int .i64 x.dn, .slice adi x.cv.length cpi]) rfl (by kernel_rfl) (by kernel_rfl) (by kernel_rfl) (fun _ _ _ h => h) (.inl ⟨by kernel_rfl, fun w9 h9 => by
              clear hHeld
              have d0 := (h9.cell (p := ⟨blk, off + i * 9, none⟩) hzc).trans c0
              have d1 := (h9.cell (p := ⟨blk, off + i * 9 + 1, none⟩) hzc).trans c1
              have d2 := (h9.cell (p := ⟨blk, off + i * 9 + 2, none⟩) hzc).trans c2
              have d3 := (h9.cell (p := ⟨blk, off + i * 9 + 3, none⟩) hzc).trans c3
              have d4 := (h9.cell (p := ⟨blk, off + i * 9 + 4, none⟩) hzc).trans c4
              have d5 := (h9.cell (p := ⟨blk, off + i * 9 + 5, none⟩) hzc).trans c5
              have d6 := (h9.cell (p := ⟨blk, off + i * 9 + 6, none⟩) hzc).trans c6
              have d7 := (h9.cell (p := ⟨blk, off + i * 9 + 7, none⟩) hzc).trans c7
              have d8 := (h9.cell (p := ⟨blk, off + i * 9 + 8, none⟩) hzc).trans c8
              clear h9
              go_simp⟩) hHeld ?_
            refine takeU (i := 23) (some 45) (.int .i64 t) (by kernel_rfl) (by kernel_rfl) (by kernel_rfl) (by kernel_rfl) (by kernel_rfl) (fun _ => by kernel_rfl) (fun _ _ _ h => h) hHeld ?_
            try simp only [Act.put, List.setIfInBounds_toArray, List.set_cons_zero, List.set_cons_succ]
            refine wpAnyH_ready (rs := [24]) (by kernel_rfl) (by simp) ?_
            refine AllReadyH.cons (o := { dst := some 46, op := Go.Op.call { callee := Go.Callee.value (Go.Operand.func 95), args := #[Go.Operand.tmp 44, Go.Operand.tmp 45], argTypes := #[34, 3] }, type := 4, pos := "ref.go:165", after := #[{ on := 22, ground := Go.Ground.data }, { on := 23, ground := Go.Ground.data }, { on := 18, ground := Go.Ground.chain }, { on := 18, ground := Go.Ground.guard }], guard := some (18, false) }) rfl (fun K hK => ?_) AllReadyH.nil
            go_simp
            go_at_call 95
            refine (HE.out _).mono ?_
            rintro e w249 ⟨rfl, hb249⟩
            refine hK.out _ _ (hHeld.trans (hb249.mono hHeld.size)) (fun hHeld => ?_)
            clear hK K hb249
            try simp only [Act.put, List.setIfInBounds_toArray, List.set_cons_zero, List.set_cons_succ]
            refine takeU (i := 25) (some 47) (.bool false) (by kernel_rfl) (by kernel_rfl) (by kernel_rfl) (by kernel_rfl) (by kernel_rfl) (fun _ => by kernel_rfl) (fun _ _ _ h => h) hHeld ?_
            refine takeU (i := 26) (some 48) (.bool false) (by kernel_rfl) (by kernel_rfl) (by kernel_rfl) (by kernel_rfl) (by kernel_rfl) (fun _ => by kernel_rfl) (fun _ _ _ h => h) hHeld ?_
            refine wpAnyH_done (by kernel_rfl) ?_ _
            try simp only [Act.put, List.setIfInBounds_toArray, List.set_cons_zero, List.set_cons_succ]
            go_wp2_with fail
            go_roundw
            case rel => exact ⟨i + 1, by omega, by go_num, by rw [HLYe.out, HV2.out], hbr.trans (hHeld.mono hbr.size)⟩
            case measure => simp [intOf]; omega
      · have d1 : decide (D ≤ k) = false := decide_eq_false h1
        have hv := HLN.out (by rw [HRi, d1]; rfl)
        have HV2 := Lib.hid hv
        clear hv HRi HLY HLN HE HS
        refine wp_region_held_drew (S := fun w' => Below wr.heap.size wr w') (by kernel_rfl) ((Below.refl _ _).drew) (fun hHeld => ?_)
        refine wpAnyH_take (i := 0) (oi := { dst := some 22, op := Go.Op.load 24 (Go.Operand.tmp 5), type := 24, pos := "ref.go:165", after := #[], guard := none }) (v := .agg #[.int .i64 L, .slice a js.length ca]) rfl (by kernel_rfl) (by kernel_rfl) (by kernel_rfl) (fun _ _ _ h => h) (.inl ⟨by kernel_rfl, fun w9 h9 => by
          clear hHeld
          have d0 := (h9.cell (p := ⟨w.heap.size, 0, none⟩) hzp).trans p0
          have d1 := (h9.cell (p := ⟨w.heap.size, 1, none⟩) hzp).trans p1
          clear h9
          go_simp⟩) hHeld ?_
        refine takeU (i := 1) (some 23) (.int .i64 dir) (by kernel_rfl) (by kernel_rfl) (by kernel_rfl) (by kernel_rfl) (by kernel_rfl) (fun _ => by kernel_rfl) (fun _ _ _ h => h) hHeld ?_
        refine takeU (i := 2) (some 24) (.slice (some ⟨blk, off, none⟩) l.length cl) (by kernel_rfl) (by kernel_rfl) (by kernel_rfl) (by kernel_rfl) (by kernel_rfl) (fun _ => by kernel_rfl) (fun _ _ _ h => h) hHeld ?_
        refine takeU (i := 3) (some 25) (.int .i64 i) (by kernel_rfl) (by kernel_rfl) (by kernel_rfl) (by kernel_rfl) (by kernel_rfl) (fun _ => by kernel_rfl) (fun _ _ _ h => h) hHeld ?_
        refine wpAnyH_take (i := 4) (oi := { dst := some 26, op := Go.Op.indexAddr 25 (Go.Operand.tmp 24) (Go.Operand.tmp 25), type := 0, pos := "ref.go:165", after := #[{ on := 2, ground := Go.Ground.data }, { on := 3, ground := Go.Ground.data }], guard := none }) (v := .pointer (some ⟨blk, off + i * 9, none⟩)) rfl (by kernel_rfl) (by kernel_rfl) (by kernel_rfl) (fun _ _ _ h => h) (.inl ⟨by kernel_rfl, fun w9 h9 => by
          clear hHeld h9
          go_simp⟩) hHeld ?_
        refine takeU (i := 5) (some 27) (.pointer (some ⟨blk, off + i * 9 + 3, none⟩)) (by kernel_rfl) (by kernel_rfl) (by kernel_rfl) (by kernel_rfl) (by kernel_rfl) (fun _ => by kernel_rfl) (fun _ _ _ h => h) hHeld ?_
        refine wpAnyH_take (i := 6) (oi := { dst := some 28, op := Go.Op.load 3 (Go.Operand.tmp 27), type := 3, pos := "ref.go:165", after := #[{ on := 5, ground := Go.Ground.data }], guard := none }) (v := .int .i64 x.c) rfl (by kernel_rfl) (by kernel_rfl) (by kernel_rfl) (fun _ _ _ h => h) (.inl ⟨by kernel_rfl, fun w9 h9 => by
          clear hHeld
          have d0 := (h9.cell (p := ⟨blk, off + i * 9 + 3, none⟩) hzc).trans c3
          clear h9
          go_simp⟩) hHeld ?_
        refine takeU (i := 8) (some 30) (.int .i64 k) (by kernel_rfl) (by kernel_rfl) (by kernel_rfl) (by kernel_rfl) (by kernel_rfl) (fun _ => by kernel_rfl) (fun _ _ _ h => h) hHeld ?_
        try simp only [Act.put, List.setIfInBounds_toArray, List.set_cons_zero, List.set_cons_succ]
        refine wpAnyH_ready (rs := [7]) (by kernel_rfl) (by simp) ?_
        refine AllReadyH.cons (o := { dst := some 29, op := Go.Op.call { callee := Go.Callee.value (Go.Operand.func 91), args := #[Go.Operand.tmp 22, Go.Operand.tmp 23, Go.Operand.tmp 28], argTypes := #[24, 3, 3] }, type := 3, pos := "ref.go:165", after := #[{ on := 0, ground := Go.Ground.data }, { on := 1, ground := Go.Ground.data }, { on := 6, ground := Go.Ground.data }], guard := none }) rfl (fun K hK => ?_) AllReadyH.nil
        go_simp
        go_at_call 91
        refine (HD.out _).mono ?_
        rintro e w79 ⟨rfl, hb79⟩
        refine hK.out _ _ (hHeld.trans (hb79.mono hHeld.size)) (fun hHeld => ?_)
        clear hK K hb79
        try simp only [Act.put, List.setIfInBounds_toArray, List.set_cons_zero, List.set_cons_succ]
        refine wpAnyH_take (i := 9) (oi := { dst := some 31, op := Go.Op.binOp Go.BinOp.leq 3 (Go.Operand.tmp 29) (Go.Operand.tmp 30) 3, type := 4, pos := "ref.go:165", after := #[{ on := 7, ground := Go.Ground.data }, { on := 8, ground := Go.Ground.data }], guard := none }) (v := .bool false) rfl (by kernel_rfl) (by kernel_rfl) (by kernel_rfl) (fun _ _ _ h => h) (.inl ⟨by kernel_rfl, fun w9 h9 => by
          clear hHeld h9
          go_simp⟩) hHeld ?_
        refine takeU (i := 10) (some 32) (.bool false) (by kernel_rfl) (by kernel_rfl) (by kernel_rfl) (by kernel_rfl) (by kernel_rfl) (fun _ => by kernel_rfl) (fun _ _ _ h => h) hHeld ?_
        refine skipU (i := 11) (some 33) (by kernel_rfl) (by kernel_rfl) (by kernel_rfl) (by kernel_rfl) (by kernel_rfl) (fun _ _ _ h => h) hHeld ?_
        refine skipU (i := 12) (some 34) (by kernel_rfl) (by kernel_rfl) (by kernel_rfl) (by kernel_rfl) (by kernel_rfl) (fun _ _ _ h => h) hHeld ?_
        refine skipU (i := 13) (some 35) (by kernel_rfl) (by kernel_rfl) (by kernel_rfl) (by kernel_rfl) (by kernel_rfl) (fun _ _ _ h => h) hHeld ?_
        refine skipU (i := 14) (some 36) (by kernel_rfl) (by kernel_rfl) (by kernel_rfl) (by kernel_rfl) (by kernel_rfl) (fun _ _ _ h => h) hHeld ?_
        refine skipU (i := 15) (some 37) (by kernel_rfl) (by kernel_rfl) (by kernel_rfl) (by kernel_rfl) (by kernel_rfl) (fun _ _ _ h => h) hHeld ?_
        refine skipU (i := 16) (some 38) (by kernel_rfl) (by kernel_rfl) (by kernel_rfl) (by kernel_rfl) (by kernel_rfl) (fun _ _ _ h => h) hHeld ?_
        refine skipU (i := 17) (some 39) (by kernel_rfl) (by kernel_rfl) (by kernel_rfl) (by kernel_rfl) (by kernel_rfl) (fun _ _ _ h => h) hHeld ?_
        refine skipU (i := 18) (some 40) (by kernel_rfl) (by kernel_rfl) (by kernel_rfl) (by kernel_rfl) (by kernel_rfl) (fun _ _ _ h => h) hHeld ?_
        refine skipU (i := 19) (some 41) (by kernel_rfl) (by kernel_rfl) (by kernel_rfl) (by kernel_rfl) (by kernel_rfl) (fun _ _ _ h => h) hHeld ?_
        refine skipU (i := 20) (some 42) (by kernel_rfl) (by kernel_rfl) (by kernel_rfl) (by kernel_rfl) (by kernel_rfl) (fun _ _ _ h => h) hHeld ?_
        refine skipU (i := 21) (some 43) (by kernel_rfl) (by kernel_rfl) (by kernel_rfl) (by kernel_rfl) (by kernel_rfl) (fun _ _ _ h => h) hHeld ?_
        refine skipU (i := 22) (some 44) (by kernel_rfl) (by kernel_rfl) (by kernel_rfl) (by kernel_rfl) (by kernel_rfl) (fun _ _ _ h => h) hHeld ?_
        refine skipU (i := 23) (some 45) (by kernel_rfl) (by kernel_rfl) (by kernel_rfl) (by kernel_rfl) (by kernel_rfl) (fun _ _ _ h => h) hHeld ?_
        refine skipU (i := 24) (some 46) (by kernel_rfl) (by kernel_rfl) (by kernel_rfl) (by kernel_rfl) (by kernel_rfl) (fun _ _ _ h => h) hHeld ?_
        refine skipU (i := 25) (some 47) (by kernel_rfl) (by kernel_rfl) (by kernel_rfl) (by kernel_rfl) (by kernel_rfl) (fun _ _ _ h => h) hHeld ?_
        refine takeU (i := 26) (some 48) (.bool false) (by kernel_rfl) (by kernel_rfl) (by kernel_rfl) (by kernel_rfl) (by kernel_rfl) (fun _ => by kernel_rfl) (fun _ _ _ h => h) hHeld ?_
        refine wpAnyH_done (by kernel_rfl) ?_ _
        try simp only [Act.put, List.setIfInBounds_toArray, List.set_cons_zero, List.set_cons_succ]
        go_wp2_with fail
        go_roundw
        case rel => exact ⟨i + 1, by omega, by go_num, by rw [HLYe.out, HV2.out], hbr.trans (hHeld.mono hbr.size)⟩
        case measure => simp [intOf]; omega
    · obtain rfl : i = l.length := by omega
      rcases HLc.out l.length with ⟨hx, hno⟩ | ⟨x, hxl, hx, hrx, hla⟩
      · have hv := HNone.out hno
        have HVv := Lib.hid hv
        rw [hx]
        clear hx hno hv HLc HR HAd HC HJ HA HNone HLast HJc HJa HRel HT
        go_wp2_with fail
        go_ret
        exact ⟨by rw [HVv.out] <;> rfl, hbw⟩
      · have hv := HLast.out x hxl hrx hla
        have HVv := Lib.hid hv
        rw [hx]
        obtain rfl := HAd.out (by omega)
        obtain ⟨⟨c0, c1, c2, c3, c4, c5, c6, c7⟩, c8, hP⟩ := HR.out x hxl
        have hcx := (HC.out x hxl).1
        have HPl := Lib.hid (fun W (hW : Below w.heap.size w W) => refPlated_r (some ⟨blk, off, none⟩) l cl x hxl hn W (HA.out.below hW))
        have HNx : Hid (x + 1 < l.length → w.cell? ⟨blk, off + (x + 1) * 9 + 2, none⟩ = some (.int .i64 (gs l (x + 1)).v)) := Lib.hid fun h => (HR.out (x + 1) h).1.2.2.1
        have HNv : Hid (x + 1 < l.length → 0 ≤ (gs l (x + 1)).v ∧ (gs l (x + 1)).v ≤ 100000) := Lib.hid fun h => (HC.out (x + 1) h).2
        have HPd : Hid (plB l x = true → x + 1 < l.length) := Lib.hid fun h => by
          unfold plB at h
          rw [Bool.and_eq_true, decide_eq_true_eq] at h
          exact h.1
        have c0 := cell_below c0 hbw
        have c1 := cell_below c1 hbw
        have c2 := cell_below c2 hbw
        have c3 := cell_below c3 hbw
        have c4 := cell_below c4 hbw
        have c5 := cell_below c5 hbw
        have c6 := cell_below c6 hbw
        have c7 := cell_below c7 hbw
        have c8 := cell_below c8 hbw
        have HD := Lib.hid (fun W => refDistance_r L a js.length ca dir (gs l x).c hL1 hL2 (by omega) (by omega) W)
        have HS := Lib.hid (fun W => refStart_r (gs l x) (ad x) (cp x) t HT.out W)
        have HE := Lib.hid (fun W => refEnd_r (gs l x) (ad x) (cp x) t HT.out W)
        have hDb := dst_bound (L := L) (dir := dir) (c := (gs l x).c) hL1 hL2 hcx.1 hcx.2
        have HJt : Hid (∀ j : Nat, j < js.length → (decide (dstK L dir (gs l x).c < dstK L dir (gi js j)) && decide (dstK L dir (gi js j) ≤ k)) = true → jctB L js dir (dstK L dir (gs l x).c) k = true) := Lib.hid fun j hj h => by unfold jctB; exact anyK_true h _ hj
        have HJf : Hid ((∀ j : Nat, j < js.length → (decide (dstK L dir (gs l x).c < dstK L dir (gi js j)) && decide (dstK L dir (gi js j) ≤ k)) = false) → jctB L js dir (dstK L dir (gs l x).c) k = false) := Lib.hid fun h => (anyK_iff _).2 h
        clear hx hrx hla hv HLc HR HAd HC HA HNone HLast HRel HT hP hcx
        generalize ad x = adx at *
        generalize cp x = cpx at *
        generalize strR (gs l x).k (gs l x).v t = S at *
        generalize dstK L dir (gs l x).c = D at *
        generalize jctB L js dir D k = jt at *
        obtain ⟨eb, heb⟩ : ∃ eb, endB (gs l x).k t = eb := ⟨_, rfl⟩
        rw [heb] at HE HVv
        clear heb
        obtain ⟨s, hs⟩ : ∃ s, gs l x = s := ⟨_, rfl⟩
        rw [hs] at HS HE HD c0 c1 c2 c3 c4 c5 c6 c7 c8
        clear hs
        have g1 : (x : Int) < (l.length : Int) := by omega
        have g2 : ¬ ((x : Int) < 0) := by omega
        cases eb with
        | true =>
          rw [if_pos rfl] at HVv
          clear HJt HJf HNx HNv HPd HPl HS HD
          go_wp2_with (go_at_call 95; refine (HE.out _).mono ?_; rintro e w9 ⟨rfl, hb9⟩)
          go_ret
          exact ⟨by rw [HVv.out] <;> rfl, hbw.trans (hb9.mono hbw.size)⟩
        | false =>
          rw [if_neg (by decide)] at HVv
          go_wp2_with (go_at_call 95; refine (HE.out _).mono ?_; rintro e w9 ⟨rfl, hb9⟩)
          obtain ⟨wr2, rfl⟩ : ∃ wr2 : World, wr2 = w9 := ⟨_, rfl⟩
          have hbw2 := hbw.trans (hb9.mono hbw.size)
          replace p0 := cell_below p0 hb9
          replace p1 := cell_below p1 hb9
          replace c0 := cell_below c0 hb9
          replace c1 := cell_below c1 hb9
          replace c2 := cell_below c2 hb9
          replace c3 := cell_below c3 hb9
          replace c4 := cell_below c4 hb9
          replace c5 := cell_below c5 hb9
          replace c6 := cell_below c6 hb9
          replace c7 := cell_below c7 hb9
          replace c8 := cell_below c8 hb9
          clear hb9 hbw hbr HE
          have hzp := block_lt p0
          have hzc := block_lt c0
          obtain ⟨wr, rfl⟩ : ∃ wr : World, wr = wr2 := ⟨_, rfl⟩
          refine wp_region_held_drew (S := fun w' => Below wr.heap.size wr w') (by kernel_rfl) ((Below.refl _ _).drew) (fun hHeld => ?_)
          refine wpAnyH_take (i := 0) (oi := { dst := some 60, op := Go.Op.load 24 (Go.Operand.tmp 5), type := 24, pos := "ref.go:172", after := #[], guard := none }) (v := .agg #[.int .i64 L, .slice a js.length ca]) rfl (by kernel_rfl) (by kernel_rfl) (by kernel_rfl) (fun _ _ _ h => h) (.inl ⟨by kernel_rfl, fun w9 h9 => by
            clear hHeld
            have d0 := (h9.cell (p := ⟨w.heap.size, 0, none⟩) hzp).trans p0
            have d1 := (h9.cell (p := ⟨w.heap.size, 1, none⟩) hzp).trans p1
            clear h9
            go_simp⟩) hHeld ?_
          refine takeU (i := 1) (some 61) (.int .i64 dir) (by kernel_rfl) (by kernel_rfl) (by kernel_rfl) (by kernel_rfl) (by kernel_rfl) (fun _ => by kernel_rfl) (fun _ _ _ h => h) hHeld ?_
          refine takeU (i := 2) (some 62) (.slice (some ⟨blk, off, none⟩) l.length cl) (by kernel_rfl) (by kernel_rfl) (by kernel_rfl) (by kernel_rfl) (by kernel_rfl) (fun _ => by kernel_rfl) (fun _ _ _ h => h) hHeld ?_
          refine takeU (i := 3) (some 63) (.int .i64 x) (by kernel_rfl) (by kernel_rfl) (by kernel_rfl) (by kernel_rfl) (by kernel_rfl) (fun _ => by kernel_rfl) (fun _ _ _ h => h) hHeld ?_
          refine wpAnyH_take (i := 4) (oi := { dst := some 64, op := Go.Op.indexAddr 25 (Go.Operand.tmp 62) (Go.Operand.tmp 63), type := 0, pos := "ref.go:172", after := #[{ on := 2, ground := Go.Ground.data }, { on := 3, ground := Go.Ground.data }], guard := none }) (v := .pointer (some ⟨blk, off + x * 9, none⟩)) rfl (by kernel_rfl) (by kernel_rfl) (by kernel_rfl) (fun _ _ _ h => h) (.inl ⟨by kernel_rfl, fun w9 h9 => by
            clear hHeld h9
            go_simp⟩) hHeld ?_
          refine takeU (i := 5) (some 65) (.pointer (some ⟨blk, off + x * 9 + 3, none⟩)) (by kernel_rfl) (by kernel_rfl) (by kernel_rfl) (by kernel_rfl) (by kernel_rfl) (fun _ => by kernel_rfl) (fun _ _ _ h => h) hHeld ?_
          refine wpAnyH_take (i := 6) (oi := { dst := some 66, op := Go.Op.load 3 (Go.Operand.tmp 65), type := 3, pos := "ref.go:172", after := #[{ on := 5, ground := Go.Ground.data }], guard := none }) (v := .int .i64 s.c) rfl (by kernel_rfl) (by kernel_rfl) (by kernel_rfl) (fun _ _ _ h => h) (.inl ⟨by kernel_rfl, fun w9 h9 => by
            clear hHeld
            have d0 := (h9.cell (p := ⟨blk, off + x * 9 + 3, none⟩) hzc).trans c3
            clear h9
            go_simp⟩) hHeld ?_
          try simp only [Act.put, List.setIfInBounds_toArray, List.set_cons_zero, List.set_cons_succ]
          refine wpAnyH_ready (rs := [7]) (by kernel_rfl) (by simp) ?_
          refine AllReadyH.cons (o := { dst := some 67, op := Go.Op.call { callee := Go.Callee.value (Go.Operand.func 91), args := #[Go.Operand.tmp 60, Go.Operand.tmp 61, Go.Operand.tmp 66], argTypes := #[24, 3, 3] }, type := 3, pos := "ref.go:172", after := #[{ on := 0, ground := Go.Ground.data }, { on := 1, ground := Go.Ground.data }, { on := 6, ground := Go.Ground.data }], guard := none }) rfl (fun K hK => ?_) AllReadyH.nil
          go_simp
          go_at_call 91
          refine (HD.out _).mono ?_
          rintro e w79 ⟨rfl, hb79⟩
          refine hK.out _ _ (hHeld.trans (hb79.mono hHeld.size)) (fun hHeld => ?_)
          clear hK K hb79
          try simp only [Act.put, List.setIfInBounds_toArray, List.set_cons_zero, List.set_cons_succ]
          refine takeU (i := 8) (some 13) (.int .i64 D) (by kernel_rfl) (by kernel_rfl) (by kernel_rfl) (by kernel_rfl) (by kernel_rfl) (fun _ => by kernel_rfl) (fun _ _ _ h => h) hHeld ?_
          refine wpAnyH_done (by kernel_rfl) ?_ _
          try simp only [Act.put, List.setIfInBounds_toArray, List.set_cons_zero, List.set_cons_succ]
          have hbw := hbw2.trans (hHeld.mono hbw2.size)
          replace p0 := cell_below p0 hHeld
          replace p1 := cell_below p1 hHeld
          replace c0 := cell_below c0 hHeld
          replace c1 := cell_below c1 hHeld
          replace c2 := cell_below c2 hHeld
          replace c3 := cell_below c3 hHeld
          replace c4 := cell_below c4 hHeld
          replace c5 := cell_below c5 hHeld
          replace c6 := cell_below c6 hHeld
          replace c7 := cell_below c7 hHeld
          replace c8 := cell_below c8 hHeld
          clear HD hHeld hbw2
          have P0 := Lib.hid p0
          have P1 := Lib.hid p1
          have C0 := Lib.hid c0
          have C1 := Lib.hid c1
          have C2 := Lib.hid c2
          have C3 := Lib.hid c3
          have C4 := Lib.hid c4
          have C5 := Lib.hid c5
          have C6 := Lib.hid c6
          have C7 := Lib.hid c7
          have C8 := Lib.hid c8
          have HBW := Lib.hid hbw
          clear p0 p1 c0 c1 c2 c3 c4 c5 c6 c7 c8 hbw hzp hzc
          go_wp2_with fail
          go_loopw [14] (fun j9 wq => ∃ j : Nat, j ≤ js.length ∧ j9 = .int .i64 j ∧ Hid (∀ m : Nat, m < j → (decide (D < dstK L dir (gi js m)) && decide (dstK L dir (gi js m) ≤ k)) = false) ∧ Below w79.heap.size w79 wq) (fun j9 _ => js.length - (intOf j9).toNat)
          case atStart => exact ⟨0, Nat.zero_le _, rfl, Lib.hid (fun m hm => absurd hm (Nat.not_lt_zero m)), Below.refl _ _⟩
          case round =>
            obtain ⟨j, hj, rfl, HAll, hbq⟩ := hrel
            have hbw := HBW.out.trans (hbq.mono HBW.out.size)
            obtain ⟨wr, rfl⟩ : ∃ wr2 : World, wr2 = wr := ⟨_, rfl⟩
            have p0 := cell_below P0.out hbq
            have p1 := cell_below P1.out hbq
            have hzp := block_lt p0
            by_cases hjt : j < js.length
            · obtain rfl := HJa.out (by omega)
              have cz := cell_below (HJc.out j hjt) hbw
              have hzj := block_lt cz
              have hJj := HJ.out j hjt
              have HDj := Lib.hid (fun W => refDistance_r L (some ⟨jb, jo, none⟩) js.length ca dir (gi js j) hL1 hL2 (by omega) (by omega) W)
              have HJt1 := HJt.out j hjt
              have HNext : Hid ((decide (D < dstK L dir (gi js j)) && decide (dstK L dir (gi js j) ≤ k)) = false → ∀ m : Nat, m < j + 1 → (decide (D < dstK L dir (gi js m)) && decide (dstK L dir (gi js m) ≤ k)) = false) := Lib.hid fun h m hm => by
                by_cases e : m = j
                · rw [e]; exact h
                · exact HAll.out m (by omega)
              have HJt2 := Lib.hid HJt1
              clear HJt1 HJt HJf HJa HJc HJ HAll hJj HNx HNv HPd HPl HS
              generalize dstK L dir (gi js j) = DJ at HDj HNext HJt2
              generalize gi js j = J at *
              have g3 : (j : Int) < (js.length : Int) := by omega
              go_wp2_with fail
              refine wp_region_held_drew (S := fun w' => Below wr.heap.size wr w') (by kernel_rfl) ((Below.refl _ _).drew) (fun hHeld => ?_)
              refine wpAnyH_take (i := 0) (oi := { dst := some 75, op := Go.Op.load 24 (Go.Operand.tmp 5), type := 24, pos := "ref.go:174", after := #[], guard := none }) (v := .agg #[.int .i64 L, .slice (some ⟨jb, jo, none⟩) js.length ca]) rfl (by kernel_rfl) (by kernel_rfl) (by kernel_rfl) (fun _ _ _ h => h) (.inl ⟨by kernel_rfl, fun w9 h9 => by
                clear hHeld
                have d0 := (h9.cell (p := ⟨w.heap.size, 0, none⟩) hzp).trans p0
                have d1 := (h9.cell (p := ⟨w.heap.size, 1, none⟩) hzp).trans p1
                clear h9
                go_simp⟩) hHeld ?_
              refine takeU (i := 1) (some 76) (.int .i64 dir) (by kernel_rfl) (by kernel_rfl) (by kernel_rfl) (by kernel_rfl) (by kernel_rfl) (fun _ => by kernel_rfl) (fun _ _ _ h => h) hHeld ?_
              refine takeU (i := 2) (some 77) (.pointer (some ⟨w.heap.size, 1, none⟩)) (by kernel_rfl) (by kernel_rfl) (by kernel_rfl) (by kernel_rfl) (by kernel_rfl) (fun _ => by kernel_rfl) (fun _ _ _ h => h) hHeld ?_
              refine wpAnyH_take (i := 3) (oi := { dst := some 78, op := Go.Op.load 22 (Go.Operand.tmp 77), type := 22, pos := "ref.go:174", after := #[{ on := 2, ground := Go.Ground.data }], guard := none }) (v := .slice (some ⟨jb, jo, none⟩) js.length ca) rfl (by kernel_rfl) (by kernel_rfl) (by kernel_rfl) (fun _ _ _ h => h) (.inl ⟨by kernel_rfl, fun w9 h9 => by
                clear hHeld
                have d0 := (h9.cell (p := ⟨w.heap.size, 1, none⟩) hzp).trans p1
                clear h9
                go_simp⟩) hHeld ?_
              refine takeU (i := 4) (some 79) (.int .i64 j) (by kernel_rfl) (by kernel_rfl) (by kernel_rfl) (by kernel_rfl) (by kernel_rfl) (fun _ => by kernel_rfl) (fun _ _ _ h => h) hHeld ?_
              refine wpAnyH_take (i := 5) (oi := { dst := some 80, op := Go.Op.indexAddr 22 (Go.Operand.tmp 78) (Go.Operand.tmp 79), type := 0, pos := "ref.go:174", after := #[{ on := 3, ground := Go.Ground.data }, { on := 4, ground := Go.Ground.data }], guard := none }) (v := .pointer (some ⟨jb, jo + j, none⟩)) rfl (by kernel_rfl) (by kernel_rfl) (by kernel_rfl) (fun _ _ _ h => h) (.inl ⟨by kernel_rfl, fun w9 h9 => by
                clear hHeld h9
                go_simp⟩) hHeld ?_
              refine wpAnyH_take (i := 6) (oi := { dst := some 81, op := Go.Op.load 3 (Go.Operand.tmp 80), type := 3, pos := "ref.go:174", after := #[{ on := 5, ground := Go.Ground.data }], guard := none }) (v := .int .i64 J) rfl (by kernel_rfl) (by kernel_rfl) (by kernel_rfl) (fun _ _ _ h => h) (.inl ⟨by kernel_rfl, fun w9 h9 => by
                clear hHeld
                have d0 := (h9.cell (p := ⟨jb, jo + j, none⟩) hzj).trans cz
                clear h9
                go_simp⟩) hHeld ?_
              try simp only [Act.put, List.setIfInBounds_toArray, List.set_cons_zero, List.set_cons_succ]
              refine wpAnyH_ready (rs := [7]) (by kernel_rfl) (by simp) ?_
              refine AllReadyH.cons (o := { dst := some 82, op := Go.Op.call { callee := Go.Callee.value (Go.Operand.func 91), args := #[Go.Operand.tmp 75, Go.Operand.tmp 76, Go.Operand.tmp 81], argTypes := #[24, 3, 3] }, type := 3, pos := "ref.go:174", after := #[{ on := 0, ground := Go.Ground.data }, { on := 1, ground := Go.Ground.data }, { on := 6, ground := Go.Ground.data }], guard := none }) rfl (fun K hK => ?_) AllReadyH.nil
              go_simp
              go_at_call 91
              refine (HDj.out _).mono ?_
              rintro e w79 ⟨rfl, hb79⟩
              refine hK.out _ _ (hHeld.trans (hb79.mono hHeld.size)) (fun hHeld => ?_)
              clear hK K hb79
              try simp only [Act.put, List.setIfInBounds_toArray, List.set_cons_zero, List.set_cons_succ]
              refine takeU (i := 8) (some 15) (.int .i64 DJ) (by kernel_rfl) (by kernel_rfl) (by kernel_rfl) (by kernel_rfl) (by kernel_rfl) (fun _ => by kernel_rfl) (fun _ _ _ h => h) hHeld ?_
              refine wpAnyH_done (by kernel_rfl) ?_ _
              try simp only [Act.put, List.setIfInBounds_toArray, List.set_cons_zero, List.set_cons_succ]
              have hbe := hbq.trans (hHeld.mono hbq.size)
              by_cases h1 : D < DJ
              · have d1 : decide (D < DJ) = true := decide_eq_true h1
                by_cases h2 : DJ ≤ k
                · have d2 : decide (DJ ≤ k) = true := decide_eq_true h2
                  have hjt1 := HJt2.out (by rw [d1, d2]; rfl)
                  rw [hjt1, if_pos rfl] at HVv
                  clear HNext HJt2 hjt1
                  go_wp2_with fail
                  go_ret
                  exact ⟨by rw [HVv.out] <;> rfl, HBW.out.trans (hbe.mono HBW.out.size)⟩
                · have d2 : decide (DJ ≤ k) = false := decide_eq_false h2
                  have HNx2 := Lib.hid (HNext.out (by rw [d1, d2]; rfl))
                  clear HNext HJt2
                  go_wp2_with fail
                  go_roundw
                  case rel => exact ⟨j + 1, by omega, by go_num, HNx2, hbe⟩
                  case measure => simp [intOf]; omega
              · have d1 : decide (D < DJ) = false := decide_eq_false h1
                have HNx2 := Lib.hid (HNext.out (by rw [d1]; rfl))
                clear HNext HJt2
                go_wp2_with fail
                go_roundw
                case rel => exact ⟨j + 1, by omega, by go_num, HNx2, hbe⟩
                case measure => simp [intOf]; omega
            · obtain rfl : j = js.length := by omega
              have hjf := HJf.out HAll.out
              rw [hjf, if_neg (by decide)] at HVv
              clear hjf HJf HJt HAll HJa HJc HJ
              have HPw := Lib.hid (HPl.out _ hbw)
              have hnx : Hid (x + 1 < l.length → wr.cell? ⟨blk, off + (x + 1) * 9 + 2, none⟩ = some (.int .i64 (gs l (x + 1)).v)) := Lib.hid fun h => cell_below (HNx.out h) hbw
              have c0 := cell_below C0.out hbq
              have c1 := cell_below C1.out hbq
              have c2 := cell_below C2.out hbq
              have c3 := cell_below C3.out hbq
              have c4 := cell_below C4.out hbq
              have c5 := cell_below C5.out hbq
              have c6 := cell_below C6.out hbq
              have c7 := cell_below C7.out hbq
              have c8 := cell_below C8.out hbq
              clear HNx HPl hbq
              generalize (gs l (x + 1)).v = nv at *
              cases hp : plB l x with
              | false =>
                rw [hp] at HPw HVv
                rw [Bool.false_and, if_neg (by decide)] at HVv
                clear hp HNv HPd hnx
                go_wp2_with (first | (go_at_call 96; refine HPw.out.mono ?_; rintro e w8 ⟨rfl, hb8⟩; replace c0 := cell_below c0 hb8; replace c1 := cell_below c1 hb8; replace c2 := cell_below c2 hb8; replace c3 := cell_below c3 hb8; replace c4 := cell_below c4 hb8; replace c5 := cell_below c5 hb8; replace c6 := cell_below c6 hb8; replace c7 := cell_below c7 hb8; replace c8 := cell_below c8 hb8; have HB8 := Lib.hid (hbw.trans (hb8.mono hbw.size)); clear hb8) | (go_at_call 94; refine (HS.out _).mono ?_; rintro e w9 ⟨rfl, hb9⟩))
                go_ret
                exact ⟨by rw [HVv.out] <;> rfl, HB8.out.trans (hb9.mono HB8.out.size)⟩
              | true =>
                have hx1 := HPd.out hp
                have cn := hnx.out hx1
                have hnv := HNv.out hx1
                rw [hp] at HPw HVv
                rw [Bool.true_and] at HVv
                clear hp HNv HPd hnx
                have g5 : (x : Int) + 1 < (l.length : Int) := by omega
                by_cases h4 : nv ≤ k - D
                · have d4 : decide (nv ≤ k - D) = true := decide_eq_true h4
                  rw [d4, if_pos rfl] at HVv
                  go_wp2_with (first | (go_at_call 96; refine HPw.out.mono ?_; rintro e w8 ⟨rfl, hb8⟩; replace c0 := cell_below c0 hb8; replace c1 := cell_below c1 hb8; replace c2 := cell_below c2 hb8; replace c3 := cell_below c3 hb8; replace c4 := cell_below c4 hb8; replace c5 := cell_below c5 hb8; replace c6 := cell_below c6 hb8; replace c7 := cell_below c7 hb8; replace c8 := cell_below c8 hb8; replace cn := cell_below cn hb8; have HB8 := Lib.hid (hbw.trans (hb8.mono hbw.size)); clear hb8) | (go_at_call 94; refine (HS.out _).mono ?_; rintro e w9 ⟨rfl, hb9⟩))
                  go_ret
                  exact ⟨by rw [HVv.out] <;> rfl, HB8.out⟩
                · have d4 : decide (nv ≤ k - D) = false := decide_eq_false h4
                  rw [d4, if_neg (by decide)] at HVv
                  go_wp2_with (first | (go_at_call 96; refine HPw.out.mono ?_; rintro e w8 ⟨rfl, hb8⟩; replace c0 := cell_below c0 hb8; replace c1 := cell_below c1 hb8; replace c2 := cell_below c2 hb8; replace c3 := cell_below c3 hb8; replace c4 := cell_below c4 hb8; replace c5 := cell_below c5 hb8; replace c6 := cell_below c6 hb8; replace c7 := cell_below c7 hb8; replace c8 := cell_below c8 hb8; replace cn := cell_below cn hb8; have HB8 := Lib.hid (hbw.trans (hb8.mono hbw.size)); clear hb8) | (go_at_call 94; refine (HS.out _).mono ?_; rintro e w9 ⟨rfl, hb9⟩))
                  go_ret
                  exact ⟨by rw [HVv.out] <;> rfl, HB8.out.trans (hb9.mono HB8.out.size)⟩
end Go.Proofs.YtiagflackfkmnaaGreat
