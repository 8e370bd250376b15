/-
  The reference's Holding. By an AI agent.; isMetre, Holds and Must of both. By an AI agent.; Holds and Must of both, whole. By an AI agent.; Between the cuts of a course nothing changes: what holds, and what must hold, as stretches. By an AI agent.; The laws' comparison of lists that are the same. By an AI agent.
-/
import Derived.Test.YtlpdjinhkmgbgaaGreatDoorMgRuleWays4
import Derived.Test.YtlpdjinhkmgbgaaGreatDoorMgRuleWays8
import Derived.Deep.RegionHeld3
import Derived.Deep.DeepCutAuto
import Derived.BigQuiet
import Derived.BigRegion

namespace Go.Proofs.YtlpdjinhkmgbgaaGreatDoor
set_option linter.unusedVariables false
set_option linter.unusedSimpArgs false
open Go.RowKit

/-- One sign of account more, or none. -/
theorem lst_yes {p : Nat → Bool} {i : Nat} (h : p i = true) : lstX p (i + 1) = i := by rw [lstX, if_pos h]
theorem lst_no {p : Nat → Bool} {i : Nat} (h : p i = false) : lstX p (i + 1) = lstX p i := by rw [lstX, if_neg (by rw [h]; simp)]
set_option maxRecDepth 100000 in
set_option maxHeartbeats 4000000 in
theorem refHolding_r (L : Int) (a : Option Addr) (js : List Int) (ca : Nat) (aa : Option Addr) (l : List Sgn) (cl : Nat) (dir t k : Int) (hL1 : 0 ≤ L) (hL2 : L ≤ 100000) (hJ : ∀ j, j < js.length → 0 ≤ gi js j ∧ gi js j ≤ 100000) (hC : ∀ j, j < l.length → (0 ≤ (gs l j).c ∧ (gs l j).c ≤ 100000) ∧ 0 ≤ (gs l j).v ∧ (gs l j).v ≤ 100000) (hV : ∀ i, i < l.length → (gs l i).k = 1 → 0 < (gs l i).v) (hSo : ∀ i j, i < j → j < l.length → dstK L dir (gs l i).c ≤ dstK L dir (gs l j).c) (hn : l.length ≤ 1000) (ht : t = 1 ∨ t = 2) (hk1 : -1000000 ≤ k) (hk2 : k ≤ 1000000) (w : World) (hI : IntsS w a js) (hA : SgnS w aa l) :
    Calls Tryz.prog 81 #[.agg #[.int .i64 L, .slice a js.length ca], .slice aa l.length cl, .int .i64 dir, .int .i64 t, .int .i64 k] w fun e w' => e = .returned (.int .i64 (hS L js dir t k l 0)) ∧ Below w.heap.size w w' := by
  have HA := Lib.hid hA
  have HC := Lib.hid hC
  have HJ := Lib.hid hJ
  have HNone : Hid ((∀ j, j < l.length → relB L dir t k l j = false) → hS L js dir t k l 0 = 0) := Lib.hid fun h => hold_none ht hV h 0
  have HLast : Hid (∀ x, x < l.length → relB L dir t k l x = true → (∀ j, x < j → j < l.length → relB L dir t k l j = false) → hS L js dir t k l 0 = if endB (gs l x).k t = true then 0 else if jctB L js dir (dstK L dir (gs l x).c) k = true then 0 else if (plB l x && decide ((gs l (x + 1)).v ≤ k - dstK L dir (gs l x).c)) = true then 0 else strR (gs l x).k (gs l x).v t) := Lib.hid fun x h1 h2 h3 => hold_last ht hV hSo h1 h2 h3 0
  have HLc := Lib.hid (lstX_cases (relB L dir t k l))
  clear hC hJ hV hSo
  obtain ⟨-, blk, off, ad, cp, hadr, hc⟩ := hA
  have HR := Lib.hid hc
  have HAd : Hid (0 < l.length → aa = some ⟨blk, off, none⟩) := Lib.hid fun h => hadr (List.ne_nil_of_length_pos h)
  obtain ⟨hjl, -, jb, jo, hja, hjc⟩ := hI
  have HJc := Lib.hid hjc
  have HJa : Hid (0 < js.length → a = some ⟨jb, jo, none⟩) := Lib.hid fun h => hja (List.ne_nil_of_length_pos h)
  have HRel : Hid (∀ i, relB L dir t k l i = (decide (dstK L dir (gs l i).c ≤ k) && (decide (0 < strR (gs l i).k (gs l i).v t) || endB (gs l i).k t))) := Lib.hid fun i => rfl
  generalize hS L js dir t k l 0 = HV at *
  clear hadr hc hja hjc
  have HT := Lib.hid ht
  clear ht
  go_enter Tryz.func81, Tryz.ntmps81
  go_wp2_with fail
  obtain ⟨wB, hwB⟩ : ∃ wB, w.alloc (.cells #[.int .i64 L, .slice a js.length ca] 24) = wB := ⟨_, rfl⟩
  have hb : Below w.heap.size w wB := by rw [← hwB]; exact (Below.refl _ _).alloc (Nat.le_refl _) _
  have p0 : wB.cell? ⟨w.heap.size, 0, none⟩ = some (.int .i64 L) := by rw [← hwB]; simp [go_sem]
  have p1 : wB.cell? ⟨w.heap.size, 1, none⟩ = some (.slice a js.length ca) := by rw [← hwB]; simp [go_sem]
  rw [hwB]
  clear hwB
  have P0 := Lib.hid p0
  have P1 := Lib.hid p1
  have HB := Lib.hid hb
  clear p0 p1 hb
  go_wp2_with fail
  go_loopw [11, 12] (fun q i9 wr => ∃ i : Nat, i ≤ l.length ∧ i9 = .int .i64 i ∧ q = .int .i64 (lstX (relB L dir t k l) i) ∧ Below wB.heap.size wB wr) (fun _ i9 _ => l.length - (intOf i9).toNat)
  case atStart => exact ⟨0, Nat.zero_le _, rfl, rfl, Below.refl _ _⟩
  case round =>
    obtain ⟨i, hi, rfl, rfl, hbr⟩ := hrel
    have hbw := HB.out.trans (hbr.mono HB.out.size)
    have p0 := cell_below P0.out hbr
    have p1 := cell_below P1.out hbr
    have hzp := block_lt p0
    by_cases hlt : i < l.length
    · obtain rfl := HAd.out (by omega)
      obtain ⟨⟨c0, c1, c2, c3, c4, c5, c6, c7⟩, c8, hP⟩ := HR.out i hlt
      have hci := HC.out i hlt
      have HRi := HRel.out i
      have c0 := cell_below c0 hbw
      have c1 := cell_below c1 hbw
      have c2 := cell_below c2 hbw
      have c3 := cell_below c3 hbw
      have c4 := cell_below c4 hbw
      have c5 := cell_below c5 hbw
      have c6 := cell_below c6 hbw
      have c7 := cell_below c7 hbw
      have c8 := cell_below c8 hbw
      have hzc := block_lt c0
      have HD := Lib.hid (fun W => refDistance_r L a js.length ca dir (gs l i).c hL1 hL2 (by omega) (by omega) W)
      have HS := Lib.hid (fun W => refStart_r (gs l i) (ad i) (cp i) t HT.out W)
      have HE := Lib.hid (fun W => refEnd_r (gs l i) (ad i) (cp i) t HT.out W)
      obtain ⟨LX, hLX⟩ : ∃ LX, lstX (relB L dir t k l) i = LX := ⟨_, rfl⟩
      have HLY : Hid (relB L dir t k l i = true → lstX (relB L dir t k l) (i + 1) = i) := Lib.hid fun h => lst_yes h
      have HLN : Hid (relB L dir t k l i = false → lstX (relB L dir t k l) (i + 1) = LX) := Lib.hid fun h => by rw [lst_no h, hLX]
      rw [hLX]
      clear hLX hP HR HAd HC HJ HA HNone HLast HLc HJc HJa HRel
      have g1 : (i : Int) < (l.length : Int) := by omega
      generalize ad i = adi at *
      generalize cp i = cpi at *
      generalize strR (gs l i).k (gs l i).v t = S at *
      generalize dstK L dir (gs l i).c = D at *
      obtain ⟨eb, heb⟩ : ∃ eb, endB (gs l i).k t = eb := ⟨_, rfl⟩
      rw [heb] at HE HRi
      clear heb hci
      obtain ⟨x, hx⟩ : ∃ x, gs l i = x := ⟨_, rfl⟩
      rw [hx] at HS HE HD c0 c1 c2 c3 c4 c5 c6 c7 c8
      clear hx
      generalize relB L dir t k l i = rb at *
      obtain ⟨LY, hLY⟩ : ∃ LY, lstX (relB L dir t k l) (i + 1) = LY := ⟨_, rfl⟩
      rw [hLY] at HLY HLN
      have HLYe := Lib.hid hLY
      clear hLY
      go_wp2_with fail
      by_cases h1 : D ≤ k
      · have d1 : decide (D ≤ k) = true := decide_eq_true h1
        by_cases h2 : 0 < S
        · have d2 : decide (0 < S) = true := decide_eq_true h2
          have hv := HLY.out (by rw [HRi, d1, d2]; rfl)
          have HV2 := Lib.hid hv
          clear hv HRi HLY HLN HE
          refine wp_region_held_drew (S := fun w' => Below wr.heap.size wr w') (by kernel_rfl) ((Below.refl _ _).drew) (fun hHeld => ?_)
          refine wpAnyH_take (i := 0) (oi := { dst := some 22, op := Go.Op.load 24 (Go.Operand.tmp 5), type := 24, pos := "ref.go:165", after := #[], guard := none }) (v := .agg #[.int .i64 L, .slice a js.length ca]) rfl (by kernel_rfl) (by kernel_rfl) (by kernel_rfl) (fun _ _ _ h => h) (.inl ⟨by kernel_rfl, fun w9 h9 => by
            clear hHeld
            have d0 := (h9.cell (p := ⟨w.heap.size, 0, none⟩) hzp).trans p0
            have d1 := (h9.cell (p := ⟨w.heap.size, 1, none⟩) hzp).trans p1
            clear h9
            go_simp⟩) hHeld ?_
          refine takeU (i := 1) (some 23) (.int .i64 dir) (by kernel_rfl) (by kernel_rfl) (by kernel_rfl) (by kernel_rfl) (by kernel_rfl) (fun _ => by kernel_rfl) (fun _ _ _ h => h) hHeld ?_
          refine takeU (i := 2) (some 24) (.slice (some ⟨blk, off, none⟩) l.length cl) (by kernel_rfl) (by kernel_rfl) (by kernel_rfl) (by kernel_rfl) (by kernel_rfl) (fun _ => by kernel_rfl) (fun _ _ _ h => h) hHeld ?_
          refine takeU (i := 3) (some 25) (.int .i64 i) (by kernel_rfl) (by kernel_rfl) (by kernel_rfl) (by kernel_rfl) (by kernel_rfl) (fun _ => by kernel_rfl) (fun _ _ _ h => h) hHeld ?_
          refine wpAnyH_take (i := 4) (oi := { dst := some 26, op := Go.Op.indexAddr 25 (Go.Operand.tmp 24) (Go.Operand.tmp 25), type := 0, pos := "ref.go:165", after := #[{ on := 2, ground := Go.Ground.data }, { on := 3, ground := Go.Ground.data }], guard := none }) (v := .pointer (some ⟨blk, off + i * 9, none⟩)) rfl (by kernel_rfl) (by kernel_rfl) (by kernel_rfl) (fun _ _ _ h => h) (.inl ⟨by kernel_rfl, fun w9 h9 => by
            clear hHeld h9
            go_simp⟩) hHeld ?_
          refine takeU (i := 5) (some 27) (.pointer (some ⟨blk, off + i * 9 + 3, none⟩)) (by kernel_rfl) (by kernel_rfl) (by kernel_rfl) (by kernel_rfl) (by kernel_rfl) (fun _ => by kernel_rfl) (fun _ _ _ h => h) hHeld ?_
          refine wpAnyH_take (i := 6) (oi := { dst := some 28, op := Go.Op.load 3 (Go.Operand.tmp 27), type := 3, pos := "ref.go:165", after := #[{ on := 5, ground := Go.Ground.data }], guard := none }) (v := .int .i64 x.c) rfl (by kernel_rfl) (by kernel_rfl) (by kernel_rfl) (fun _ _ _ h => h) (.inl ⟨by kernel_rfl, fun w9 h9 => by
            clear hHeld
            have d0 := (h9.cell (p := ⟨blk, off + i * 9 + 3, none⟩) hzc).trans c3
            clear h9
            go_simp⟩) hHeld ?_
          refine takeU (i := 8) (some 30) (.int .i64 k) (by kernel_rfl) (by kernel_rfl) (by kernel_rfl) (by kernel_rfl) (by kernel_rfl) (fun _ => by kernel_rfl) (fun _ _ _ h => h) hHeld ?_
          try simp only [Act.put, List.setIfInBounds_toArray, List.set_cons_zero, List.set_cons_succ]
          refine wpAnyH_ready (rs := [7]) (by kernel_rfl) (by simp) ?_
          refine AllReadyH.cons (o := { dst := some 29, op := Go.Op.call { callee := Go.Callee.value (Go.Operand.func 42), args := #[Go.Operand.tmp 22, Go.Operand.tmp 23, Go.Operand.tmp 28], argTypes := #[24, 3, 3] }, type := 3, pos := "ref.go:165", after := #[{ on := 0, ground := Go.Ground.data }, { on := 1, ground := Go.Ground.data }, { on := 6, ground := Go.Ground.data }], guard := none }) rfl (fun K hK => ?_) AllReadyH.nil
          go_simp
          go_at_call 42
          refine (HD.out _).mono ?_
          rintro e w79 ⟨rfl, hb79⟩
          refine hK.out _ _ (hHeld.trans (hb79.mono hHeld.size)) (fun hHeld => ?_)
          clear hK K hb79
          try simp only [Act.put, List.setIfInBounds_toArray, List.set_cons_zero, List.set_cons_succ]
          refine wpAnyH_take (i := 9) (oi := { dst := some 31, op := Go.Op.binOp Go.BinOp.leq 3 (Go.Operand.tmp 29) (Go.Operand.tmp 30) 3, type := 4, pos := "ref.go:165", after := #[{ on := 7, ground := Go.Ground.data }, { on := 8, ground := Go.Ground.data }], guard := none }) (v := .bool true) rfl (by kernel_rfl) (by kernel_rfl) (by kernel_rfl) (fun _ _ _ h => h) (.inl ⟨by kernel_rfl, fun w9 h9 => by
            clear hHeld h9
            go_simp⟩) hHeld ?_
          refine takeU (i := 10) (some 32) (.bool true) (by kernel_rfl) (by kernel_rfl) (by kernel_rfl) (by kernel_rfl) (by kernel_rfl) (fun _ => by kernel_rfl) (fun _ _ _ h => h) hHeld ?_
          refine takeU (i := 11) (some 33) (.slice (some ⟨blk, off, none⟩) l.length cl) (by kernel_rfl) (by kernel_rfl) (by kernel_rfl) (by kernel_rfl) (by kernel_rfl) (fun _ => by kernel_rfl) (fun _ _ _ h => h) hHeld ?_
          refine takeU (i := 12) (some 34) (.int .i64 i) (by kernel_rfl) (by kernel_rfl) (by kernel_rfl) (by kernel_rfl) (by kernel_rfl) (fun _ => by kernel_rfl) (fun _ _ _ h => h) hHeld ?_
          refine wpAnyH_take (i := 13) (oi := { dst := some 35, op := Go.Op.indexAddr 25 (Go.Operand.tmp 33) (Go.Operand.tmp 34), type := 0, pos := "ref.go:165", after := #[{ on := 11, ground := Go.Ground.data }, { on := 12, ground := Go.Ground.data }, { on := 10, ground := Go.Ground.guard }], guard := some (10, true) }) (v := .pointer (some ⟨blk, off + i * 9, none⟩)) rfl (by kernel_rfl) (by kernel_rfl) (by kernel_rfl) (fun _ _ _ h => h) (.inl ⟨by kernel_rfl, fun w9 h9 => by
            clear hHeld h9
            go_simp⟩) hHeld ?_
          refine wpAnyH_take (i := 14) (oi := { dst := some 36, op := Go.Op.load 69 (Go.Operand.tmp 35), type := 69, pos := "ref.go:165", after := #[{ on := 13, ground := Go.Ground.data }, { on := 10, ground := Go.Ground.guard }], guard := some (10, true) }) (v := .agg #[.int .i64 x.n, .int .i64 x.k, .int .i64 x.v, .int .i64 x.c, .int .i64 x.d, .int .i64 x.rk, .int .i64 x.up, .int .i64 x.dn, .slice adi x.cv.length cpi]) rfl (by kernel_rfl) (by kernel_rfl) (by kernel_rfl) (fun _ _ _ h => h) (.inl ⟨by kernel_rfl, fun w9 h9 => by
            clear hHeld
            have d0 := (h9.cell (p := ⟨blk, off + i * 9, none⟩) hzc).trans c0
            have d1 := (h9.cell (p := ⟨blk, off + i * 9 + 1, none⟩) hzc).trans c1
            have d2 := (h9.cell (p := ⟨blk, off + i * 9 + 2, none⟩) hzc).trans c2
            have d3 := (h9.cell (p := ⟨blk, off + i * 9 + 3, none⟩) hzc).trans c3
            have d4 := (h9.cell (p := ⟨blk, off + i * 9 + 4, none⟩) hzc).trans c4
            have d5 := (h9.cell (p := ⟨blk, off + i * 9 + 5, none⟩) hzc).trans c5
            have d6 := (h9.cell (p := ⟨blk, off + i * 9 + 6, none⟩) hzc).trans c6
            have d7 := (h9.cell (p := ⟨blk, off + i * 9 + 7, none⟩) hzc).trans c7
            have d8 := (h9.cell (p := ⟨blk, off + i * 9 + 8, none⟩) hzc).trans c8
            clear h9
            go_simp⟩) hHeld ?_
          refine takeU (i := 15) (some 37) (.int .i64 t) (by kernel_rfl) (by kernel_rfl) (by kernel_rfl) (by kernel_rfl) (by kernel_rfl) (fun _ => by kernel_rfl) (fun _ _ _ h => h) hHeld ?_
          try simp only [Act.put, List.setIfInBounds_toArray, List.set_cons_zero, List.set_cons_succ]
          refine wpAnyH_ready (rs := [16]) (by kernel_rfl) (by simp) ?_
          refine AllReadyH.cons (o := { dst := some 38, op := Go.Op.call { callee := Go.Callee.value (Go.Operand.func 117), args := #[Go.Operand.tmp 36, Go.Operand.tmp 37], argTypes := #[69, 3] }, type := 3, pos := "ref.go:165", after := #[{ on := 14, ground := Go.Ground.data }, { on := 15, ground := Go.Ground.data }, { on := 10, ground := Go.Ground.chain }, { on := 10, ground := Go.Ground.guard }], guard := some (10, true) }) rfl (fun K hK => ?_) AllReadyH.nil
          go_simp
          go_at_call 117
          refine (HS.out _).mono ?_
          rintro e w169 ⟨rfl, hb169⟩
          refine hK.out _ _ (hHeld.trans (hb169.mono hHeld.size)) (fun hHeld => ?_)
          clear hK K hb169
          try simp only [Act.put, List.setIfInBounds_toArray, List.set_cons_zero, List.set_cons_succ]
          refine wpAnyH_take (i := 17) (oi := { dst := some 39, op := Go.Op.binOp Go.BinOp.gtr 3 (Go.Operand.tmp 38) (Go.Operand.const (Go.Value.int Go.IntKind.i64 0)) 3, type := 4, pos := "ref.go:165", after := #[{ on := 16, ground := Go.Ground.data }, { on := 10, ground := Go.Ground.guard }], guard := some (10, true) }) (v := .bool true) rfl (by kernel_rfl) (by kernel_rfl) (by kernel_rfl) (fun _ _ _ h => h) (.inl ⟨by kernel_rfl, fun w9 h9 => by
            clear hHeld h9
            go_simp⟩) hHeld ?_
          refine takeU (i := 18) (some 40) (.bool true) (by kernel_rfl) (by kernel_rfl) (by kernel_rfl) (by kernel_rfl) (by kernel_rfl) (fun _ => by kernel_rfl) (fun _ _ _ h => h) hHeld ?_
          refine skipU (i := 19) (some 41) (by kernel_rfl) (by kernel_rfl) (by kernel_rfl) (by kernel_rfl) (by kernel_rfl) (fun _ _ _ h => h) hHeld ?_
          refine skipU (i := 20) (some 42) (by kernel_rfl) (by kernel_rfl) (by kernel_rfl) (by kernel_rfl) (by kernel_rfl) (fun _ _ _ h => h) hHeld ?_
          refine skipU (i := 21) (some 43) (by kernel_rfl) (by kernel_rfl) (by kernel_rfl) (by kernel_rfl) (by kernel_rfl) (fun _ _ _ h => h) hHeld ?_
          refine skipU (i := 22) (some 44) (by kernel_rfl) (by kernel_rfl) (by kernel_rfl) (by kernel_rfl) (by kernel_rfl) (fun _ _ _ h => h) hHeld ?_
          refine skipU (i := 23) (some 45) (by kernel_rfl) (by kernel_rfl) (by kernel_rfl) (by kernel_rfl) (by kernel_rfl) (fun _ _ _ h => h) hHeld ?_
          refine skipU (i := 24) (some 46) (by kernel_rfl) (by kernel_rfl) (by kernel_rfl) (by kernel_rfl) (by kernel_rfl) (fun _ _ _ h => h) hHeld ?_
          refine takeU (i := 25) (some 47) (.bool true) (by kernel_rfl) (by kernel_rfl) (by kernel_rfl) (by kernel_rfl) (by kernel_rfl) (fun _ => by kernel_rfl) (fun _ _ _ h => h) hHeld ?_
          refine takeU (i := 26) (some 48) (.bool true) (by kernel_rfl) (by kernel_rfl) (by kernel_rfl) (by kernel_rfl) (by kernel_rfl) (fun _ => by kernel_rfl) (fun _ _ _ h => h) hHeld ?_
          refine wpAnyH_done (by kernel_rfl) ?_ _
          try simp only [Act.put, List.setIfInBounds_toArray, List.set_cons_zero, List.set_cons_succ]
          go_wp2_with fail
          go_roundw
          case rel => exact ⟨i + 1, by omega, by go_num, by rw [HLYe.out, HV2.out], hbr.trans (hHeld.mono hbr.size)⟩
          case measure => simp [intOf]; omega
        · have d2 : decide (0 < S) = false := decide_eq_false h2
          cases eb with
          | true =>
            have hv := HLY.out (by rw [HRi, d1, d2]; rfl)
            have HV2 := Lib.hid hv
            clear hv HRi HLY HLN
            refine wp_region_held_drew (S := fun w' => Below wr.heap.size wr w') (by kernel_rfl) ((Below.refl _ _).drew) (fun hHeld => ?_)
            refine wpAnyH_take (i := 0) (oi := { dst := some 22, op := Go.Op.load 24 (Go.Operand.tmp 5), type := 24, pos := "ref.go:165", after := #[], guard := none }) (v := .agg #[.int .i64 L, .slice a js.length ca]) rfl (by kernel_rfl) (by kernel_rfl) (by kernel_rfl) (fun _ _ _ h => h) (.inl ⟨by kernel_rfl, fun w9 h9 => by
              clear hHeld
              have d0 := (h9.cell (p := ⟨w.heap.size, 0, none⟩) hzp).trans p0
              have d1 := (h9.cell (p := ⟨w.heap.size, 1, none⟩) hzp).trans p1
              clear h9
              go_simp⟩) hHeld ?_
            refine takeU (i := 1) (some 23) (.int .i64 dir) (by kernel_rfl) (by kernel_rfl) (by kernel_rfl) (by kernel_rfl) (by kernel_rfl) (fun _ => by kernel_rfl) (fun _ _ _ h => h) hHeld ?_
            refine takeU (i := 2) (some 24) (.slice (some ⟨blk, off, none⟩) l.length cl) (by kernel_rfl) (by kernel_rfl) (by kernel_rfl) (by kernel_rfl) (by kernel_rfl) (fun _ => by kernel_rfl) (fun _ _ _ h => h) hHeld ?_
            refine takeU (i := 3) (some 25) (.int .i64 i) (by kernel_rfl) (by kernel_rfl) (by kernel_rfl) (by kernel_rfl) (by kernel_rfl) (fun _ => by kernel_rfl) (fun _ _ _ h => h) hHeld ?_
            refine wpAnyH_take (i := 4) (oi := { dst := some 26, op := Go.Op.indexAddr 25 (Go.Operand.tmp 24) (Go.Operand.tmp 25), type := 0, pos := "ref.go:165", after := #[{ on := 2, ground := Go.Ground.data }, { on := 3, ground := Go.Ground.data }], guard := none }) (v := .pointer (some ⟨blk, off + i * 9, none⟩)) rfl (by kernel_rfl) (by kernel_rfl) (by kernel_rfl) (fun _ _ _ h => h) (.inl ⟨by kernel_rfl, fun w9 h9 => by
              clear hHeld h9
              go_simp⟩) hHeld ?_
            refine takeU (i := 5) (some 27) (.pointer (some ⟨blk, off + i * 9 + 3, none⟩)) (by kernel_rfl) (by kernel_rfl) (by kernel_rfl) (by kernel_rfl) (by kernel_rfl) (fun _ => by kernel_rfl) (fun _ _ _ h => h) hHeld ?_
            refine wpAnyH_take (i := 6) (oi := { dst := some 28, op := Go.Op.load 3 (Go.Operand.tmp 27), type := 3, pos := "ref.go:165", after := #[{ on := 5, ground := Go.Ground.data }], guard := none }) (v := .int .i64 x.c) rfl (by kernel_rfl) (by kernel_rfl) (by kernel_rfl) (fun _ _ _ h => h) (.inl ⟨by kernel_rfl, fun w9 h9 => by
              clear hHeld
              have d0 := (h9.cell (p := ⟨blk, off + i * 9 + 3, none⟩) hzc).trans c3
              clear h9
              go_simp⟩) hHeld ?_
            refine takeU (i := 8) (some 30) (.int .i64 k) (by kernel_rfl) (by kernel_rfl) (by kernel_rfl) (by kernel_rfl) (by kernel_rfl) (fun _ => by kernel_rfl) (fun _ _ _ h => h) hHeld ?_
            try simp only [Act.put, List.setIfInBounds_toArray, List.set_cons_zero, List.set_cons_succ]
            refine wpAnyH_ready (rs := [7]) (by kernel_rfl) (by simp) ?_
            refine AllReadyH.cons (o := { dst := some 29, op := Go.Op.call { callee := Go.Callee.value (Go.Operand.func 42), args := #[Go.Operand.tmp 22, Go.Operand.tmp 23, Go.Operand.tmp 28], argTypes := #[24, 3, 3] }, type := 3, pos := "ref.go:165", after := #[{ on := 0, ground := Go.Ground.data }, { on := 1, ground := Go.Ground.data }, { on := 6, ground := Go.Ground.data }], guard := none }) rfl (fun K hK => ?_) AllReadyH.nil
            go_simp
            go_at_call 42
            refine (HD.out _).mono ?_
            rintro e w79 ⟨rfl, hb79⟩
            refine hK.out _ _ (hHeld.trans (hb79.mono hHeld.size)) (fun hHeld => ?_)
            clear hK K hb79
            try simp only [Act.put, List.setIfInBounds_toArray, List.set_cons_zero, List.set_cons_succ]
            refine wpAnyH_take (i := 9) (oi := { dst := some 31, op := Go.Op.binOp Go.BinOp.leq 3 (Go.Operand.tmp 29) (Go.Operand.tmp 30) 3, type := 4, pos := "ref.go:165", after := #[{ on := 7, ground := Go.Ground.data }, { on := 8, ground := Go.Ground.data }], guard := none }) (v := .bool true) rfl (by kernel_rfl) (by kernel_rfl) (by kernel_rfl) (fun _ _ _ h => h) (.inl ⟨by kernel_rfl, fun w9 h9 => by
              clear hHeld h9
              go_simp⟩) hHeld ?_
            refine takeU (i := 10) (some 32) (.bool true) (by kernel_rfl) (by kernel_rfl) (by kernel_rfl) (by kernel_rfl) (by kernel_rfl) (fun _ => by kernel_rfl) (fun _ _ _ h => h) hHeld ?_
            refine takeU (i := 11) (some 33) (.slice (some ⟨blk, off, none⟩) l.length cl) (by kernel_rfl) (by kernel_rfl) (by kernel_rfl) (by kernel_rfl) (by kernel_rfl) (fun _ => by kernel_rfl) (fun _ _ _ h => h) hHeld ?_
            refine takeU (i := 12) (some 34) (.int .i64 i) (by kernel_rfl) (by kernel_rfl) (by kernel_rfl) (by kernel_rfl) (by kernel_rfl) (fun _ => by kernel_rfl) (fun _ _ _ h => h) hHeld ?_
            refine wpAnyH_take (i := 13) (oi := { dst := some 35, op := Go.Op.indexAddr 25 (Go.Operand.tmp 33) (Go.Operand.tmp 34), type := 0, pos := "ref.go:165", after := #[{ on := 11, ground := Go.Ground.data }, { on := 12, ground := Go.Ground.data }, { on := 10, ground := Go.Ground.guard }], guard := some (10, true) }) (v := .pointer (some ⟨blk, off + i * 9, none⟩)) rfl (by kernel_rfl) (by kernel_rfl) (by kernel_rfl) (fun _ _ _ h => h) (.inl ⟨by kernel_rfl, fun w9 h9 => by
              clear hHeld h9
              go_simp⟩) hHeld ?_
            refine wpAnyH_take (i := 14) (oi := { dst := some 36, op := Go.Op.load 69 (Go.Operand.tmp 35), type := 69, pos := "ref.go:165", after := #[{ on := 13, ground := Go.Ground.data }, { on := 10, ground := Go.Ground.guard }], guard := some (10, true) }) (v := .agg #[.int .i64 x.n, .int .i64 x.k, .int .i64 x.v, .int .i64 x.c, .int .i64 x.d, .int .i64 x.rk, .int .i64 x.up, .int .i64 x.dn, .slice adi x.cv.length cpi]) rfl (by kernel_rfl) (by kernel_rfl) (by kernel_rfl) (fun _ _ _ h => h) (.inl ⟨by kernel_rfl, fun w9 h9 => by
              clear hHeld
              have d0 := (h9.cell (p := ⟨blk, off + i * 9, none⟩) hzc).trans c0
              have d1 := (h9.cell (p := ⟨blk, off + i * 9 + 1, none⟩) hzc).trans c1
              have d2 := (h9.cell (p := ⟨blk, off + i * 9 + 2, none⟩) hzc).trans c2
              have d3 := (h9.cell (p := ⟨blk, off + i * 9 + 3, none⟩) hzc).trans c3
              have d4 := (h9.cell (p := ⟨blk, off + i * 9 + 4, none⟩) hzc).trans c4
              have d5 := (h9.cell (p := ⟨blk, off + i * 9 + 5, none⟩) hzc).trans c5
              have d6 := (h9.cell (p := ⟨blk, off + i * 9 + 6, none⟩) hzc).trans c6
              have d7 := (h9.cell (p := ⟨blk, off + i * 9 + 7, none⟩) hzc).trans c7
              have d8 := (h9.cell (p := ⟨blk, off + i * 9 + 8, none⟩) hzc).trans c8
              clear h9
              go_simp⟩) hHeld ?_
            refine takeU (i := 15) (some 37) (.int .i64 t) (by kernel_rfl) (by kernel_rfl) (by kernel_rfl) (by kernel_rfl) (by kernel_rfl) (fun _ => by kernel_rfl) (fun _ _ _ h => h) hHeld ?_
            try simp only [Act.put, List.setIfInBounds_toArray, List.set_cons_zero, List.set_cons_succ]
            refine wpAnyH_ready (rs := [16]) (by kernel_rfl) (by simp) ?_
            refine AllReadyH.cons (o := { dst := some 38, op := Go.Op.call { callee := Go.Callee.value (Go.Operand.func 117), args := #[Go.Operand.tmp 36, Go.Operand.tmp 37], argTypes := #[69, 3] }, type := 3, pos := "ref.go:165", after := #[{ on := 14, ground := Go.Ground.data }, { on := 15, ground := Go.Ground.data }, { on := 10, ground := Go.Ground.chain }, { on := 10, ground := Go.Ground.guard }], guard := some (10, true) }) rfl (fun K hK => ?_) AllReadyH.nil
            go_simp
            go_at_call 117
            refine (HS.out _).mono ?_
            rintro e w169 ⟨rfl, hb169⟩
            refine hK.out _ _ (hHeld.trans (hb169.mono hHeld.size)) (fun hHeld => ?_)
            clear hK K hb169
            try simp only [Act.put, List.setIfInBounds_toArray, List.set_cons_zero, List.set_cons_succ]
            refine wpAnyH_take (i := 17) (oi := { dst := some 39, op := Go.Op.binOp Go.BinOp.gtr 3 (Go.Operand.tmp 38) (Go.Operand.const (Go.Value.int Go.IntKind.i64 0)) 3, type := 4, pos := "ref.go:165", after := #[{ on := 16, ground := Go.Ground.data }, { on := 10, ground := Go.Ground.guard }], guard := some (10, true) }) (v := .bool false) rfl (by kernel_rfl) (by kernel_rfl) (by kernel_rfl) (fun _ _ _ h => h) (.inl ⟨by kernel_rfl, fun w9 h9 => by
              clear hHeld h9
              go_simp⟩) hHeld ?_
            refine takeU (i := 18) (some 40) (.bool false) (by kernel_rfl) (by kernel_rfl) (by kernel_rfl) (by kernel_rfl) (by kernel_rfl) (fun _ => by kernel_rfl) (fun _ _ _ h => h) hHeld ?_
            refine takeU (i := 19) (some 41) (.slice (some ⟨blk, off, none⟩) l.length cl) (by kernel_rfl) (by kernel_rfl) (by kernel_rfl) (by kernel_rfl) (by kernel_rfl) (fun _ => by kernel_rfl) (fun _ _ _ h => h) hHeld ?_
            refine takeU (i := 20) (some 42) (.int .i64 i) (by kernel_rfl) (by kernel_rfl) (by kernel_rfl) (by kernel_rfl) (by kernel_rfl) (fun _ => by kernel_rfl) (fun _ _ _ h => h) hHeld ?_
            refine wpAnyH_take (i := 21) (oi := { dst := some 43, op := Go.Op.indexAddr 25 (Go.Operand.tmp 41) (Go.Operand.tmp 42), type := 0, pos := "ref.go:165", after := #[{ on := 19, ground := Go.Ground.data }, { on := 20, ground := Go.Ground.data }, { on := 18, ground := Go.Ground.guard }], guard := some (18, false) }) (v := .pointer (some ⟨blk, off + i * 9, none⟩)) rfl (by kernel_rfl) (by kernel_rfl) (by kernel_rfl) (fun _ _ _ h => h) (.inl ⟨by kernel_rfl, fun w9 h9 => by
              clear hHeld h9
              go_simp⟩) hHeld ?_
            refine wpAnyH_take (i := 22) (oi := { dst := some 44, op := Go.Op.load 69 (Go.Operand.tmp 43), type := 69, pos := "ref.go:165", after := #[{ on := 21, ground := Go.Ground.data }, { on := 18, ground := Go.Ground.guard }], guard := some (18, false) }) (v := .agg #[.int .i64 x.n, .int .i64 x.k, .int .i64 x.v, .int .i64 x.c, .int .i64 x.d, .int .i64 x.rk, .int .i64 x.up, .int .i64 x.dn, .slice adi x.cv.length cpi]) rfl (by kernel_rfl) (by kernel_rfl) (by kernel_rfl) (fun _ _ _ h => h) (.inl ⟨by kernel_rfl, fun w9 h9 => by
              clear hHeld
              have d0 := (h9.cell (p := ⟨blk, off + i * 9, none⟩) hzc).trans c0
              have d1 := (h9.cell (p := ⟨blk, off + i * 9 + 1, none⟩) hzc).trans c1
              have d2 := (h9.cell (p := ⟨blk, off + i * 9 + 2, none⟩) hzc).trans c2
              have d3 := (h9.cell (p := ⟨blk, off + i * 9 + 3, none⟩) hzc).trans c3
              have d4 := (h9.cell (p := ⟨blk, off + i * 9 + 4, none⟩) hzc).trans c4
              have d5 := (h9.cell (p := ⟨blk, off + i * 9 + 5, none⟩) hzc).trans c5
              have d6 := (h9.cell (p := ⟨blk, off + i * 9 + 6, none⟩) hzc).trans c6
              have d7 := (h9.cell (p := ⟨blk, off + i * 9 + 7, none⟩) hzc).trans c7
              have d8 := (h9.cell (p := ⟨blk, off + i * 9 + 8, none⟩) hzc).trans c8
              clear h9
              go_simp⟩) hHeld ?_
            refine takeU (i := 23) (some 45) (.int .i64 t) (by kernel_rfl) (by kernel_rfl) (by kernel_rfl) (by kernel_rfl) (by kernel_rfl) (fun _ => by kernel_rfl) (fun _ _ _ h => h) hHeld ?_
            try simp only [Act.put, List.setIfInBounds_toArray, List.set_cons_zero, List.set_cons_succ]
            refine wpAnyH_ready (rs := [24]) (by kernel_rfl) (by simp) ?_
            refine AllReadyH.cons (o := { dst := some 46, op := Go.Op.call { callee := Go.Callee.value (Go.Operand.func 118), args := #[Go.Operand.tmp 44, Go.Operand.tmp 45], argTypes := #[69, 3] }, type := 4, pos := "ref.go:165", after := #[{ on := 22, ground := Go.Ground.data }, { on := 23, ground := Go.Ground.data }, { on := 18, ground := Go.Ground.chain }, { on := 18, ground := Go.Ground.guard }], guard := some (18, false) }) rfl (fun K hK => ?_) AllReadyH.nil
            go_simp
            go_at_call 118
            refine (HE.out _).mono ?_
            rintro e w249 ⟨rfl, hb249⟩
            refine hK.out _ _ (hHeld.trans (hb249.mono hHeld.size)) (fun hHeld => ?_)
            clear hK K hb249
            try simp only [Act.put, List.setIfInBounds_toArray, List.set_cons_zero, List.set_cons_succ]
            refine takeU (i := 25) (some 47) (.bool true) (by kernel_rfl) (by kernel_rfl) (by kernel_rfl) (by kernel_rfl) (by kernel_rfl) (fun _ => by kernel_rfl) (fun _ _ _ h => h) hHeld ?_
            refine takeU (i := 26) (some 48) (.bool true) (by kernel_rfl) (by kernel_rfl) (by kernel_rfl) (by kernel_rfl) (by kernel_rfl) (fun _ => by kernel_rfl) (fun _ _ _ h => h) hHeld ?_
            refine wpAnyH_done (by kernel_rfl) ?_ _
            try simp only [Act.put, List.setIfInBounds_toArray, List.set_cons_zero, List.set_cons_succ]
            go_wp2_with fail
            go_roundw
            case rel => exact ⟨i + 1, by omega, by go_num, by rw [HLYe.out, HV2.out], hbr.trans (hHeld.mono hbr.size)⟩
            case measure => simp [intOf]; omega
          | false =>
            have hv := HLN.out (by rw [HRi, d1, d2]; rfl)
            have HV2 := Lib.hid hv
            clear hv HRi HLY HLN
            refine wp_region_held_drew (S := fun w' => Below wr.heap.size wr w') (by kernel_rfl) ((Below.refl _ _).drew) (fun hHeld => ?_)
            refine wpAnyH_take (i := 0) (oi := { dst := some 22, op := Go.Op.load 24 (Go.Operand.tmp 5), type := 24, pos := "ref.go:165", after := #[], guard := none }) (v := .agg #[.int .i64 L, .slice a js.length ca]) rfl (by kernel_rfl) (by kernel_rfl) (by kernel_rfl) (fun _ _ _ h => h) (.inl ⟨by kernel_rfl, fun w9 h9 => by
              clear hHeld
              have d0 := (h9.cell (p := ⟨w.heap.size, 0, none⟩) hzp).trans p0
              have d1 := (h9.cell (p := ⟨w.heap.size, 1, none⟩) hzp).trans p1
              clear h9
              go_simp⟩) hHeld ?_
            refine takeU (i := 1) (some 23) (.int .i64 dir) (by kernel_rfl) (by kernel_rfl) (by kernel_rfl) (by kernel_rfl) (by kernel_rfl) (fun _ => by kernel_rfl) (fun _ _ _ h => h) hHeld ?_
            refine takeU (i := 2) (some 24) (.slice (some ⟨blk, off, none⟩) l.length cl) (by kernel_rfl) (by kernel_rfl) (by kernel_rfl) (by kernel_rfl) (by kernel_rfl) (fun _ => by kernel_rfl) (fun _ _ _ h => h) hHeld ?_
            refine takeU (i := 3) (some 25) (.int .i64 i) (by kernel_rfl) (by kernel_rfl) (by kernel_rfl) (by kernel_rfl) (by kernel_rfl) (fun _ => by kernel_rfl) (fun _ _ _ h => h) hHeld ?_
            refine wpAnyH_take (i := 4) (oi := { dst := some 26, op := Go.Op.indexAddr 25 (Go.Operand.tmp 24) (Go.Operand.tmp 25), type := 0, pos := "ref.go:165", after := #[{ on := 2, ground := Go.Ground.data }, { on := 3, ground := Go.Ground.data }], guard := none }) (v := .pointer (some ⟨blk, off + i * 9, none⟩)) rfl (by kernel_rfl) (by kernel_rfl) (by kernel_rfl) (fun _ _ _ h => h) (.inl ⟨by kernel_rfl, fun w9 h9 => by
              clear hHeld h9
              go_simp⟩) hHeld ?_
            refine takeU (i := 5) (some 27) (.pointer (some ⟨blk, off + i * 9 + 3, none⟩)) (by kernel_rfl) (by kernel_rfl) (by kernel_rfl) (by kernel_rfl) (by kernel_rfl) (fun _ => by kernel_rfl) (fun _ _ _ h => h) hHeld ?_
            refine wpAnyH_take (i := 6) (oi := { dst := some 28, op := Go.Op.load 3 (Go.Operand.tmp 27), type := 3, pos := "ref.go:165", after := #[{ on := 5, ground := Go.Ground.data }], guard := none }) (v := .int .i64 x.c) rfl (by kernel_rfl) (by kernel_rfl) (by kernel_rfl) (fun _ _ _ h => h) (.inl ⟨by kernel_rfl, fun w9 h9 => by
              clear hHeld
              have d0 := (h9.cell (p := ⟨blk, off + i * 9 + 3, none⟩) hzc).trans c3
              clear h9
              go_simp⟩) hHeld ?_
            refine takeU (i := 8) (some 30) (.int .i64 k) (by kernel_rfl) (by kernel_rfl) (by kernel_rfl) (by kernel_rfl) (by kernel_rfl) (fun _ => by kernel_rfl) (fun _ _ _ h => h) hHeld ?_
            try simp only [Act.put, List.setIfInBounds_toArray, List.set_cons_zero, List.set_cons_succ]
            refine wpAnyH_ready (rs := [7]) (by kernel_rfl) (by simp) ?_
            refine AllReadyH.cons (o := { dst := some 29, op := Go.Op.call { callee := Go.Callee.value (Go.Operand.func 42), args := #[Go.Operand.tmp 22, Go.Operand.tmp 23, Go.Operand.tmp 28], argTypes := #[24, 3, 3] }, type := 3, pos := "ref.go:165", after := #[{ on := 0, ground := Go.Ground.data }, { on := 1, ground := Go.Ground.data }, { on := 6, ground := Go.Ground.data }], guard := none }) rfl (fun K hK => ?_) AllReadyH.nil
            go_simp
            go_at_call 42
            refine (HD.out _).mono ?_
            rintro e w79 ⟨rfl, hb79⟩
            refine hK.out _ _ (hHeld.trans (hb79.mono hHeld.size)) (fun hHeld => ?_)
            clear hK K hb79
            try simp only [Act.put, List.setIfInBounds_toArray, List.set_cons_zero, List.set_cons_succ]
            refine wpAnyH_take (i := 9) (oi := { dst := some 31, op := Go.Op.binOp Go.BinOp.leq 3 (Go.Operand.tmp 29) (Go.Operand.tmp 30) 3, type := 4, pos := "ref.go:165", after := #[{ on := 7, ground := Go.Ground.data }, { on := 8, ground := Go.Ground.data }], guard := none }) (v := .bool true) rfl (by kernel_rfl) (by kernel_rfl) (by kernel_rfl) (fun _ _ _ h => h) (.inl ⟨by kernel_rfl, fun w9 h9 => by
              clear hHeld h9
              go_simp⟩) hHeld ?_
            refine takeU (i := 10) (some 32) (.bool true) (by kernel_rfl) (by kernel_rfl) (by kernel_rfl) (by kernel_rfl) (by kernel_rfl) (fun _ => by kernel_rfl) (fun _ _ _ h => h) hHeld ?_
            refine takeU (i := 11) (some 33) (.slice (some ⟨blk, off, none⟩) l.length cl) (by kernel_rfl) (by kernel_rfl) (by kernel_rfl) (by kernel_rfl) (by kernel_rfl) (fun _ => by kernel_rfl) (fun _ _ _ h => h) hHeld ?_
            refine takeU (i := 12) (some 34) (.int .i64 i) (by kernel_rfl) (by kernel_rfl) (by kernel_rfl) (by kernel_rfl) (by kernel_rfl) (fun _ => by kernel_rfl) (fun _ _ _ h => h) hHeld ?_
            refine wpAnyH_take (i := 13) (oi := { dst := some 35, op := Go.Op.indexAddr 25 (Go.Operand.tmp 33) (Go.Operand.tmp 34), type := 0, pos := "ref.go:165", after := #[{ on := 11, ground := Go.Ground.data }, { on := 12, ground := Go.Ground.data }, { on := 10, ground := Go.Ground.guard }], guard := some (10, true) }) (v := .pointer (some ⟨blk, off + i * 9, none⟩)) rfl (by kernel_rfl) (by kernel_rfl) (by kernel_rfl) (fun _ _ _ h => h) (.inl ⟨by kernel_rfl, fun w9 h9 => by
              clear hHeld h9
              go_simp⟩) hHeld ?_
            refine wpAnyH_take (i := 14) (oi := { dst := some 36, op := Go.Op.load 69 (Go.Operand.tmp 35), type := 69, pos := "ref.go:165", after := #[{ on := 13, ground := Go.Ground.data }, { on := 10, ground := Go.Ground.guard }], guard := some (10, true) }) (v := .agg #[.int .i64 x.n, .int .i64 x.k, .int .i64 x.v, .int .i64 x.c, .int .i64 x.d, .int .i64 x.rk, .int .i64 x.up, .int .i64 x.dn, .slice adi x.cv.length cpi]) rfl (by kernel_rfl) (by kernel_rfl) (by kernel_rfl) (fun _ _ _ h => h) (.inl ⟨by kernel_rfl, fun w9 h9 => by
              clear hHeld
              have d0 := (h9.cell (p := ⟨blk, off + i * 9, none⟩) hzc).trans c0
              have d1 := (h9.cell (p := ⟨blk, off + i * 9 + 1, none⟩) hzc).trans c1
              have d2 := (h9.cell (p := ⟨blk, off + i * 9 + 2, none⟩) hzc).trans c2
              have d3 := (h9.cell (p := ⟨blk, off + i * 9 + 3, none⟩) hzc).trans c3
              have d4 := (h9.cell (p := ⟨blk, off + i * 9 + 4, none⟩) hzc).trans c4
              have d5 := (h9.cell (p := ⟨blk, off + i * 9 + 5, none⟩) hzc).trans c5
              have d6 := (h9.cell (p := ⟨blk, off + i * 9 + 6, none⟩) hzc).trans c6
              have d7 := (h9.cell (p := ⟨blk, off + i * 9 + 7, none⟩) hzc).trans c7
              have d8 := (h9.cell (p := ⟨blk, off + i * 9 + 8, none⟩) hzc).trans c8
              clear h9
              go_simp⟩) hHeld ?_
            refine takeU (i := 15) (some 37) (.int .i64 t) (by kernel_rfl) (by kernel_rfl) (by kernel_rfl) (by kernel_rfl) (by kernel_rfl) (fun _ => by kernel_rfl) (fun _ _ _ h => h) hHeld ?_
            try simp only [Act.put, List.setIfInBounds_toArray, List.set_cons_zero, List.set_cons_succ]
            refine wpAnyH_ready (rs := [16]) (by kernel_rfl) (by simp) ?_
            refine AllReadyH.cons (o := { dst := some 38, op := Go.Op.call { callee := Go.Callee.value (Go.Operand.func 117), args := #[Go.Operand.tmp 36, Go.Operand.tmp 37], argTypes := #[69, 3] }, type := 3, pos := "ref.go:165", after := #[{ on := 14, ground := Go.Ground.data }, { on := 15, ground := Go.Ground.data }, { on := 10, ground := Go.Ground.chain }, { on := 10, ground := Go.Ground.guard }], guard := some (10, true) }) rfl (fun K hK => ?_) AllReadyH.nil
            go_simp
            go_at_call 117
            refine (HS.out _).mono ?_
            rintro e w169 ⟨rfl, hb169⟩
            refine hK.out _ _ (hHeld.trans (hb169.mono hHeld.size)) (fun hHeld => ?_)
            clear hK K hb169
            try simp only [Act.put, List.setIfInBounds_toArray, List.set_cons_zero, List.set_cons_succ]
            refine wpAnyH_take (i := 17) (oi := { dst := some 39, op := Go.Op.binOp Go.BinOp.gtr 3 (Go.Operand.tmp 38) (Go.Operand.const (Go.Value.int Go.IntKind.i64 0)) 3, type := 4, pos := "ref.go:165", after := #[{ on := 16, ground := Go.Ground.data }, { on := 10, ground := Go.Ground.guard }], guard := some (10, true) }) (v := .bool false) rfl (by kernel_rfl) (by kernel_rfl) (by kernel_rfl) (fun _ _ _ h => h) (.inl ⟨by kernel_rfl, fun w9 h9 => by
              clear hHeld h9
              go_simp⟩) hHeld ?_
            refine takeU (i := 18) (some 40) (.bool false) (by kernel_rfl) (by kernel_rfl) (by kernel_rfl) (by kernel_rfl) (by kernel_rfl) (fun _ => by kernel_rfl) (fun _ _ _ h => h) hHeld ?_
            refine takeU (i := 19) (some 41) (.slice (some ⟨blk, off, none⟩) l.length cl) (by kernel_rfl) (by kernel_rfl) (by kernel_rfl) (by kernel_rfl) (by kernel_rfl) (fun _ => by kernel_rfl) (fun _ _ _ h => h) hHeld ?_
            refine takeU (i := 20) (some 42) (.int .i64 i) (by kernel_rfl) (by kernel_rfl) (by kernel_rfl) (by kernel_rfl) (by kernel_rfl) (fun _ => by kernel_rfl) (fun _ _ _ h => h) hHeld ?_
            refine wpAnyH_take (i := 21) (oi := { dst := some 43, op := Go.Op.indexAddr 25 (Go.Operand.tmp 41) (Go.Operand.tmp 42), type := 0, pos := "ref.go:165", after := #[{ on := 19, ground := Go.Ground.data }, { on := 20, ground := Go.Ground.data }, { on := 18, ground := Go.Ground.guard }], guard := some (18, false) }) (v := .pointer (some ⟨blk, off + i * 9, none⟩)) rfl (by kernel_rfl) (by kernel_rfl) (by kernel_rfl) (fun _ _ _ h => h) (.inl ⟨by kernel_rfl, fun w9 h9 => by
              clear hHeld h9
              go_simp⟩) hHeld ?_
            refine wpAnyH_take (i := 22) (oi := { dst := some 44, op := Go.Op.load 69 (Go.Operand.tmp 43), type := 69, pos := "ref.go:165", after := #[{ on := 21, ground := Go.Ground.data }, { on := 18, ground := Go.Ground.guard }], guard := some (18, false) }) (v := .agg #[.int .i64 x.n, .int .i64 x.k, .int .i64 x.v, .int .i64 x.c, .int .i64 x.d, .int .i64 x.rk, .int .i64 x.up, .int .i64 x.dn, .slice adi x.cv.length cpi]) rfl (by kernel_rfl) (by kernel_rfl) (by kernel_rfl) (fun _ _ _ h => h) (.inl ⟨by kernel_rfl, fun w9 h9 => by
              clear hHeld
              have d0 := (h9.cell (p := ⟨blk, off + i * 9, none⟩) hzc).trans c0
              have d1 := (h9.cell (p := ⟨blk, off + i * 9 + 1, none⟩) hzc).trans c1
              have d2 := (h9.cell (p := ⟨blk, off + i * 9 + 2, none⟩) hzc).trans c2
              have d3 := (h9.cell (p := ⟨blk, off + i * 9 + 3, none⟩) hzc).trans c3
              have d4 := (h9.cell (p := ⟨blk, off + i * 9 + 4, none⟩) hzc).trans c4
              have d5 := (h9.cell (p := ⟨blk, off + i * 9 + 5, none⟩) hzc).trans c5
              have d6 := (h9.cell (p := ⟨blk, off + i * 9 + 6, none⟩) hzc).trans c6
              have d7 := (h9.cell (p := ⟨blk, off + i * 9 + 7, none⟩) hzc).trans c7
              have d8 := (h9.cell (p := ⟨blk, off + i * 9 + 8, none⟩) hzc).trans c8
              clear h9
              go_simp⟩) hHeld ?_
            refine takeU (i := 23) (some 45) (.int .i64 t) (by kernel_rfl) (by kernel_rfl) (by kernel_rfl) (by kernel_rfl) (by kernel_rfl) (fun _ => by kernel_rfl) (fun _ _ _ h => h) hHeld ?_
            try simp only [Act.put, List.setIfInBounds_toArray, List.set_cons_zero, List.set_cons_succ]
            refine wpAnyH_ready (rs := [24]) (by kernel_rfl) (by simp) ?_
            refine AllReadyH.cons (o := { dst := some 46, op := Go.Op.call { callee := Go.Callee.value (Go.Operand.func 118), args := #[Go.Operand.tmp 44, Go.Operand.tmp 45], argTypes := #[69, 3] }, type := 4, pos := "ref.go:165", after := #[{ on := 22, ground := Go.Ground.data }, { on := 23, ground := Go.Ground.data }, { on := 18, ground := Go.Ground.chain }, { on := 18, ground := Go.Ground.guard }], guard := some (18, false) }) rfl (fun K hK => ?_) AllReadyH.nil
            go_simp
            go_at_call 118
            refine (HE.out _).mono ?_
            rintro e w249 ⟨rfl, hb249⟩
            refine hK.out _ _ (hHeld.trans (hb249.mono hHeld.size)) (fun hHeld => ?_)
            clear hK K hb249
            try simp only [Act.put, List.setIfInBounds_toArray, List.set_cons_zero, List.set_cons_succ]
            refine takeU (i := 25) (some 47) (.bool false) (by kernel_rfl) (by kernel_rfl) (by kernel_rfl) (by kernel_rfl) (by kernel_rfl) (fun _ => by kernel_rfl) (fun _ _ _ h => h) hHeld ?_
            refine takeU (i := 26) (some 48) (.bool false) (by kernel_rfl) (by kernel_rfl) (by kernel_rfl) (by kernel_rfl) (by kernel_rfl) (fun _ => by kernel_rfl) (fun _ _ _ h => h) hHeld ?_
            refine wpAnyH_done (by kernel_rfl) ?_ _
            try simp only [Act.put, List.setIfInBounds_toArray, List.set_cons_zero, List.set_cons_succ]
            go_wp2_with fail
            go_roundw
            case rel => exact ⟨i + 1, by omega, by go_num, by rw [HLYe.out, HV2.out], hbr.trans (hHeld.mono hbr.size)⟩
            case measure => simp [intOf]; omega
      · have d1 : decide (D ≤ k) = false := decide_eq_false h1
        have hv := HLN.out (by rw [HRi, d1]; rfl)
        have HV2 := Lib.hid hv
        clear hv HRi HLY HLN HE HS
        refine wp_region_held_drew (S := fun w' => Below wr.heap.size wr w') (by kernel_rfl) ((Below.refl _ _).drew) (fun hHeld => ?_)
        refine wpAnyH_take (i := 0) (oi := { dst := some 22, op := Go.Op.load 24 (Go.Operand.tmp 5), type := 24, pos := "ref.go:165", after := #[], guard := none }) (v := .agg #[.int .i64 L, .slice a js.length ca]) rfl (by kernel_rfl) (by kernel_rfl) (by kernel_rfl) (fun _ _ _ h => h) (.inl ⟨by kernel_rfl, fun w9 h9 => by
          clear hHeld
          have d0 := (h9.cell (p := ⟨w.heap.size, 0, none⟩) hzp).trans p0
          have d1 := (h9.cell (p := ⟨w.heap.size, 1, none⟩) hzp).trans p1
          clear h9
          go_simp⟩) hHeld ?_
        refine takeU (i := 1) (some 23) (.int .i64 dir) (by kernel_rfl) (by kernel_rfl) (by kernel_rfl) (by kernel_rfl) (by kernel_rfl) (fun _ => by kernel_rfl) (fun _ _ _ h => h) hHeld ?_
        refine takeU (i := 2) (some 24) (.slice (some ⟨blk, off, none⟩) l.length cl) (by kernel_rfl) (by kernel_rfl) (by kernel_rfl) (by kernel_rfl) (by kernel_rfl) (fun _ => by kernel_rfl) (fun _ _ _ h => h) hHeld ?_
        refine takeU (i := 3) (some 25) (.int .i64 i) (by kernel_rfl) (by kernel_rfl) (by kernel_rfl) (by kernel_rfl) (by kernel_rfl) (fun _ => by kernel_rfl) (fun _ _ _ h => h) hHeld ?_
        refine wpAnyH_take (i := 4) (oi := { dst := some 26, op := Go.Op.indexAddr 25 (Go.Operand.tmp 24) (Go.Operand.tmp 25), type := 0, pos := "ref.go:165", after := #[{ on := 2, ground := Go.Ground.data }, { on := 3, ground := Go.Ground.data }], guard := none }) (v := .pointer (some ⟨blk, off + i * 9, none⟩)) rfl (by kernel_rfl) (by kernel_rfl) (by kernel_rfl) (fun _ _ _ h => h) (.inl ⟨by kernel_rfl, fun w9 h9 => by
          clear hHeld h9
          go_simp⟩) hHeld ?_
        refine takeU (i := 5) (some 27) (.pointer (some ⟨blk, off + i * 9 + 3, none⟩)) (by kernel_rfl) (by kernel_rfl) (by kernel_rfl) (by kernel_rfl) (by kernel_rfl) (fun _ => by kernel_rfl) (fun _ _ _ h => h) hHeld ?_
        refine wpAnyH_take (i := 6) (oi := { dst := some 28, op := Go.Op.load 3 (Go.Operand.tmp 27), type := 3, pos := "ref.go:165", after := #[{ on := 5, ground := Go.Ground.data }], guard := none }) (v := .int .i64 x.c) rfl (by kernel_rfl) (by kernel_rfl) (by kernel_rfl) (fun _ _ _ h => h) (.inl ⟨by kernel_rfl, fun w9 h9 => by
          clear hHeld
          have d0 := (h9.cell (p := ⟨blk, off + i * 9 + 3, none⟩) hzc).trans c3
          clear h9
          go_simp⟩) hHeld ?_
        refine takeU (i := 8) (some 30) (.int .i64 k) (by kernel_rfl) (by kernel_rfl) (by kernel_rfl) (by kernel_rfl) (by kernel_rfl) (fun _ => by kernel_rfl) (fun _ _ _ h => h) hHeld ?_
        try simp only [Act.put, List.setIfInBounds_toArray, List.set_cons_zero, List.set_cons_succ]
        refine wpAnyH_ready (rs := [7]) (by kernel_rfl) (by simp) ?_
        refine AllReadyH.cons (o := { dst := some 29, op := Go.Op.call { callee := Go.Callee.value (Go.Operand.func 42), args := #[Go.Operand.tmp 22, Go.Operand.tmp 23, Go.Operand.tmp 28], argTypes := #[24, 3, 3] }, type := 3, pos := "ref.go:165", after := #[{ on := 0, ground := Go.Ground.data }, { on := 1, ground := Go.Ground.data }, { on := 6, ground := Go.Ground.data }], guard := none }) rfl (fun K hK => ?_) AllReadyH.nil
        go_simp
        go_at_call 42
        refine (HD.out _).mono ?_
        rintro e w79 ⟨rfl, hb79⟩
        refine hK.out _ _ (hHeld.trans (hb79.mono hHeld.size)) (fun hHeld => ?_)
        clear hK K hb79
        try simp only [Act.put, List.setIfInBounds_toArray, List.set_cons_zero, List.set_cons_succ]
        refine wpAnyH_take (i := 9) (oi := { dst := some 31, op := Go.Op.binOp Go.BinOp.leq 3 (Go.Operand.tmp 29) (Go.Operand.tmp 30) 3, type := 4, pos := "ref.go:165", after := #[{ on := 7, ground := Go.Ground.data }, { on := 8, ground := Go.Ground.data }], guard := none }) (v := .bool false) rfl (by kernel_rfl) (by kernel_rfl) (by kernel_rfl) (fun _ _ _ h => h) (.inl ⟨by kernel_rfl, fun w9 h9 => by
          clear hHeld h9
          go_simp⟩) hHeld ?_
        refine takeU (i := 10) (some 32) (.bool false) (by kernel_rfl) (by kernel_rfl) (by kernel_rfl) (by kernel_rfl) (by kernel_rfl) (fun _ => by kernel_rfl) (fun _ _ _ h => h) hHeld ?_
        refine skipU (i := 11) (some 33) (by kernel_rfl) (by kernel_rfl) (by kernel_rfl) (by kernel_rfl) (by kernel_rfl) (fun _ _ _ h => h) hHeld ?_
        refine skipU (i := 12) (some 34) (by kernel_rfl) (by kernel_rfl) (by kernel_rfl) (by kernel_rfl) (by kernel_rfl) (fun _ _ _ h => h) hHeld ?_
        refine skipU (i := 13) (some 35) (by kernel_rfl) (by kernel_rfl) (by kernel_rfl) (by kernel_rfl) (by kernel_rfl) (fun _ _ _ h => h) hHeld ?_
        refine skipU (i := 14) (some 36) (by kernel_rfl) (by kernel_rfl) (by kernel_rfl) (by kernel_rfl) (by kernel_rfl) (fun _ _ _ h => h) hHeld ?_
        refine skipU (i := 15) (some 37) (by kernel_rfl) (by kernel_rfl) (by kernel_rfl) (by kernel_rfl) (by kernel_rfl) (fun _ _ _ h => h) hHeld ?_
        refine skipU (i := 16) (some 38) (by kernel_rfl) (by kernel_rfl) (by kernel_rfl) (by kernel_rfl) (by kernel_rfl) (fun _ _ _ h => h) hHeld ?_
        refine skipU (i := 17) (some 39) (by kernel_rfl) (by kernel_rfl) (by kernel_rfl) (by kernel_rfl) (by kernel_rfl) (fun _ _ _ h => h) hHeld ?_
        refine skipU (i := 18) (some 40) (by kernel_rfl) (by kernel_rfl) (by kernel_rfl) (by kernel_rfl) (by kernel_rfl) (fun _ _ _ h => h) hHeld ?_
        refine skipU (i := 19) (some 41) (by kernel_rfl) (by kernel_rfl) (by kernel_rfl) (by kernel_rfl) (by kernel_rfl) (fun _ _ _ h => h) hHeld ?_
        refine skipU (i := 20) (some 42) (by kernel_rfl) (by kernel_rfl) (by kernel_rfl) (by kernel_rfl) (by kernel_rfl) (fun _ _ _ h => h) hHeld ?_
        refine skipU (i := 21) (some 43) (by kernel_rfl) (by kernel_rfl) (by kernel_rfl) (by kernel_rfl) (by kernel_rfl) (fun _ _ _ h => h) hHeld ?_
        refine skipU (i := 22) (some 44) (by kernel_rfl) (by kernel_rfl) (by kernel_rfl) (by kernel_rfl) (by kernel_rfl) (fun _ _ _ h => h) hHeld ?_
        refine skipU (i := 23) (some 45) (by kernel_rfl) (by kernel_rfl) (by kernel_rfl) (by kernel_rfl) (by kernel_rfl) (fun _ _ _ h => h) hHeld ?_
        refine skipU (i := 24) (some 46) (by kernel_rfl) (by kernel_rfl) (by kernel_rfl) (by kernel_rfl) (by kernel_rfl) (fun _ _ _ h => h) hHeld ?_
        refine skipU (i := 25) (some 47) (by kernel_rfl) (by kernel_rfl) (by kernel_rfl) (by kernel_rfl) (by kernel_rfl) (fun _ _ _ h => h) hHeld ?_
        refine takeU (i := 26) (some 48) (.bool false) (by kernel_rfl) (by kernel_rfl) (by kernel_rfl) (by kernel_rfl) (by kernel_rfl) (fun _ => by kernel_rfl) (fun _ _ _ h => h) hHeld ?_
        refine wpAnyH_done (by kernel_rfl) ?_ _
        try simp only [Act.put, List.setIfInBounds_toArray, List.set_cons_zero, List.set_cons_succ]
        go_wp2_with fail
        go_roundw
        case rel => exact ⟨i + 1, by omega, by go_num, by rw [HLYe.out, HV2.out], hbr.trans (hHeld.mono hbr.size)⟩
        case measure => simp [intOf]; omega
    · obtain rfl : i = l.length := by omega
      rcases HLc.out l.length with ⟨hx, hno⟩ | ⟨x, hxl, hx, hrx, hla⟩
      · have hv := HNone.out hno
        have HVv := Lib.hid hv
        rw [hx]
        clear hx hno hv HLc HR HAd HC HJ HA HNone HLast HJc HJa HRel HT
        go_wp2_with fail
        go_ret
        exact ⟨by rw [HVv.out] <;> rfl, hbw⟩
      · have hv := HLast.out x hxl hrx hla
        have HVv := Lib.hid hv
        rw [hx]
        obtain rfl := HAd.out (by omega)
        obtain ⟨⟨c0, c1, c2, c3, c4, c5, c6, c7⟩, c8, hP⟩ := HR.out x hxl
        have hcx := (HC.out x hxl).1
        have HPl := Lib.hid (fun W (hW : Below w.heap.size w W) => refPlated_r (some ⟨blk, off, none⟩) l cl x hxl hn W (HA.out.below hW))
        have HNx : Hid (x + 1 < l.length → w.cell? ⟨blk, off + (x + 1) * 9 + 2, none⟩ = some (.int .i64 (gs l (x + 1)).v)) := Lib.hid fun h => (HR.out (x + 1) h).1.2.2.1
        have HNv : Hid (x + 1 < l.length → 0 ≤ (gs l (x + 1)).v ∧ (gs l (x + 1)).v ≤ 100000) := Lib.hid fun h => (HC.out (x + 1) h).2
        have HPd : Hid (plB l x = true → x + 1 < l.length) := Lib.hid fun h => by
          unfold plB at h
          rw [Bool.and_eq_true, decide_eq_true_eq] at h
          exact h.1
        have c0 := cell_below c0 hbw
        have c1 := cell_below c1 hbw
        have c2 := cell_below c2 hbw
        have c3 := cell_below c3 hbw
        have c4 := cell_below c4 hbw
        have c5 := cell_below c5 hbw
        have c6 := cell_below c6 hbw
        have c7 := cell_below c7 hbw
        have c8 := cell_below c8 hbw
        have HD := Lib.hid (fun W => refDistance_r L a js.length ca dir (gs l x).c hL1 hL2 (by omega) (by omega) W)
        have HS := Lib.hid (fun W => refStart_r (gs l x) (ad x) (cp x) t HT.out W)
        have HE := Lib.hid (fun W => refEnd_r (gs l x) (ad x) (cp x) t HT.out W)
        have hDb := dst_bound (L := L) (dir := dir) (c := (gs l x).c) hL1 hL2 hcx.1 hcx.2
        have HJt : Hid (∀ j : Nat, j < js.length → (decide (dstK L dir (gs l x).c < dstK L dir (gi js j)) && decide (dstK L dir (gi js j) ≤ k)) = true → jctB L js dir (dstK L dir (gs l x).c) k = true) := Lib.hid fun j hj h => by unfold jctB; exact anyK_true h _ hj
        have HJf : Hid ((∀ j : Nat, j < js.length → (decide (dstK L dir (gs l x).c < dstK L dir (gi js j)) && decide (dstK L dir (gi js j) ≤ k)) = false) → jctB L js dir (dstK L dir (gs l x).c) k = false) := Lib.hid fun h => (anyK_iff _).2 h
        clear hx hrx hla hv HLc HR HAd HC HA HNone HLast HRel HT hP hcx
        generalize ad x = adx at *
        generalize cp x = cpx at *
        generalize strR (gs l x).k (gs l x).v t = S at *
        generalize dstK L dir (gs l x).c = D at *
        generalize jctB L js dir D k = jt at *
        obtain ⟨eb, heb⟩ : ∃ eb, endB (gs l x).k t = eb := ⟨_, rfl⟩
        rw [heb] at HE HVv
        clear heb
        obtain ⟨s, hs⟩ : ∃ s, gs l x = s := ⟨_, rfl⟩
        rw [hs] at HS HE HD c0 c1 c2 c3 c4 c5 c6 c7 c8
        clear hs
        have g1 : (x : Int) < (l.length : Int) := by omega
        have g2 : ¬ ((x : Int) < 0) := by omega
        cases eb with
        | true =>
          rw [if_pos rfl] at HVv
          clear HJt HJf HNx HNv HPd HPl HS HD
          go_wp2_with (go_at_call 118; refine (HE.out _).mono ?_; rintro e w9 ⟨rfl, hb9⟩)
          go_ret
          exact ⟨by rw [HVv.out] <;> rfl, hbw.trans (hb9.mono hbw.size)⟩
        | false =>
          rw [if_neg (by decide)] at HVv
          go_wp2_with (go_at_call 118; refine (HE.out _).mono ?_; rintro e w9 ⟨rfl, hb9⟩)
          obtain ⟨wr2, rfl⟩ : ∃ wr2 : World, wr2 = w9 := ⟨_, rfl⟩
          have hbw2 := hbw.trans (hb9.mono hbw.size)
          replace p0 := cell_below p0 hb9
          replace p1 := cell_below p1 hb9
          replace c0 := cell_below c0 hb9
          replace c1 := cell_below c1 hb9
          replace c2 := cell_below c2 hb9
          replace c3 := cell_below c3 hb9
          replace c4 := cell_below c4 hb9
          replace c5 := cell_below c5 hb9
          replace c6 := cell_below c6 hb9
          replace c7 := cell_below c7 hb9
          replace c8 := cell_below c8 hb9
          clear hb9 hbw hbr HE
          have hzp := block_lt p0
          have hzc := block_lt c0
          obtain ⟨wr, rfl⟩ : ∃ wr : World, wr = wr2 := ⟨_, rfl⟩
          refine wp_region_held_drew (S := fun w' => Below wr.heap.size wr w') (by kernel_rfl) ((Below.refl _ _).drew) (fun hHeld => ?_)
          refine wpAnyH_take (i := 0) (oi := { dst := some 60, op := Go.Op.load 24 (Go.Operand.tmp 5), type := 24, pos := "ref.go:172", after := #[], guard := none }) (v := .agg #[.int .i64 L, .slice a js.length ca]) rfl (by kernel_rfl) (by kernel_rfl) (by kernel_rfl) (fun _ _ _ h => h) (.inl ⟨by kernel_rfl, fun w9 h9 => by
            clear hHeld
            have d0 := (h9.cell (p := ⟨w.heap.size, 0, none⟩) hzp).trans p0
            have d1 := (h9.cell (p := ⟨w.heap.size, 1, none⟩) hzp).trans p1
            clear h9
            go_simp⟩) hHeld ?_
          refine takeU (i := 1) (some 61) (.int .i64 dir) (by kernel_rfl) (by kernel_rfl) (by kernel_rfl) (by kernel_rfl) (by kernel_rfl) (fun _ => by kernel_rfl) (fun _ _ _ h => h) hHeld ?_
          refine takeU (i := 2) (some 62) (.slice (some ⟨blk, off, none⟩) l.length cl) (by kernel_rfl) (by kernel_rfl) (by kernel_rfl) (by kernel_rfl) (by kernel_rfl) (fun _ => by kernel_rfl) (fun _ _ _ h => h) hHeld ?_
          refine takeU (i := 3) (some 63) (.int .i64 x) (by kernel_rfl) (by kernel_rfl) (by kernel_rfl) (by kernel_rfl) (by kernel_rfl) (fun _ => by kernel_rfl) (fun _ _ _ h => h) hHeld ?_
          refine wpAnyH_take (i := 4) (oi := { dst := some 64, op := Go.Op.indexAddr 25 (Go.Operand.tmp 62) (Go.Operand.tmp 63), type := 0, pos := "ref.go:172", after := #[{ on := 2, ground := Go.Ground.data }, { on := 3, ground := Go.Ground.data }], guard := none }) (v := .pointer (some ⟨blk, off + x * 9, none⟩)) rfl (by kernel_rfl) (by kernel_rfl) (by kernel_rfl) (fun _ _ _ h => h) (.inl ⟨by kernel_rfl, fun w9 h9 => by
            clear hHeld h9
            go_simp⟩) hHeld ?_
          refine takeU (i := 5) (some 65) (.pointer (some ⟨blk, off + x * 9 + 3, none⟩)) (by kernel_rfl) (by kernel_rfl) (by kernel_rfl) (by kernel_rfl) (by kernel_rfl) (fun _ => by kernel_rfl) (fun _ _ _ h => h) hHeld ?_
          refine wpAnyH_take (i := 6) (oi := { dst := some 66, op := Go.Op.load 3 (Go.Operand.tmp 65), type := 3, pos := "ref.go:172", after := #[{ on := 5, ground := Go.Ground.data }], guard := none }) (v := .int .i64 s.c) rfl (by kernel_rfl) (by kernel_rfl) (by kernel_rfl) (fun _ _ _ h => h) (.inl ⟨by kernel_rfl, fun w9 h9 => by
            clear hHeld
            have d0 := (h9.cell (p := ⟨blk, off + x * 9 + 3, none⟩) hzc).trans c3
            clear h9
            go_simp⟩) hHeld ?_
          try simp only [Act.put, List.setIfInBounds_toArray, List.set_cons_zero, List.set_cons_succ]
          refine wpAnyH_ready (rs := [7]) (by kernel_rfl) (by simp) ?_
          refine AllReadyH.cons (o := { dst := some 67, op := Go.Op.call { callee := Go.Callee.value (Go.Operand.func 42), args := #[Go.Operand.tmp 60, Go.Operand.tmp 61, Go.Operand.tmp 66], argTypes := #[24, 3, 3] }, type := 3, pos := "ref.go:172", after := #[{ on := 0, ground := Go.Ground.data }, { on := 1, ground := Go.Ground.data }, { on := 6, ground := Go.Ground.data }], guard := none }) rfl (fun K hK => ?_) AllReadyH.nil
          go_simp
          go_at_call 42
          refine (HD.out _).mono ?_
          rintro e w79 ⟨rfl, hb79⟩
          refine hK.out _ _ (hHeld.trans (hb79.mono hHeld.size)) (fun hHeld => ?_)
          clear hK K hb79
          try simp only [Act.put, List.setIfInBounds_toArray, List.set_cons_zero, List.set_cons_succ]
          refine takeU (i := 8) (some 13) (.int .i64 D) (by kernel_rfl) (by kernel_rfl) (by kernel_rfl) (by kernel_rfl) (by kernel_rfl) (fun _ => by kernel_rfl) (fun _ _ _ h => h) hHeld ?_
          refine wpAnyH_done (by kernel_rfl) ?_ _
          try simp only [Act.put, List.setIfInBounds_toArray, List.set_cons_zero, List.set_cons_succ]
          have hbw := hbw2.trans (hHeld.mono hbw2.size)
          replace p0 := cell_below p0 hHeld
          replace p1 := cell_below p1 hHeld
          replace c0 := cell_below c0 hHeld
          replace c1 := cell_below c1 hHeld
          replace c2 := cell_below c2 hHeld
          replace c3 := cell_below c3 hHeld
          replace c4 := cell_below c4 hHeld
          replace c5 := cell_below c5 hHeld
          replace c6 := cell_below c6 hHeld
          replace c7 := cell_below c7 hHeld
          replace c8 := cell_below c8 hHeld
          clear HD hHeld hbw2
          have P0 := Lib.hid p0
          have P1 := Lib.hid p1
          have C0 := Lib.hid c0
          have C1 := Lib.hid c1
          have C2 := Lib.hid c2
          have C3 := Lib.hid c3
          have C4 := Lib.hid c4
          have C5 := Lib.hid c5
          have C6 := Lib.hid c6
          have C7 := Lib.hid c7
          have C8 := Lib.hid c8
          have HBW := Lib.hid hbw
          clear p0 p1 c0 c1 c2 c3 c4 c5 c6 c7 c8 hbw hzp hzc
          go_wp2_with fail
          go_loopw [14] (fun j9 wq => ∃ j : Nat, j ≤ js.length ∧ j9 = .int .i64 j ∧ Hid (∀ m : Nat, m < j → (decide (D < dstK L dir (gi js m)) && decide (dstK L dir (gi js m) ≤ k)) = false) ∧ Below w79.heap.size w79 wq) (fun j9 _ => js.length - (intOf j9).toNat)
          case atStart => exact ⟨0, Nat.zero_le _, rfl, Lib.hid (fun m hm => absurd hm (Nat.not_lt_zero m)), Below.refl _ _⟩
          case round =>
            obtain ⟨j, hj, rfl, HAll, hbq⟩ := hrel
            have hbw := HBW.out.trans (hbq.mono HBW.out.size)
            obtain ⟨wr, rfl⟩ : ∃ wr2 : World, wr2 = wr := ⟨_, rfl⟩
            have p0 := cell_below P0.out hbq
            have p1 := cell_below P1.out hbq
            have hzp := block_lt p0
            by_cases hjt : j < js.length
            · obtain rfl := HJa.out (by omega)
              have cz := cell_below (HJc.out j hjt) hbw
              have hzj := block_lt cz
              have hJj := HJ.out j hjt
              have HDj := Lib.hid (fun W => refDistance_r L (some ⟨jb, jo, none⟩) js.length ca dir (gi js j) hL1 hL2 (by omega) (by omega) W)
              have HJt1 := HJt.out j hjt
              have HNext : Hid ((decide (D < dstK L dir (gi js j)) && decide (dstK L dir (gi js j) ≤ k)) = false → ∀ m : Nat, m < j + 1 → (decide (D < dstK L dir (gi js m)) && decide (dstK L dir (gi js m) ≤ k)) = false) := Lib.hid fun h m hm => by
                by_cases e : m = j
                · rw [e]; exact h
                · exact HAll.out m (by omega)
              have HJt2 := Lib.hid HJt1
              clear HJt1 HJt HJf HJa HJc HJ HAll hJj HNx HNv HPd HPl HS
              generalize dstK L dir (gi js j) = DJ at HDj HNext HJt2
              generalize gi js j = J at *
              have g3 : (j : Int) < (js.length : Int) := by omega
              go_wp2_with fail
              refine wp_region_held_drew (S := fun w' => Below wr.heap.size wr w') (by kernel_rfl) ((Below.refl _ _).drew) (fun hHeld => ?_)
              refine wpAnyH_take (i := 0) (oi := { dst := some 75, op := Go.Op.load 24 (Go.Operand.tmp 5), type := 24, pos := "ref.go:174", after := #[], guard := none }) (v := .agg #[.int .i64 L, .slice (some ⟨jb, jo, none⟩) js.length ca]) rfl (by kernel_rfl) (by kernel_rfl) (by kernel_rfl) (fun _ _ _ h => h) (.inl ⟨by kernel_rfl, fun w9 h9 => by
                clear hHeld
                have d0 := (h9.cell (p := ⟨w.heap.size, 0, none⟩) hzp).trans p0
                have d1 := (h9.cell (p := ⟨w.heap.size, 1, none⟩) hzp).trans p1
                clear h9
                go_simp⟩) hHeld ?_
              refine takeU (i := 1) (some 76) (.int .i64 dir) (by kernel_rfl) (by kernel_rfl) (by kernel_rfl) (by kernel_rfl) (by kernel_rfl) (fun _ => by kernel_rfl) (fun _ _ _ h => h) hHeld ?_
              refine takeU (i := 2) (some 77) (.pointer (some ⟨w.heap.size, 1, none⟩)) (by kernel_rfl) (by kernel_rfl) (by kernel_rfl) (by kernel_rfl) (by kernel_rfl) (fun _ => by kernel_rfl) (fun _ _ _ h => h) hHeld ?_
              refine wpAnyH_take (i := 3) (oi := { dst := some 78, op := Go.Op.load 22 (Go.Operand.tmp 77), type := 22, pos := "ref.go:174", after := #[{ on := 2, ground := Go.Ground.data }], guard := none }) (v := .slice (some ⟨jb, jo, none⟩) js.length ca) rfl (by kernel_rfl) (by kernel_rfl) (by kernel_rfl) (fun _ _ _ h => h) (.inl ⟨by kernel_rfl, fun w9 h9 => by
                clear hHeld
                have d0 := (h9.cell (p := ⟨w.heap.size, 1, none⟩) hzp).trans p1
                clear h9
                go_simp⟩) hHeld ?_
              refine takeU (i := 4) (some 79) (.int .i64 j) (by kernel_rfl) (by kernel_rfl) (by kernel_rfl) (by kernel_rfl) (by kernel_rfl) (fun _ => by kernel_rfl) (fun _ _ _ h => h) hHeld ?_
              refine wpAnyH_take (i := 5) (oi := { dst := some 80, op := Go.Op.indexAddr 22 (Go.Operand.tmp 78) (Go.Operand.tmp 79), type := 0, pos := "ref.go:174", after := #[{ on := 3, ground := Go.Ground.data }, { on := 4, ground := Go.Ground.data }], guard := none }) (v := .pointer (some ⟨jb, jo + j, none⟩)) rfl (by kernel_rfl) (by kernel_rfl) (by kernel_rfl) (fun _ _ _ h => h) (.inl ⟨by kernel_rfl, fun w9 h9 => by
                clear hHeld h9
                go_simp⟩) hHeld ?_
              refine wpAnyH_take (i := 6) (oi := { dst := some 81, op := Go.Op.load 3 (Go.Operand.tmp 80), type := 3, pos := "ref.go:174", after := #[{ on := 5, ground := Go.Ground.data }], guard := none }) (v := .int .i64 J) rfl (by kernel_rfl) (by kernel_rfl) (by kernel_rfl) (fun _ _ _ h => h) (.inl ⟨by kernel_rfl, fun w9 h9 => by
                clear hHeld
                have d0 := (h9.cell (p := ⟨jb, jo + j, none⟩) hzj).trans cz
                clear h9
                go_simp⟩) hHeld ?_
              try simp only [Act.put, List.setIfInBounds_toArray, List.set_cons_zero, List.set_cons_succ]
              refine wpAnyH_ready (rs := [7]) (by kernel_rfl) (by simp) ?_
              refine AllReadyH.cons (o := { dst := some 82, op := Go.Op.call { callee := Go.Callee.value (Go.Operand.func 42), args := #[Go.Operand.tmp 75, Go.Operand.tmp 76, Go.Operand.tmp 81], argTypes := #[24, 3, 3] }, type := 3, pos := "ref.go:174", after := #[{ on := 0, ground := Go.Ground.data }, { on := 1, ground := Go.Ground.data }, { on := 6, ground := Go.Ground.data }], guard := none }) rfl (fun K hK => ?_) AllReadyH.nil
              go_simp
              go_at_call 42
              refine (HDj.out _).mono ?_
              rintro e w79 ⟨rfl, hb79⟩
              refine hK.out _ _ (hHeld.trans (hb79.mono hHeld.size)) (fun hHeld => ?_)
              clear hK K hb79
              try simp only [Act.put, List.setIfInBounds_toArray, List.set_cons_zero, List.set_cons_succ]
              refine takeU (i := 8) (some 15) (.int .i64 DJ) (by kernel_rfl) (by kernel_rfl) (by kernel_rfl) (by kernel_rfl) (by kernel_rfl) (fun _ => by kernel_rfl) (fun _ _ _ h => h) hHeld ?_
              refine wpAnyH_done (by kernel_rfl) ?_ _
              try simp only [Act.put, List.setIfInBounds_toArray, List.set_cons_zero, List.set_cons_succ]
              have hbe := hbq.trans (hHeld.mono hbq.size)
              by_cases h1 : D < DJ
              · have d1 : decide (D < DJ) = true := decide_eq_true h1
                by_cases h2 : DJ ≤ k
                · have d2 : decide (DJ ≤ k) = true := decide_eq_true h2
                  have hjt1 := HJt2.out (by rw [d1, d2]; rfl)
                  rw [hjt1, if_pos rfl] at HVv
                  clear HNext HJt2 hjt1
                  go_wp2_with fail
                  go_ret
                  exact ⟨by rw [HVv.out] <;> rfl, HBW.out.trans (hbe.mono HBW.out.size)⟩
                · have d2 : decide (DJ ≤ k) = false := decide_eq_false h2
                  have HNx2 := Lib.hid (HNext.out (by rw [d1, d2]; rfl))
                  clear HNext HJt2
                  go_wp2_with fail
                  go_roundw
                  case rel => exact ⟨j + 1, by omega, by go_num, HNx2, hbe⟩
                  case measure => simp [intOf]; omega
              · have d1 : decide (D < DJ) = false := decide_eq_false h1
                have HNx2 := Lib.hid (HNext.out (by rw [d1]; rfl))
                clear HNext HJt2
                go_wp2_with fail
                go_roundw
                case rel => exact ⟨j + 1, by omega, by go_num, HNx2, hbe⟩
                case measure => simp [intOf]; omega
            · obtain rfl : j = js.length := by omega
              have hjf := HJf.out HAll.out
              rw [hjf, if_neg (by decide)] at HVv
              clear hjf HJf HJt HAll HJa HJc HJ
              have HPw := Lib.hid (HPl.out _ hbw)
              have hnx : Hid (x + 1 < l.length → wr.cell? ⟨blk, off + (x + 1) * 9 + 2, none⟩ = some (.int .i64 (gs l (x + 1)).v)) := Lib.hid fun h => cell_below (HNx.out h) hbw
              have c0 := cell_below C0.out hbq
              have c1 := cell_below C1.out hbq
              have c2 := cell_below C2.out hbq
              have c3 := cell_below C3.out hbq
              have c4 := cell_below C4.out hbq
              have c5 := cell_below C5.out hbq
              have c6 := cell_below C6.out hbq
              have c7 := cell_below C7.out hbq
              have c8 := cell_below C8.out hbq
              clear HNx HPl hbq
              generalize (gs l (x + 1)).v = nv at *
              cases hp : plB l x with
              | false =>
                rw [hp] at HPw HVv
                rw [Bool.false_and, if_neg (by decide)] at HVv
                clear hp HNv HPd hnx
                go_wp2_with (first | (go_at_call 119; refine HPw.out.mono ?_; rintro e w8 ⟨rfl, hb8⟩; replace c0 := cell_below c0 hb8; replace c1 := cell_below c1 hb8; replace c2 := cell_below c2 hb8; replace c3 := cell_below c3 hb8; replace c4 := cell_below c4 hb8; replace c5 := cell_below c5 hb8; replace c6 := cell_below c6 hb8; replace c7 := cell_below c7 hb8; replace c8 := cell_below c8 hb8; have HB8 := Lib.hid (hbw.trans (hb8.mono hbw.size)); clear hb8) | (go_at_call 117; refine (HS.out _).mono ?_; rintro e w9 ⟨rfl, hb9⟩))
                go_ret
                exact ⟨by rw [HVv.out] <;> rfl, HB8.out.trans (hb9.mono HB8.out.size)⟩
              | true =>
                have hx1 := HPd.out hp
                have cn := hnx.out hx1
                have hnv := HNv.out hx1
                rw [hp] at HPw HVv
                rw [Bool.true_and] at HVv
                clear hp HNv HPd hnx
                have g5 : (x : Int) + 1 < (l.length : Int) := by omega
                by_cases h4 : nv ≤ k - D
                · have d4 : decide (nv ≤ k - D) = true := decide_eq_true h4
                  rw [d4, if_pos rfl] at HVv
                  go_wp2_with (first | (go_at_call 119; refine HPw.out.mono ?_; rintro e w8 ⟨rfl, hb8⟩; replace c0 := cell_below c0 hb8; replace c1 := cell_below c1 hb8; replace c2 := cell_below c2 hb8; replace c3 := cell_below c3 hb8; replace c4 := cell_below c4 hb8; replace c5 := cell_below c5 hb8; replace c6 := cell_below c6 hb8; replace c7 := cell_below c7 hb8; replace c8 := cell_below c8 hb8; replace cn := cell_below cn hb8; have HB8 := Lib.hid (hbw.trans (hb8.mono hbw.size)); clear hb8) | (go_at_call 117; refine (HS.out _).mono ?_; rintro e w9 ⟨rfl, hb9⟩))
                  go_ret
                  exact ⟨by rw [HVv.out] <;> rfl, HB8.out⟩
                · have d4 : decide (nv ≤ k - D) = false := decide_eq_false h4
                  rw [d4, if_neg (by decide)] at HVv
                  go_wp2_with (first | (go_at_call 119; refine HPw.out.mono ?_; rintro e w8 ⟨rfl, hb8⟩; replace c0 := cell_below c0 hb8; replace c1 := cell_below c1 hb8; replace c2 := cell_below c2 hb8; replace c3 := cell_below c3 hb8; replace c4 := cell_below c4 hb8; replace c5 := cell_below c5 hb8; replace c6 := cell_below c6 hb8; replace c7 := cell_below c7 hb8; replace c8 := cell_below c8 hb8; replace cn := cell_below cn hb8; have HB8 := Lib.hid (hbw.trans (hb8.mono hbw.size)); clear hb8) | (go_at_call 117; refine (HS.out _).mono ?_; rintro e w9 ⟨rfl, hb9⟩))
                  go_ret
                  exact ⟨by rw [HVv.out] <;> rfl, HB8.out.trans (hb9.mono HB8.out.size)⟩
end Go.Proofs.YtlpdjinhkmgbgaaGreatDoor

namespace Go.Proofs.YtlpdjinhkmgbgaaGreatDoor
set_option linter.unusedVariables false
set_option linter.unusedSimpArgs false
open Go.RowKit

set_option maxRecDepth 100000 in
set_option maxHeartbeats 1000000 in
theorem isMetre_r (L : Int) (a : Option Addr) (n ca : Nat) (m : Int) (hL1 : 0 ≤ L) (hL2 : L ≤ 100000) (w : World) :
    Calls Tryz.prog 48 #[.agg #[.int .i64 L, .slice a n ca], .int .i64 m] w fun e w' => e = .returned (.bool (btw m 0 (L - 1))) ∧ Below w.heap.size w w' := by
  have HW := Lib.hid (fun W => within_r 0 (L - 1) m W)
  generalize btw m 0 (L - 1) = bb at *
  go_enter Tryz.func48, Tryz.ntmps48
  go_wp2_with (go_at_call 69; refine (HW.out _).mono ?_; rintro e w1 ⟨rfl, rfl⟩)
  go_ret
  exact ⟨rfl, (Below.refl _ _).alloc (Nat.le_refl _) _⟩
theorem sg_nil (w : World) : SgnS w none [] := ⟨by decide, 0, 0, fun _ => none, fun _ => 0, fun h => (h rfl).elim, fun i hi => absurd hi (Nat.not_lt_zero i)⟩
set_option maxRecDepth 100000 in
set_option maxHeartbeats 1000000 in
theorem Holds_bad (L : Int) (a : Option Addr) (js : List Int) (ca : Nat) (aa : Option Addr) (l : List Sgn) (cl : Nat) (h dir tp m : Int) (hV : lstE L js l [] ≠ 0) (w : World) (hI : IntsS w a js) (hA : SgnS w aa l) :
    Calls Tryz.prog 21 #[.agg #[.int .i64 L, .slice a js.length ca], .slice aa l.length cl, .int .i64 h, .int .i64 dir, .int .i64 tp, .int .i64 m] w fun e w' => e = .returned (.tuple #[.int .i64 0, .int .i64 (lstE L js l [])]) ∧ Below w.heap.size w w' := by
  have H1 := Lib.hid (fun W (hW : Below w.heap.size w W) => listsError_r L a js ca aa l cl none [] 0 W (hI.below hW) (hA.below hW) (ed_nilR W))
  clear hI hA
  generalize lstE L js l [] = E at *
  have d1 : (E != 0) = true := by simp [hV]
  clear hV
  go_enter Tryz.func21, Tryz.ntmps21
  go_wp2_with fail
  obtain ⟨wB, hwB⟩ : ∃ wB, w.alloc (.cells #[.int .i64 L, .slice a js.length ca] 24) = wB := ⟨_, rfl⟩
  have hb : Below w.heap.size w wB := by rw [← hwB]; exact (Below.refl _ _).alloc (Nat.le_refl _) _
  have l0 : wB.cell? ⟨w.heap.size, 0, none⟩ = some (.int .i64 L) := by rw [← hwB]; simp [go_sem]
  have l1 : wB.cell? ⟨w.heap.size, 1, none⟩ = some (.slice a js.length ca) := by rw [← hwB]; simp [go_sem]
  rw [hwB]
  clear hwB
  go_wp2_with (go_at_call 27; refine (H1.out _ hb).mono ?_; rintro e w1 ⟨rfl, hb1⟩)
  go_ret2
  exact ⟨rfl, hb.trans (hb1.mono hb.size)⟩
set_option maxRecDepth 100000 in
set_option maxHeartbeats 1000000 in
theorem Holds_arg (L : Int) (a : Option Addr) (js : List Int) (ca : Nat) (aa : Option Addr) (l : List Sgn) (cl : Nat) (h dir tp m : Int) (hV : lstE L js l [] = 0) (hx : ((btw h 0 10000000) && (dirB dir) && (topB tp) && (btw m 0 (L - 1))) = false) (w : World) (hI : IntsS w a js) (hA : SgnS w aa l) :
    Calls Tryz.prog 21 #[.agg #[.int .i64 L, .slice a js.length ca], .slice aa l.length cl, .int .i64 h, .int .i64 dir, .int .i64 tp, .int .i64 m] w fun e w' => e = .returned (.tuple #[.int .i64 0, .int .i64 2]) ∧ Below w.heap.size w w' := by
  have hLb := (lst_good hV).1
  have H1 := Lib.hid (fun W (hW : Below w.heap.size w W) => by
    have := listsError_r L a js ca aa l cl none [] 0 W (hI.below hW) (hA.below hW) (ed_nilR W)
    rw [hV] at this
    exact this)
  have K0 := Lib.hid (fun W => isHour_r h W)
  have K1 := Lib.hid (fun W => isDir_r dir W)
  have K2 := Lib.hid (fun W => isTopic_r tp W)
  have K3 := Lib.hid (fun W => isMetre_r L a js.length ca m hLb.1 hLb.2 W)
  clear hI hA hV hLb
  generalize btw h 0 10000000 = b0 at *
  generalize dirB dir = b1 at *
  generalize topB tp = b2 at *
  generalize btw m 0 (L - 1) = b3 at *
  cases b0 with
  | false =>
    clear hx
    go_enter Tryz.func21, Tryz.ntmps21
    go_wp2_with fail
    obtain ⟨wB, hwB⟩ : ∃ wB, w.alloc (.cells #[.int .i64 L, .slice a js.length ca] 24) = wB := ⟨_, rfl⟩
    have hb : Below w.heap.size w wB := by rw [← hwB]; exact (Below.refl _ _).alloc (Nat.le_refl _) _
    have l0 : wB.cell? ⟨w.heap.size, 0, none⟩ = some (.int .i64 L) := by rw [← hwB]; simp [go_sem]
    have l1 : wB.cell? ⟨w.heap.size, 1, none⟩ = some (.slice a js.length ca) := by rw [← hwB]; simp [go_sem]
    rw [hwB]
    clear hwB
    go_wp2_with (first | (go_at_call 27; refine (H1.out _ hb).mono ?_; rintro e w1 ⟨rfl, hb1⟩; replace hb := hb.trans (hb1.mono hb.size); replace l0 := cell_below l0 hb1; replace l1 := cell_below l1 hb1; clear hb1) | (go_at_call 28; refine (K0.out _).mono ?_; rintro e w2 ⟨rfl, rfl⟩) | (go_at_call 45; refine (K1.out _).mono ?_; rintro e w2 ⟨rfl, rfl⟩) | (go_at_call 46; refine (K2.out _).mono ?_; rintro e w2 ⟨rfl, rfl⟩) | (go_at_call 48; refine (K3.out _).mono ?_; rintro e w2 ⟨rfl, hb2⟩; replace hb := hb.trans (hb2.mono hb.size); replace l0 := cell_below l0 hb2; replace l1 := cell_below l1 hb2; clear hb2))
    go_ret2
    exact ⟨rfl, hb⟩
  | true =>
    cases b1 with
    | false =>
      clear hx
      go_enter Tryz.func21, Tryz.ntmps21
      go_wp2_with fail
      obtain ⟨wB, hwB⟩ : ∃ wB, w.alloc (.cells #[.int .i64 L, .slice a js.length ca] 24) = wB := ⟨_, rfl⟩
      have hb : Below w.heap.size w wB := by rw [← hwB]; exact (Below.refl _ _).alloc (Nat.le_refl _) _
      have l0 : wB.cell? ⟨w.heap.size, 0, none⟩ = some (.int .i64 L) := by rw [← hwB]; simp [go_sem]
      have l1 : wB.cell? ⟨w.heap.size, 1, none⟩ = some (.slice a js.length ca) := by rw [← hwB]; simp [go_sem]
      rw [hwB]
      clear hwB
      go_wp2_with (first | (go_at_call 27; refine (H1.out _ hb).mono ?_; rintro e w1 ⟨rfl, hb1⟩; replace hb := hb.trans (hb1.mono hb.size); replace l0 := cell_below l0 hb1; replace l1 := cell_below l1 hb1; clear hb1) | (go_at_call 28; refine (K0.out _).mono ?_; rintro e w2 ⟨rfl, rfl⟩) | (go_at_call 45; refine (K1.out _).mono ?_; rintro e w2 ⟨rfl, rfl⟩) | (go_at_call 46; refine (K2.out _).mono ?_; rintro e w2 ⟨rfl, rfl⟩) | (go_at_call 48; refine (K3.out _).mono ?_; rintro e w2 ⟨rfl, hb2⟩; replace hb := hb.trans (hb2.mono hb.size); replace l0 := cell_below l0 hb2; replace l1 := cell_below l1 hb2; clear hb2))
      go_ret2
      exact ⟨rfl, hb⟩
    | true =>
      cases b2 with
      | false =>
        clear hx
        go_enter Tryz.func21, Tryz.ntmps21
        go_wp2_with fail
        obtain ⟨wB, hwB⟩ : ∃ wB, w.alloc (.cells #[.int .i64 L, .slice a js.length ca] 24) = wB := ⟨_, rfl⟩
        have hb : Below w.heap.size w wB := by rw [← hwB]; exact (Below.refl _ _).alloc (Nat.le_refl _) _
        have l0 : wB.cell? ⟨w.heap.size, 0, none⟩ = some (.int .i64 L) := by rw [← hwB]; simp [go_sem]
        have l1 : wB.cell? ⟨w.heap.size, 1, none⟩ = some (.slice a js.length ca) := by rw [← hwB]; simp [go_sem]
        rw [hwB]
        clear hwB
        go_wp2_with (first | (go_at_call 27; refine (H1.out _ hb).mono ?_; rintro e w1 ⟨rfl, hb1⟩; replace hb := hb.trans (hb1.mono hb.size); replace l0 := cell_below l0 hb1; replace l1 := cell_below l1 hb1; clear hb1) | (go_at_call 28; refine (K0.out _).mono ?_; rintro e w2 ⟨rfl, rfl⟩) | (go_at_call 45; refine (K1.out _).mono ?_; rintro e w2 ⟨rfl, rfl⟩) | (go_at_call 46; refine (K2.out _).mono ?_; rintro e w2 ⟨rfl, rfl⟩) | (go_at_call 48; refine (K3.out _).mono ?_; rintro e w2 ⟨rfl, hb2⟩; replace hb := hb.trans (hb2.mono hb.size); replace l0 := cell_below l0 hb2; replace l1 := cell_below l1 hb2; clear hb2))
        go_ret2
        exact ⟨rfl, hb⟩
      | true =>
        cases b3 with
        | false =>
          clear hx
          go_enter Tryz.func21, Tryz.ntmps21
          go_wp2_with fail
          obtain ⟨wB, hwB⟩ : ∃ wB, w.alloc (.cells #[.int .i64 L, .slice a js.length ca] 24) = wB := ⟨_, rfl⟩
          have hb : Below w.heap.size w wB := by rw [← hwB]; exact (Below.refl _ _).alloc (Nat.le_refl _) _
          have l0 : wB.cell? ⟨w.heap.size, 0, none⟩ = some (.int .i64 L) := by rw [← hwB]; simp [go_sem]
          have l1 : wB.cell? ⟨w.heap.size, 1, none⟩ = some (.slice a js.length ca) := by rw [← hwB]; simp [go_sem]
          rw [hwB]
          clear hwB
          go_wp2_with (first | (go_at_call 27; refine (H1.out _ hb).mono ?_; rintro e w1 ⟨rfl, hb1⟩; replace hb := hb.trans (hb1.mono hb.size); replace l0 := cell_below l0 hb1; replace l1 := cell_below l1 hb1; clear hb1) | (go_at_call 28; refine (K0.out _).mono ?_; rintro e w2 ⟨rfl, rfl⟩) | (go_at_call 45; refine (K1.out _).mono ?_; rintro e w2 ⟨rfl, rfl⟩) | (go_at_call 46; refine (K2.out _).mono ?_; rintro e w2 ⟨rfl, rfl⟩) | (go_at_call 48; refine (K3.out _).mono ?_; rintro e w2 ⟨rfl, hb2⟩; replace hb := hb.trans (hb2.mono hb.size); replace l0 := cell_below l0 hb2; replace l1 := cell_below l1 hb2; clear hb2))
          go_ret2
          exact ⟨rfl, hb⟩
        | true =>
          cases hx
set_option maxRecDepth 100000 in
set_option maxHeartbeats 1000000 in
theorem Must_bad (L : Int) (a : Option Addr) (js : List Int) (ca : Nat) (ae : Option Addr) (q : List Edc) (cq : Nat) (h dir tp m : Int) (hV : lstE L js [] q ≠ 0) (w : World) (hI : IntsS w a js) (hE : EdS w ae q) :
    Calls Tryz.prog 22 #[.agg #[.int .i64 L, .slice a js.length ca], .slice ae q.length cq, .int .i64 h, .int .i64 dir, .int .i64 tp, .int .i64 m] w fun e w' => e = .returned (.tuple #[.int .i64 0, .int .i64 (lstE L js [] q)]) ∧ Below w.heap.size w w' := by
  have H1 := Lib.hid (fun W (hW : Below w.heap.size w W) => listsError_r L a js ca none [] 0 ae q cq W (hI.below hW) (sg_nil W) (hE.below hW))
  clear hI hE
  generalize lstE L js [] q = E at *
  have d1 : (E != 0) = true := by simp [hV]
  clear hV
  go_enter Tryz.func22, Tryz.ntmps22
  go_wp2_with fail
  obtain ⟨wB, hwB⟩ : ∃ wB, w.alloc (.cells #[.int .i64 L, .slice a js.length ca] 24) = wB := ⟨_, rfl⟩
  have hb : Below w.heap.size w wB := by rw [← hwB]; exact (Below.refl _ _).alloc (Nat.le_refl _) _
  have l0 : wB.cell? ⟨w.heap.size, 0, none⟩ = some (.int .i64 L) := by rw [← hwB]; simp [go_sem]
  have l1 : wB.cell? ⟨w.heap.size, 1, none⟩ = some (.slice a js.length ca) := by rw [← hwB]; simp [go_sem]
  rw [hwB]
  clear hwB
  go_wp2_with (go_at_call 27; refine (H1.out _ hb).mono ?_; rintro e w1 ⟨rfl, hb1⟩)
  go_ret2
  exact ⟨rfl, hb.trans (hb1.mono hb.size)⟩
set_option maxRecDepth 100000 in
set_option maxHeartbeats 1000000 in
theorem Must_arg (L : Int) (a : Option Addr) (js : List Int) (ca : Nat) (ae : Option Addr) (q : List Edc) (cq : Nat) (h dir tp m : Int) (hV : lstE L js [] q = 0) (hx : ((btw h 0 10000000) && (dirB dir) && (topB tp) && (btw m 0 (L - 1))) = false) (w : World) (hI : IntsS w a js) (hE : EdS w ae q) :
    Calls Tryz.prog 22 #[.agg #[.int .i64 L, .slice a js.length ca], .slice ae q.length cq, .int .i64 h, .int .i64 dir, .int .i64 tp, .int .i64 m] w fun e w' => e = .returned (.tuple #[.int .i64 0, .int .i64 2]) ∧ Below w.heap.size w w' := by
  have hLb := (lst_good hV).1
  have H1 := Lib.hid (fun W (hW : Below w.heap.size w W) => by
    have := listsError_r L a js ca none [] 0 ae q cq W (hI.below hW) (sg_nil W) (hE.below hW)
    rw [hV] at this
    exact this)
  have K0 := Lib.hid (fun W => isHour_r h W)
  have K1 := Lib.hid (fun W => isDir_r dir W)
  have K2 := Lib.hid (fun W => isTopic_r tp W)
  have K3 := Lib.hid (fun W => isMetre_r L a js.length ca m hLb.1 hLb.2 W)
  clear hI hE hV hLb
  generalize btw h 0 10000000 = b0 at *
  generalize dirB dir = b1 at *
  generalize topB tp = b2 at *
  generalize btw m 0 (L - 1) = b3 at *
  cases b0 with
  | false =>
    clear hx
    go_enter Tryz.func22, Tryz.ntmps22
    go_wp2_with fail
    obtain ⟨wB, hwB⟩ : ∃ wB, w.alloc (.cells #[.int .i64 L, .slice a js.length ca] 24) = wB := ⟨_, rfl⟩
    have hb : Below w.heap.size w wB := by rw [← hwB]; exact (Below.refl _ _).alloc (Nat.le_refl _) _
    have l0 : wB.cell? ⟨w.heap.size, 0, none⟩ = some (.int .i64 L) := by rw [← hwB]; simp [go_sem]
    have l1 : wB.cell? ⟨w.heap.size, 1, none⟩ = some (.slice a js.length ca) := by rw [← hwB]; simp [go_sem]
    rw [hwB]
    clear hwB
    go_wp2_with (first | (go_at_call 27; refine (H1.out _ hb).mono ?_; rintro e w1 ⟨rfl, hb1⟩; replace hb := hb.trans (hb1.mono hb.size); replace l0 := cell_below l0 hb1; replace l1 := cell_below l1 hb1; clear hb1) | (go_at_call 28; refine (K0.out _).mono ?_; rintro e w2 ⟨rfl, rfl⟩) | (go_at_call 45; refine (K1.out _).mono ?_; rintro e w2 ⟨rfl, rfl⟩) | (go_at_call 46; refine (K2.out _).mono ?_; rintro e w2 ⟨rfl, rfl⟩) | (go_at_call 48; refine (K3.out _).mono ?_; rintro e w2 ⟨rfl, hb2⟩; replace hb := hb.trans (hb2.mono hb.size); replace l0 := cell_below l0 hb2; replace l1 := cell_below l1 hb2; clear hb2))
    go_ret2
    exact ⟨rfl, hb⟩
  | true =>
    cases b1 with
    | false =>
      clear hx
      go_enter Tryz.func22, Tryz.ntmps22
      go_wp2_with fail
      obtain ⟨wB, hwB⟩ : ∃ wB, w.alloc (.cells #[.int .i64 L, .slice a js.length ca] 24) = wB := ⟨_, rfl⟩
      have hb : Below w.heap.size w wB := by rw [← hwB]; exact (Below.refl _ _).alloc (Nat.le_refl _) _
      have l0 : wB.cell? ⟨w.heap.size, 0, none⟩ = some (.int .i64 L) := by rw [← hwB]; simp [go_sem]
      have l1 : wB.cell? ⟨w.heap.size, 1, none⟩ = some (.slice a js.length ca) := by rw [← hwB]; simp [go_sem]
      rw [hwB]
      clear hwB
      go_wp2_with (first | (go_at_call 27; refine (H1.out _ hb).mono ?_; rintro e w1 ⟨rfl, hb1⟩; replace hb := hb.trans (hb1.mono hb.size); replace l0 := cell_below l0 hb1; replace l1 := cell_below l1 hb1; clear hb1) | (go_at_call 28; refine (K0.out _).mono ?_; rintro e w2 ⟨rfl, rfl⟩) | (go_at_call 45; refine (K1.out _).mono ?_; rintro e w2 ⟨rfl, rfl⟩) | (go_at_call 46; refine (K2.out _).mono ?_; rintro e w2 ⟨rfl, rfl⟩) | (go_at_call 48; refine (K3.out _).mono ?_; rintro e w2 ⟨rfl, hb2⟩; replace hb := hb.trans (hb2.mono hb.size); replace l0 := cell_below l0 hb2; replace l1 := cell_below l1 hb2; clear hb2))
      go_ret2
      exact ⟨rfl, hb⟩
    | true =>
      cases b2 with
      | false =>
        clear hx
        go_enter Tryz.func22, Tryz.ntmps22
        go_wp2_with fail
        obtain ⟨wB, hwB⟩ : ∃ wB, w.alloc (.cells #[.int .i64 L, .slice a js.length ca] 24) = wB := ⟨_, rfl⟩
        have hb : Below w.heap.size w wB := by rw [← hwB]; exact (Below.refl _ _).alloc (Nat.le_refl _) _
        have l0 : wB.cell? ⟨w.heap.size, 0, none⟩ = some (.int .i64 L) := by rw [← hwB]; simp [go_sem]
        have l1 : wB.cell? ⟨w.heap.size, 1, none⟩ = some (.slice a js.length ca) := by rw [← hwB]; simp [go_sem]
        rw [hwB]
        clear hwB
        go_wp2_with (first | (go_at_call 27; refine (H1.out _ hb).mono ?_; rintro e w1 ⟨rfl, hb1⟩; replace hb := hb.trans (hb1.mono hb.size); replace l0 := cell_below l0 hb1; replace l1 := cell_below l1 hb1; clear hb1) | (go_at_call 28; refine (K0.out _).mono ?_; rintro e w2 ⟨rfl, rfl⟩) | (go_at_call 45; refine (K1.out _).mono ?_; rintro e w2 ⟨rfl, rfl⟩) | (go_at_call 46; refine (K2.out _).mono ?_; rintro e w2 ⟨rfl, rfl⟩) | (go_at_call 48; refine (K3.out _).mono ?_; rintro e w2 ⟨rfl, hb2⟩; replace hb := hb.trans (hb2.mono hb.size); replace l0 := cell_below l0 hb2; replace l1 := cell_below l1 hb2; clear hb2))
        go_ret2
        exact ⟨rfl, hb⟩
      | true =>
        cases b3 with
        | false =>
          clear hx
          go_enter Tryz.func22, Tryz.ntmps22
          go_wp2_with fail
          obtain ⟨wB, hwB⟩ : ∃ wB, w.alloc (.cells #[.int .i64 L, .slice a js.length ca] 24) = wB := ⟨_, rfl⟩
          have hb : Below w.heap.size w wB := by rw [← hwB]; exact (Below.refl _ _).alloc (Nat.le_refl _) _
          have l0 : wB.cell? ⟨w.heap.size, 0, none⟩ = some (.int .i64 L) := by rw [← hwB]; simp [go_sem]
          have l1 : wB.cell? ⟨w.heap.size, 1, none⟩ = some (.slice a js.length ca) := by rw [← hwB]; simp [go_sem]
          rw [hwB]
          clear hwB
          go_wp2_with (first | (go_at_call 27; refine (H1.out _ hb).mono ?_; rintro e w1 ⟨rfl, hb1⟩; replace hb := hb.trans (hb1.mono hb.size); replace l0 := cell_below l0 hb1; replace l1 := cell_below l1 hb1; clear hb1) | (go_at_call 28; refine (K0.out _).mono ?_; rintro e w2 ⟨rfl, rfl⟩) | (go_at_call 45; refine (K1.out _).mono ?_; rintro e w2 ⟨rfl, rfl⟩) | (go_at_call 46; refine (K2.out _).mono ?_; rintro e w2 ⟨rfl, rfl⟩) | (go_at_call 48; refine (K3.out _).mono ?_; rintro e w2 ⟨rfl, hb2⟩; replace hb := hb.trans (hb2.mono hb.size); replace l0 := cell_below l0 hb2; replace l1 := cell_below l1 hb2; clear hb2))
          go_ret2
          exact ⟨rfl, hb⟩
        | true =>
          cases hx
/-- What holds on a metre. -/
def hldV (L : Int) (js : List Int) (l : List Sgn) (h dir t m : Int) : Int := hS L js dir t (begK L dir m) (insR L dir h l l.length) 0
/-- Is an edict for a metre? -/
def edB (x : Edc) (h t d m : Int) : Bool := (x.tp == t) && ((x.d == d) && (decide (x.fr ≤ m) && (decide (m < x.tt) && (decide (x.st ≤ h) && decide (h < x.en)))))
/-- The greatest number of the first k edicts for a metre, and its value. -/
def mustK (q : List Edc) (h t d m : Int) : Nat → Int × Int
  | 0 => (0, 0)
  | k + 1 => if (edB (ge q k) h t d m && decide ((mustK q h t d m k).1 < (ge q k).n)) = true then ((ge q k).n, (ge q k).v) else mustK q h t d m k
def mustV (q : List Edc) (h t d m : Int) : Int := (mustK q h t d m q.length).2
set_option maxRecDepth 100000 in
set_option maxHeartbeats 4000000 in
theorem mustAt_r (ae : Option Addr) (q : List Edc) (cq : Nat) (h t d m : Int) (w : World) (hE : EdS w ae q) :
    Calls Tryz.prog 52 #[.slice ae q.length cq, .int .i64 h, .agg #[.int .i64 t, .int .i64 d], .int .i64 m] w fun e w' => e = .returned (.int .i64 (mustV q h t d m)) ∧ Below w.heap.size w w' := by
  obtain ⟨hlen, blk, off, hadr, hc⟩ := hE
  have HC := Lib.hid hc
  have HL : Hid (0 < q.length → ae = some ⟨blk, off, none⟩) := Lib.hid fun h => hadr (List.ne_nil_of_length_pos h)
  clear hc hadr
  go_enter Tryz.func52, Tryz.ntmps52
  go_wp2_with fail
  obtain ⟨wB, hwB⟩ : ∃ wB, w.alloc (.cells #[.int .i64 t, .int .i64 d] 73) = wB := ⟨_, rfl⟩
  have hb : Below w.heap.size w wB := by rw [← hwB]; exact (Below.refl _ _).alloc (Nat.le_refl _) _
  have p0 : wB.cell? ⟨w.heap.size, 0, none⟩ = some (.int .i64 t) := by rw [← hwB]; simp [go_sem]
  have p1 : wB.cell? ⟨w.heap.size, 1, none⟩ = some (.int .i64 d) := by rw [← hwB]; simp [go_sem]
  rw [hwB]
  clear hwB
  have P0 := Lib.hid p0
  have P1 := Lib.hid p1
  have HB := Lib.hid hb
  clear p0 p1 hb
  go_wp2_with fail
  go_loopw [9, 10, 15] (fun g9 v9 i9 wr => ∃ k : Nat, k ≤ q.length ∧ i9 = .int .i64 k ∧ g9 = .int .i64 (mustK q h t d m k).1 ∧ v9 = .int .i64 (mustK q h t d m k).2 ∧ Below wB.heap.size wB wr) (fun _ _ i9 _ => q.length - (intOf i9).toNat)
  case atStart => exact ⟨0, Nat.zero_le _, rfl, rfl, rfl, Below.refl _ _⟩
  case round =>
    obtain ⟨k, hk, rfl, rfl, rfl, hbr⟩ := hrel
    have hbw := HB.out.trans (hbr.mono HB.out.size)
    have p0 := cell_below P0.out hbr
    have p1 := cell_below P1.out hbr
    have hzp := block_lt p0
    by_cases hlt : k < q.length
    · obtain rfl := HL.out (by omega)
      obtain ⟨c0, c1, c2, c3, c4, c5, c6, c7⟩ := HC.out k hlt
      have c0 := cell_below c0 hbw
      have c1 := cell_below c1 hbw
      have c2 := cell_below c2 hbw
      have c3 := cell_below c3 hbw
      have c4 := cell_below c4 hbw
      have c5 := cell_below c5 hbw
      have c6 := cell_below c6 hbw
      have c7 := cell_below c7 hbw
      have g1 : (k : Int) < (q.length : Int) := by omega
      have HK : Hid (mustK q h t d m (k + 1) = if (edB (ge q k) h t d m && decide ((mustK q h t d m k).1 < (ge q k).n)) = true then ((ge q k).n, (ge q k).v) else mustK q h t d m k) := Lib.hid rfl
      have HM : Hid (∃ y, mustK q h t d m (k + 1) = y) := Lib.hid ⟨_, rfl⟩
      obtain ⟨y, hy⟩ := HM.out
      have HY := Lib.hid hy
      rw [hy] at HK
      obtain ⟨g, v, hgv⟩ : ∃ g v, mustK q h t d m k = (g, v) := ⟨_, _, rfl⟩
      rw [hgv] at HK ⊢
      clear hy hgv HM HC HL
      obtain ⟨x, hx⟩ : ∃ x, ge q k = x := ⟨_, rfl⟩
      rw [hx] at HK c0 c1 c2 c3 c4 c5 c6 c7
      clear hx
      show Code.wp _ _ _ _ _
      by_cases e0 : x.tp = t
      · have b0 : (x.tp == t) = true := by rw [e0]; simp
        clear e0
        by_cases e1 : x.d = d
        · have b1 : (x.d == d) = true := by rw [e1]; simp
          clear e1
          by_cases e2 : x.fr ≤ m
          · have b2 : decide (x.fr ≤ m) = true := decide_eq_true e2
            clear e2
            by_cases e3 : m < x.tt
            · have b3 : decide (m < x.tt) = true := decide_eq_true e3
              clear e3
              by_cases e4 : x.st ≤ h
              · have b4 : decide (x.st ≤ h) = true := decide_eq_true e4
                clear e4
                by_cases e5 : h < x.en
                · have b5 : decide (h < x.en) = true := decide_eq_true e5
                  clear e5
                  by_cases e6 : g < x.n
                  · have b6 : decide (g < x.n) = true := decide_eq_true e6
                    clear e6
                    have hv : y = (x.n, x.v) := by rw [HK.out]; simp only [edB, b0, b1, b2, b3, b4, b5, b6]; rfl
                    have HV := Lib.hid hv
                    clear hv HK
                    obtain ⟨wq, hwq⟩ : ∃ wq, wr.alloc (.cells #[.int .i64 x.n, .int .i64 x.tp, .int .i64 x.v, .int .i64 x.d, .int .i64 x.fr, .int .i64 x.tt, .int .i64 x.st, .int .i64 x.en] 126) = wq := ⟨_, rfl⟩
                    have q1 : ∀ c T o b, b < wr.heap.size → (wr.alloc (.cells c T)).cell? ⟨b, o, none⟩ = wr.cell? ⟨b, o, none⟩ := fun c T o b hb => (Below.alloc (Below.refl _ wr) (Nat.le_refl _) _).cell (p := ⟨b, o, none⟩) hb
                    clear hwq wq
                    go_wp2_with fail
                    go_quiet (fail)
                    go_wp2_with fail
                    go_roundw
                    case rel => exact ⟨k + 1, by omega, by go_num, by rw [HY.out, HV.out], by rw [HY.out, HV.out], below_drewN (hbr.alloc hbr.size _) _⟩
                    case measure => simp [intOf]; omega
                  · have b6 : decide (g < x.n) = false := decide_eq_false e6
                    clear e6
                    have hv : y = (g, v) := by rw [HK.out]; simp [edB, b0, b1, b2, b3, b4, b5, b6]
                    have HV := Lib.hid hv
                    clear hv HK
                    have q1 : ∀ c T o b, b < wr.heap.size → (wr.alloc (.cells c T)).cell? ⟨b, o, none⟩ = wr.cell? ⟨b, o, none⟩ := fun c T o b hb => (Below.alloc (Below.refl _ wr) (Nat.le_refl _) _).cell (p := ⟨b, o, none⟩) hb
                    go_wp2_with fail
                    go_roundw
                    case rel => exact ⟨k + 1, by omega, by go_num, by rw [HY.out, HV.out], by rw [HY.out, HV.out], hbr.alloc hbr.size _⟩
                    case measure => simp [intOf]; omega
                · have b5 : decide (h < x.en) = false := decide_eq_false e5
                  clear e5
                  have hv : y = (g, v) := by rw [HK.out]; simp [edB, b0, b1, b2, b3, b4, b5]
                  have HV := Lib.hid hv
                  clear hv HK
                  have q1 : ∀ c T o b, b < wr.heap.size → (wr.alloc (.cells c T)).cell? ⟨b, o, none⟩ = wr.cell? ⟨b, o, none⟩ := fun c T o b hb => (Below.alloc (Below.refl _ wr) (Nat.le_refl _) _).cell (p := ⟨b, o, none⟩) hb
                  go_wp2_with fail
                  go_roundw
                  case rel => exact ⟨k + 1, by omega, by go_num, by rw [HY.out, HV.out], by rw [HY.out, HV.out], hbr.alloc hbr.size _⟩
                  case measure => simp [intOf]; omega
              · have b4 : decide (x.st ≤ h) = false := decide_eq_false e4
                clear e4
                have hv : y = (g, v) := by rw [HK.out]; simp [edB, b0, b1, b2, b3, b4]
                have HV := Lib.hid hv
                clear hv HK
                have q1 : ∀ c T o b, b < wr.heap.size → (wr.alloc (.cells c T)).cell? ⟨b, o, none⟩ = wr.cell? ⟨b, o, none⟩ := fun c T o b hb => (Below.alloc (Below.refl _ wr) (Nat.le_refl _) _).cell (p := ⟨b, o, none⟩) hb
                go_wp2_with fail
                go_roundw
                case rel => exact ⟨k + 1, by omega, by go_num, by rw [HY.out, HV.out], by rw [HY.out, HV.out], hbr.alloc hbr.size _⟩
                case measure => simp [intOf]; omega
            · have b3 : decide (m < x.tt) = false := decide_eq_false e3
              clear e3
              have hv : y = (g, v) := by rw [HK.out]; simp [edB, b0, b1, b2, b3]
              have HV := Lib.hid hv
              clear hv HK
              have q1 : ∀ c T o b, b < wr.heap.size → (wr.alloc (.cells c T)).cell? ⟨b, o, none⟩ = wr.cell? ⟨b, o, none⟩ := fun c T o b hb => (Below.alloc (Below.refl _ wr) (Nat.le_refl _) _).cell (p := ⟨b, o, none⟩) hb
              go_wp2_with fail
              go_roundw
              case rel => exact ⟨k + 1, by omega, by go_num, by rw [HY.out, HV.out], by rw [HY.out, HV.out], hbr.alloc hbr.size _⟩
              case measure => simp [intOf]; omega
          · have b2 : decide (x.fr ≤ m) = false := decide_eq_false e2
            clear e2
            have hv : y = (g, v) := by rw [HK.out]; simp [edB, b0, b1, b2]
            have HV := Lib.hid hv
            clear hv HK
            have q1 : ∀ c T o b, b < wr.heap.size → (wr.alloc (.cells c T)).cell? ⟨b, o, none⟩ = wr.cell? ⟨b, o, none⟩ := fun c T o b hb => (Below.alloc (Below.refl _ wr) (Nat.le_refl _) _).cell (p := ⟨b, o, none⟩) hb
            go_wp2_with fail
            go_roundw
            case rel => exact ⟨k + 1, by omega, by go_num, by rw [HY.out, HV.out], by rw [HY.out, HV.out], hbr.alloc hbr.size _⟩
            case measure => simp [intOf]; omega
        · have b1 : (x.d == d) = false := beq_false_of_ne e1
          clear e1
          have hv : y = (g, v) := by rw [HK.out]; simp [edB, b0, b1]
          have HV := Lib.hid hv
          clear hv HK
          have q1 : ∀ c T o b, b < wr.heap.size → (wr.alloc (.cells c T)).cell? ⟨b, o, none⟩ = wr.cell? ⟨b, o, none⟩ := fun c T o b hb => (Below.alloc (Below.refl _ wr) (Nat.le_refl _) _).cell (p := ⟨b, o, none⟩) hb
          go_wp2_with fail
          go_roundw
          case rel => exact ⟨k + 1, by omega, by go_num, by rw [HY.out, HV.out], by rw [HY.out, HV.out], hbr.alloc hbr.size _⟩
          case measure => simp [intOf]; omega
      · have b0 : (x.tp == t) = false := beq_false_of_ne e0
        clear e0
        have hv : y = (g, v) := by rw [HK.out]; simp [edB, b0]
        have HV := Lib.hid hv
        clear hv HK
        have q1 : ∀ c T o b, b < wr.heap.size → (wr.alloc (.cells c T)).cell? ⟨b, o, none⟩ = wr.cell? ⟨b, o, none⟩ := fun c T o b hb => (Below.alloc (Below.refl _ wr) (Nat.le_refl _) _).cell (p := ⟨b, o, none⟩) hb
        go_wp2_with fail
        go_roundw
        case rel => exact ⟨k + 1, by omega, by go_num, by rw [HY.out, HV.out], by rw [HY.out, HV.out], hbr.alloc hbr.size _⟩
        case measure => simp [intOf]; omega
    · obtain rfl : k = q.length := by omega
      have HV : Hid (mustV q h t d m = (mustK q h t d m q.length).2) := Lib.hid rfl
      clear HC HL
      go_wp2_with fail
      go_ret
      exact ⟨by rw [HV.out]; rfl, hbw⟩
set_option maxRecDepth 100000 in
set_option maxHeartbeats 4000000 in
theorem refMust_r (ae : Option Addr) (q : List Edc) (cq : Nat) (h t d m : Int) (w : World) (hE : EdS w ae q) :
    Calls Tryz.prog 40 #[.slice ae q.length cq, .int .i64 h, .int .i64 d, .int .i64 t, .int .i64 m] w fun e w' => e = .returned (.int .i64 (mustV q h t d m)) ∧ Below w.heap.size w w' := by
  obtain ⟨hlen, blk, off, hadr, hc⟩ := hE
  have HC := Lib.hid hc
  have HL : Hid (0 < q.length → ae = some ⟨blk, off, none⟩) := Lib.hid fun h => hadr (List.ne_nil_of_length_pos h)
  clear hc hadr
  go_enter Tryz.func40, Tryz.ntmps40
  go_wp2_with fail
  go_loopw [11, 12, 13] (fun g9 v9 i9 wr => ∃ k : Nat, k ≤ q.length ∧ i9 = .int .i64 k ∧ g9 = .int .i64 (mustK q h t d m k).1 ∧ v9 = .int .i64 (mustK q h t d m k).2 ∧ Below w.heap.size w wr) (fun _ _ i9 _ => q.length - (intOf i9).toNat)
  case atStart => exact ⟨0, Nat.zero_le _, rfl, rfl, rfl, Below.refl _ _⟩
  case round =>
    obtain ⟨k, hk, rfl, rfl, rfl, hbr⟩ := hrel
    have hbw := hbr
    by_cases hlt : k < q.length
    · obtain rfl := HL.out (by omega)
      obtain ⟨c0, c1, c2, c3, c4, c5, c6, c7⟩ := HC.out k hlt
      have c0 := cell_below c0 hbw
      have c1 := cell_below c1 hbw
      have c2 := cell_below c2 hbw
      have c3 := cell_below c3 hbw
      have c4 := cell_below c4 hbw
      have c5 := cell_below c5 hbw
      have c6 := cell_below c6 hbw
      have c7 := cell_below c7 hbw
      have g1 : (k : Int) < (q.length : Int) := by omega
      have HK : Hid (mustK q h t d m (k + 1) = if (edB (ge q k) h t d m && decide ((mustK q h t d m k).1 < (ge q k).n)) = true then ((ge q k).n, (ge q k).v) else mustK q h t d m k) := Lib.hid rfl
      have HM : Hid (∃ y, mustK q h t d m (k + 1) = y) := Lib.hid ⟨_, rfl⟩
      obtain ⟨y, hy⟩ := HM.out
      have HY := Lib.hid hy
      rw [hy] at HK
      obtain ⟨g, v, hgv⟩ : ∃ g v, mustK q h t d m k = (g, v) := ⟨_, _, rfl⟩
      rw [hgv] at HK ⊢
      clear hy hgv HM HC HL
      obtain ⟨x, hx⟩ : ∃ x, ge q k = x := ⟨_, rfl⟩
      rw [hx] at HK c0 c1 c2 c3 c4 c5 c6 c7
      clear hx
      show Code.wp _ _ _ _ _
      by_cases e0 : x.tp = t
      · have b0 : (x.tp == t) = true := by rw [e0]; simp
        clear e0
        by_cases e1 : x.d = d
        · have b1 : (x.d == d) = true := by rw [e1]; simp
          clear e1
          by_cases e2 : x.fr ≤ m
          · have b2 : decide (x.fr ≤ m) = true := decide_eq_true e2
            clear e2
            by_cases e3 : m < x.tt
            · have b3 : decide (m < x.tt) = true := decide_eq_true e3
              clear e3
              by_cases e4 : x.st ≤ h
              · have b4 : decide (x.st ≤ h) = true := decide_eq_true e4
                clear e4
                by_cases e5 : h < x.en
                · have b5 : decide (h < x.en) = true := decide_eq_true e5
                  clear e5
                  by_cases e6 : g < x.n
                  · have b6 : decide (g < x.n) = true := decide_eq_true e6
                    clear e6
                    have hv : y = (x.n, x.v) := by rw [HK.out]; simp only [edB, b0, b1, b2, b3, b4, b5, b6]; rfl
                    have HV := Lib.hid hv
                    clear hv HK
                    obtain ⟨wq, hwq⟩ : ∃ wq, wr.alloc (.cells #[.int .i64 x.n, .int .i64 x.tp, .int .i64 x.v, .int .i64 x.d, .int .i64 x.fr, .int .i64 x.tt, .int .i64 x.st, .int .i64 x.en] 126) = wq := ⟨_, rfl⟩
                    have q1 : ∀ c T o b, b < wr.heap.size → (wr.alloc (.cells c T)).cell? ⟨b, o, none⟩ = wr.cell? ⟨b, o, none⟩ := fun c T o b hb => (Below.alloc (Below.refl _ wr) (Nat.le_refl _) _).cell (p := ⟨b, o, none⟩) hb
                    clear hwq wq
                    go_wp2_with fail
                    go_quiet (fail)
                    go_wp2_with fail
                    go_roundw
                    case rel => exact ⟨k + 1, by omega, by go_num, by rw [HY.out, HV.out], by rw [HY.out, HV.out], below_drewN (hbr.alloc hbr.size _) _⟩
                    case measure => simp [intOf]; omega
                  · have b6 : decide (g < x.n) = false := decide_eq_false e6
                    clear e6
                    have hv : y = (g, v) := by rw [HK.out]; simp [edB, b0, b1, b2, b3, b4, b5, b6]
                    have HV := Lib.hid hv
                    clear hv HK
                    have q1 : ∀ c T o b, b < wr.heap.size → (wr.alloc (.cells c T)).cell? ⟨b, o, none⟩ = wr.cell? ⟨b, o, none⟩ := fun c T o b hb => (Below.alloc (Below.refl _ wr) (Nat.le_refl _) _).cell (p := ⟨b, o, none⟩) hb
                    go_wp2_with fail
                    go_roundw
                    case rel => exact ⟨k + 1, by omega, by go_num, by rw [HY.out, HV.out], by rw [HY.out, HV.out], hbr.alloc hbr.size _⟩
                    case measure => simp [intOf]; omega
                · have b5 : decide (h < x.en) = false := decide_eq_false e5
                  clear e5
                  have hv : y = (g, v) := by rw [HK.out]; simp [edB, b0, b1, b2, b3, b4, b5]
                  have HV := Lib.hid hv
                  clear hv HK
                  have q1 : ∀ c T o b, b < wr.heap.size → (wr.alloc (.cells c T)).cell? ⟨b, o, none⟩ = wr.cell? ⟨b, o, none⟩ := fun c T o b hb => (Below.alloc (Below.refl _ wr) (Nat.le_refl _) _).cell (p := ⟨b, o, none⟩) hb
                  go_wp2_with fail
                  go_roundw
                  case rel => exact ⟨k + 1, by omega, by go_num, by rw [HY.out, HV.out], by rw [HY.out, HV.out], hbr.alloc hbr.size _⟩
                  case measure => simp [intOf]; omega
              · have b4 : decide (x.st ≤ h) = false := decide_eq_false e4
                clear e4
                have hv : y = (g, v) := by rw [HK.out]; simp [edB, b0, b1, b2, b3, b4]
                have HV := Lib.hid hv
                clear hv HK
                have q1 : ∀ c T o b, b < wr.heap.size → (wr.alloc (.cells c T)).cell? ⟨b, o, none⟩ = wr.cell? ⟨b, o, none⟩ := fun c T o b hb => (Below.alloc (Below.refl _ wr) (Nat.le_refl _) _).cell (p := ⟨b, o, none⟩) hb
                go_wp2_with fail
                go_roundw
                case rel => exact ⟨k + 1, by omega, by go_num, by rw [HY.out, HV.out], by rw [HY.out, HV.out], hbr.alloc hbr.size _⟩
                case measure => simp [intOf]; omega
            · have b3 : decide (m < x.tt) = false := decide_eq_false e3
              clear e3
              have hv : y = (g, v) := by rw [HK.out]; simp [edB, b0, b1, b2, b3]
              have HV := Lib.hid hv
              clear hv HK
              have q1 : ∀ c T o b, b < wr.heap.size → (wr.alloc (.cells c T)).cell? ⟨b, o, none⟩ = wr.cell? ⟨b, o, none⟩ := fun c T o b hb => (Below.alloc (Below.refl _ wr) (Nat.le_refl _) _).cell (p := ⟨b, o, none⟩) hb
              go_wp2_with fail
              go_roundw
              case rel => exact ⟨k + 1, by omega, by go_num, by rw [HY.out, HV.out], by rw [HY.out, HV.out], hbr.alloc hbr.size _⟩
              case measure => simp [intOf]; omega
          · have b2 : decide (x.fr ≤ m) = false := decide_eq_false e2
            clear e2
            have hv : y = (g, v) := by rw [HK.out]; simp [edB, b0, b1, b2]
            have HV := Lib.hid hv
            clear hv HK
            have q1 : ∀ c T o b, b < wr.heap.size → (wr.alloc (.cells c T)).cell? ⟨b, o, none⟩ = wr.cell? ⟨b, o, none⟩ := fun c T o b hb => (Below.alloc (Below.refl _ wr) (Nat.le_refl _) _).cell (p := ⟨b, o, none⟩) hb
            go_wp2_with fail
            go_roundw
            case rel => exact ⟨k + 1, by omega, by go_num, by rw [HY.out, HV.out], by rw [HY.out, HV.out], hbr.alloc hbr.size _⟩
            case measure => simp [intOf]; omega
        · have b1 : (x.d == d) = false := beq_false_of_ne e1
          clear e1
          have hv : y = (g, v) := by rw [HK.out]; simp [edB, b0, b1]
          have HV := Lib.hid hv
          clear hv HK
          have q1 : ∀ c T o b, b < wr.heap.size → (wr.alloc (.cells c T)).cell? ⟨b, o, none⟩ = wr.cell? ⟨b, o, none⟩ := fun c T o b hb => (Below.alloc (Below.refl _ wr) (Nat.le_refl _) _).cell (p := ⟨b, o, none⟩) hb
          go_wp2_with fail
          go_roundw
          case rel => exact ⟨k + 1, by omega, by go_num, by rw [HY.out, HV.out], by rw [HY.out, HV.out], hbr.alloc hbr.size _⟩
          case measure => simp [intOf]; omega
      · have b0 : (x.tp == t) = false := beq_false_of_ne e0
        clear e0
        have hv : y = (g, v) := by rw [HK.out]; simp [edB, b0]
        have HV := Lib.hid hv
        clear hv HK
        have q1 : ∀ c T o b, b < wr.heap.size → (wr.alloc (.cells c T)).cell? ⟨b, o, none⟩ = wr.cell? ⟨b, o, none⟩ := fun c T o b hb => (Below.alloc (Below.refl _ wr) (Nat.le_refl _) _).cell (p := ⟨b, o, none⟩) hb
        go_wp2_with fail
        go_roundw
        case rel => exact ⟨k + 1, by omega, by go_num, by rw [HY.out, HV.out], by rw [HY.out, HV.out], hbr.alloc hbr.size _⟩
        case measure => simp [intOf]; omega
    · obtain rfl : k = q.length := by omega
      have HV : Hid (mustV q h t d m = (mustK q h t d m q.length).2) := Lib.hid rfl
      clear HC HL
      go_wp2_with fail
      go_ret
      exact ⟨by rw [HV.out]; rfl, hbw⟩
end Go.Proofs.YtlpdjinhkmgbgaaGreatDoor

namespace Go.Proofs.YtlpdjinhkmgbgaaGreatDoor
set_option linter.unusedVariables false
set_option linter.unusedSimpArgs false
open Go.RowKit

/-- What good signs say of a row. -/
theorem ins_good {L : Int} {js : List Int} {l : List Sgn} {q : List Edc} (hV : lstE L js l q = 0) (dir h : Int) :
    (∀ i, i < (insR L dir h l l.length).length → (gs (insR L dir h l l.length) i).k = 1 → 0 < (gs (insR L dir h l l.length) i).v) ∧
    (∀ i j, i < j → j < (insR L dir h l l.length).length → dstK L dir (gs (insR L dir h l l.length) i).c ≤ dstK L dir (gs (insR L dir h l l.length) j).c) ∧
    (∀ j, j < (insR L dir h l l.length).length → (0 ≤ (gs (insR L dir h l l.length) j).c ∧ (gs (insR L dir h l l.length) j).c ≤ 100000) ∧ 0 ≤ (gs (insR L dir h l l.length) j).v ∧ (gs (insR L dir h l l.length) j).v ≤ 100000) ∧
    (insR L dir h l l.length).length ≤ 1000 := by
  obtain ⟨⟨hL1, hL2⟩, hJ, hC, hn⟩ := lst_good hV
  have hsb := lst_sgns hV
  obtain ⟨hn1, hn2⟩ := sgn_nums hsb
  have hmem : ∀ i, i < (insR L dir h l l.length).length → ∃ j, j < l.length ∧ gs l j = gs (insR L dir h l l.length) i := fun i hi => insR_mem (by rw [gs_at _ hi]; exact List.getElem_mem hi)
  refine ⟨fun i hi hk => ?_, fun i j hij hj => ?_, fun j hj => ?_, ?_⟩
  · obtain ⟨j, hj, e⟩ := hmem i hi
    rw [← e] at hk ⊢
    unfold sgnsB at hsb
    simp only [Bool.and_eq_true, decide_eq_true_eq] at hsb
    have hA := hsb.1.2
    unfold allB at hA
    simp only [Bool.not_eq_true'] at hA
    have h3 : sgnB L (gs l j) = true := by simpa using (anyK_iff _).1 hA j hj
    unfold sgnB at h3
    simp only [Bool.and_eq_true, decide_eq_true_eq] at h3
    have hv := h3.1.1.1.1.1.1
    rw [hk] at hv
    have hv2 : btw (gs l j).v 10 200 = true := hv
    have := btw_ge hv2
    omega
  · have hp := insR_sorted (L := L) (dir := dir) (h := h) hn2 l.length (Nat.le_refl _)
    have := (List.pairwise_iff_getElem.1 hp) i j (by omega) hj hij
    rw [← gs_at _ (by omega : i < _), ← gs_at _ hj] at this
    unfold ahS at this
    omega
  · obtain ⟨i, hi, e⟩ := hmem j hj
    rw [← e]
    exact hC i hi
  · have := insR_len L dir h l l.length
    omega
/-- A row comes back. -/
def RrR (R : List Sgn) (w : World) (e : Ending) (w' : World) : Prop := ∃ b c, e = .returned (.slice b R.length c) ∧ SgnS w' b R ∧ Below w.heap.size w w'
theorem beg_bd {L dir m : Int} (h1 : 0 ≤ L) (h2 : L ≤ 100000) (h3 : 0 ≤ m) (h4 : m < L) : 0 ≤ begK L dir m ∧ begK L dir m < L := by unfold begK; split <;> omega
theorem top_or {t : Int} (h : topB t = true) : t = 1 ∨ t = 2 := by unfold topB at h; simpa using h
set_option maxRecDepth 100000 in
set_option maxHeartbeats 1000000 in
theorem Holds_good (L : Int) (a : Option Addr) (js : List Int) (ca : Nat) (aa : Option Addr) (l : List Sgn) (cl : Nat) (h dir tp m : Int) (hV : lstE L js l [] = 0) (h0 : btw h 0 10000000 = true) (h1 : dirB dir = true) (h2 : topB tp = true) (h3 : btw m 0 (L - 1) = true) (w : World) (hI : IntsS w a js) (hA : SgnS w aa l) :
    Calls Tryz.prog 21 #[.agg #[.int .i64 L, .slice a js.length ca], .slice aa l.length cl, .int .i64 h, .int .i64 dir, .int .i64 tp, .int .i64 m] w fun e w' => e = .returned (.tuple #[.int .i64 (hldV L js l h dir tp m), .int .i64 0]) ∧ Below w.heap.size w w' := by
  obtain ⟨hLb, hJ, hC, hn⟩ := lst_good hV
  obtain ⟨hn1, hn2⟩ := sgn_nums (lst_sgns hV)
  have hm := btw_ge h3
  have H1 := Lib.hid (fun W (hW : Below w.heap.size w W) => by
    have := listsError_r L a js ca aa l cl none [] 0 W (hI.below hW) (hA.below hW) (ed_nilR W)
    rw [hV] at this
    exact this)
  have K0 := Lib.hid (fun W => h0 ▸ isHour_r h W)
  have K1 := Lib.hid (fun W => h1 ▸ isDir_r dir W)
  have K2 := Lib.hid (fun W => h2 ▸ isTopic_r tp W)
  have K3 := Lib.hid (fun W => h3 ▸ isMetre_r L a js.length ca m hLb.1 hLb.2 W)
  have HR := Lib.hid (fun W (hW : Below w.heap.size w W) => (rowOf_r L a js ca aa l cl h dir hLb.1 hLb.2 hJ (fun j hj => by have := hC j hj; omega) hn W (hI.below hW) (hA.below hW)).mono fun e w' H => rowF_of hLb.1 hLb.2 hJ hC H)
  have HBg := Lib.hid (fun W => beginOf_r L a js.length ca dir m hLb.1 hLb.2 (by omega) (by omega) W)
  have htp : tp ≠ 0 := by have := top_or h2; omega
  have hbk := beg_bd (dir := dir) hLb.1 hLb.2 hm.1 (by omega)
  have HVal : Hid (∀ row, RowL L js dir h l row → hldL tp (begK L dir m) row 0 = hldV L js l h dir tp m) := Lib.hid fun row hr => hld_ins hn2 htp hbk.2 hr
  generalize hldV L js l h dir tp m = V at *
  generalize begK L dir m = bk at *
  clear hI hA hV h0 h1 h2 h3 hm hn1 hn2 hJ hC hLb htp hbk hn
  go_enter Tryz.func21, Tryz.ntmps21
  go_wp2_with fail
  obtain ⟨wB, hwB⟩ : ∃ wB, w.alloc (.cells #[.int .i64 L, .slice a js.length ca] 24) = wB := ⟨_, rfl⟩
  have hb : Below w.heap.size w wB := by rw [← hwB]; exact (Below.refl _ _).alloc (Nat.le_refl _) _
  have l0 : wB.cell? ⟨w.heap.size, 0, none⟩ = some (.int .i64 L) := by rw [← hwB]; simp [go_sem]
  have l1 : wB.cell? ⟨w.heap.size, 1, none⟩ = some (.slice a js.length ca) := by rw [← hwB]; simp [go_sem]
  rw [hwB]
  clear hwB
  go_wp2_with (first | (go_at_call 27; refine (H1.out _ hb).mono ?_; rintro e w1 ⟨rfl, hb1⟩; replace hb := hb.trans (hb1.mono hb.size); replace l0 := cell_below l0 hb1; replace l1 := cell_below l1 hb1; clear hb1) | (go_at_call 28; refine (K0.out _).mono ?_; rintro e w2 ⟨rfl, rfl⟩) | (go_at_call 45; refine (K1.out _).mono ?_; rintro e w2 ⟨rfl, rfl⟩) | (go_at_call 46; refine (K2.out _).mono ?_; rintro e w2 ⟨rfl, rfl⟩) | (go_at_call 48; refine (K3.out _).mono ?_; rintro e w2 ⟨rfl, hb2⟩; replace hb := hb.trans (hb2.mono hb.size); replace l0 := cell_below l0 hb2; replace l1 := cell_below l1 hb2; clear hb2))
  obtain ⟨wX, rfl⟩ : ∃ wX : World, wX = w2 := ⟨_, rfl⟩
  have hz0 := block_lt l0
  have L0 := Lib.hid l0
  have L1 := Lib.hid l1
  have HB := Lib.hid hb
  have HRX := Lib.hid (fun W (hW : Below wX.heap.size wX W) => HR.out W (HB.out.trans (hW.mono HB.out.size)))
  clear hb HR H1
  have hB : Below wX.heap.size wX wX := Below.refl _ _
  go_region_held3 (fun w' => w'.cell? ⟨w.heap.size, 0, none⟩ = some (.int .i64 L) ∧ w'.cell? ⟨w.heap.size, 1, none⟩ = some (.slice a js.length ca)) (go_keep)
    (first
      | (go_at_call 50
         refine (HRX.out _ (show Below wX.heap.size wX _ by first | exact hB | exact hB.drew)).mono ?_
         rintro e w9 ⟨row, ar, cr, hRL, hrl, hbd, rfl, hP, hb9⟩
         replace hB : Below wX.heap.size wX w9 := (show Below wX.heap.size wX _ by first | exact hB | exact hB.drew).trans (hb9.mono (by have := hB.size; first | exact this | (simp; exact this)))
         have l0 := (hB.cell (p := ⟨w.heap.size, 0, none⟩) hz0).trans L0.out
         have l1 := (hB.cell (p := ⟨w.heap.size, 1, none⟩) hz0).trans L1.out
         have HP := Lib.hid hP
         have HRL := Lib.hid hRL
         clear hP hRL hbd hrl
         skip)
      | (go_at_call 51
         refine (HBg.out _).mono ?_
         rintro e w9 ⟨rfl, hb9⟩
         replace hB : Below wX.heap.size wX w9 := (show Below wX.heap.size wX _ by first | exact hB | exact hB.drew).trans (hb9.mono (by have := hB.size; first | exact this | (simp; exact this)))
         have l0 := (hB.cell (p := ⟨w.heap.size, 0, none⟩) hz0).trans L0.out
         have l1 := (hB.cell (p := ⟨w.heap.size, 1, none⟩) hz0).trans L1.out
         skip)
      | (go_at_call 49
         refine (holdsAt_r ar row cr tp bk _ (by first | exact HP.out | exact HP.out.below hb9)).mono ?_
         rintro e w9 ⟨rfl, hb9⟩
         replace hB : Below wX.heap.size wX w9 := (show Below wX.heap.size wX _ by first | exact hB | exact hB.drew).trans (hb9.mono (by have := hB.size; first | exact this | (simp; exact this)))
         have l0 := (hB.cell (p := ⟨w.heap.size, 0, none⟩) hz0).trans L0.out
         have l1 := (hB.cell (p := ⟨w.heap.size, 1, none⟩) hz0).trans L1.out
         skip))

  all_goals
    have hv := HVal.out row HRL.out
    have HVv := Lib.hid hv
    clear hv HVal
    go_wp2_with fail
    go_ret2
    exact ⟨by rw [HVv.out]; rfl, HB.out.trans (hB.mono HB.out.size)⟩
set_option maxRecDepth 100000 in
set_option maxHeartbeats 1000000 in
theorem Must_good (L : Int) (a : Option Addr) (js : List Int) (ca : Nat) (ae : Option Addr) (q : List Edc) (cq : Nat) (h dir tp m : Int) (hV : lstE L js [] q = 0) (h0 : btw h 0 10000000 = true) (h1 : dirB dir = true) (h2 : topB tp = true) (h3 : btw m 0 (L - 1) = true) (w : World) (hI : IntsS w a js) (hE : EdS w ae q) :
    Calls Tryz.prog 22 #[.agg #[.int .i64 L, .slice a js.length ca], .slice ae q.length cq, .int .i64 h, .int .i64 dir, .int .i64 tp, .int .i64 m] w fun e w' => e = .returned (.tuple #[.int .i64 (mustV q h tp dir m), .int .i64 0]) ∧ Below w.heap.size w w' := by
  obtain ⟨hLb, -, -, -⟩ := lst_good hV
  have H1 := Lib.hid (fun W (hW : Below w.heap.size w W) => by
    have := listsError_r L a js ca none [] 0 ae q cq W (hI.below hW) (sg_nil W) (hE.below hW)
    rw [hV] at this
    exact this)
  have K0 := Lib.hid (fun W => h0 ▸ isHour_r h W)
  have K1 := Lib.hid (fun W => h1 ▸ isDir_r dir W)
  have K2 := Lib.hid (fun W => h2 ▸ isTopic_r tp W)
  have K3 := Lib.hid (fun W => h3 ▸ isMetre_r L a js.length ca m hLb.1 hLb.2 W)
  have HM := Lib.hid (fun W (hW : Below w.heap.size w W) => mustAt_r ae q cq h tp dir m W (hE.below hW))
  clear hI hE hV h0 h1 h2 h3 hLb
  generalize mustV q h tp dir m = V at *
  go_enter Tryz.func22, Tryz.ntmps22
  go_wp2_with fail
  obtain ⟨wB, hwB⟩ : ∃ wB, w.alloc (.cells #[.int .i64 L, .slice a js.length ca] 24) = wB := ⟨_, rfl⟩
  have hb : Below w.heap.size w wB := by rw [← hwB]; exact (Below.refl _ _).alloc (Nat.le_refl _) _
  have l0 : wB.cell? ⟨w.heap.size, 0, none⟩ = some (.int .i64 L) := by rw [← hwB]; simp [go_sem]
  have l1 : wB.cell? ⟨w.heap.size, 1, none⟩ = some (.slice a js.length ca) := by rw [← hwB]; simp [go_sem]
  rw [hwB]
  clear hwB
  go_wp2_with (first | (go_at_call 27; refine (H1.out _ hb).mono ?_; rintro e w1 ⟨rfl, hb1⟩; replace hb := hb.trans (hb1.mono hb.size); replace l0 := cell_below l0 hb1; replace l1 := cell_below l1 hb1; clear hb1) | (go_at_call 28; refine (K0.out _).mono ?_; rintro e w2 ⟨rfl, rfl⟩) | (go_at_call 45; refine (K1.out _).mono ?_; rintro e w2 ⟨rfl, rfl⟩) | (go_at_call 46; refine (K2.out _).mono ?_; rintro e w2 ⟨rfl, rfl⟩) | (go_at_call 48; refine (K3.out _).mono ?_; rintro e w2 ⟨rfl, hb2⟩; replace hb := hb.trans (hb2.mono hb.size); replace l0 := cell_below l0 hb2; replace l1 := cell_below l1 hb2; clear hb2) | (go_at_call 52; refine (HM.out _ hb).mono ?_; rintro e w3 ⟨rfl, hb3⟩))
  go_ret2
  exact ⟨rfl, hb.trans (hb3.mono hb.size)⟩
/-- A number with an error. -/
def NumA (V E : Int) (w : World) (e : Ending) (w' : World) : Prop := e = .returned (.tuple #[.int .i64 V, .int .i64 E]) ∧ Below w.heap.size w w'
theorem Holds_any (L : Int) (a : Option Addr) (js : List Int) (ca : Nat) (aa : Option Addr) (l : List Sgn) (cl : Nat) (h dir tp m : Int) (b9 r : Bool) (hr : r = (btw h 0 10000000 && dirB dir && topB tp && btw m 0 (L - 1))) (w : World) (hI : IntsS w a js) (hA : SgnS w aa l) :
    Calls Tryz.prog 21 #[.agg #[.int .i64 L, .slice a js.length ca], .slice aa l.length cl, .int .i64 h, .int .i64 dir, .int .i64 tp, .int .i64 m] w (NumA (if whyK (lineB L js) true (sgnsB L js l) false b9 r = 0 then hldV L js l h dir tp m else 0) (whyK (lineB L js) true (sgnsB L js l) false b9 r) w) := by
  obtain ⟨k1, k2⟩ := lst_s L js l true b9 r
  by_cases hV : lstE L js l [] = 0
  · rw [k2 hV]
    cases hx : r with
    | false =>
      rw [if_pos rfl, if_neg (by decide)]
      exact Holds_arg L a js ca aa l cl h dir tp m hV (by rw [← hr]; exact hx) w hI hA
    | true =>
      rw [if_neg (show ¬ (true = false) by decide), if_pos rfl]
      rw [hx] at hr
      have hr := hr.symm
      simp only [Bool.and_eq_true] at hr
      exact Holds_good L a js ca aa l cl h dir tp m hV hr.1.1.1 hr.1.1.2 hr.1.2 hr.2 w hI hA
  · rw [k1 hV, if_neg hV]
    exact Holds_bad L a js ca aa l cl h dir tp m hV w hI hA
theorem Must_any (L : Int) (a : Option Addr) (js : List Int) (ca : Nat) (ae : Option Addr) (q : List Edc) (cq : Nat) (h dir tp m : Int) (b9 r : Bool) (hr : r = (btw h 0 10000000 && dirB dir && topB tp && btw m 0 (L - 1))) (w : World) (hI : IntsS w a js) (hE : EdS w ae q) :
    Calls Tryz.prog 22 #[.agg #[.int .i64 L, .slice a js.length ca], .slice ae q.length cq, .int .i64 h, .int .i64 dir, .int .i64 tp, .int .i64 m] w (NumA (if whyK (lineB L js) false b9 true (edcsB L js q) r = 0 then mustV q h tp dir m else 0) (whyK (lineB L js) false b9 true (edcsB L js q) r) w) := by
  obtain ⟨k1, k2⟩ := lst_e L js q b9 r
  by_cases hV : lstE L js [] q = 0
  · rw [k2 hV]
    cases hx : r with
    | false =>
      rw [if_pos rfl, if_neg (by decide)]
      exact Must_arg L a js ca ae q cq h dir tp m hV (by rw [← hr]; exact hx) w hI hE
    | true =>
      rw [if_neg (show ¬ (true = false) by decide), if_pos rfl]
      rw [hx] at hr
      have hr := hr.symm
      simp only [Bool.and_eq_true] at hr
      exact Must_good L a js ca ae q cq h dir tp m hV hr.1.1.1 hr.1.1.2 hr.1.2 hr.2 w hI hE
  · rw [k1 hV, if_neg hV]
    exact Must_bad L a js ca ae q cq h dir tp m hV w hI hE
end Go.Proofs.YtlpdjinhkmgbgaaGreatDoor

namespace Go.Proofs.YtlpdjinhkmgbgaaGreatDoor
set_option linter.unusedVariables false
set_option linter.unusedSimpArgs false
open Go.RowKit

theorem gi_mem {z : List Int} {k : Nat} (h : k < z.length) : gi z k ∈ z := by rw [gi_at z h]; exact List.getElem_mem h
theorem asc_lt (cuts : List Int) {i j : Nat} (hij : i < j) (hj : j < (ascL cuts).length) : gi (ascL cuts) i < gi (ascL cuts) j := by
  rw [gi_at _ (by omega), gi_at _ hj]
  exact (List.pairwise_iff_getElem.1 (asc_pw cuts)) i j (by omega) hj hij
theorem asc_ends {cuts : List Int} {A B : Int} (hA : A ∈ cuts) (hB : B ∈ cuts) (h : ∀ c, c ∈ cuts → A ≤ c ∧ c ≤ B) : gi (ascL cuts) 0 = A ∧ gi (ascL cuts) ((ascL cuts).length - 1) = B ∧ 0 < (ascL cuts).length := by
  have hp : 0 < (ascL cuts).length := asc_pos (by rintro rfl; cases hA)
  have hm : ∀ k, k < (ascL cuts).length → A ≤ gi (ascL cuts) k ∧ gi (ascL cuts) k ≤ B := fun k hk => h _ ((asc_iff cuts _).1 (gi_mem hk))
  obtain ⟨i, hi, ei⟩ := List.getElem_of_mem ((asc_iff cuts A).2 hA)
  obtain ⟨j, hj, ej⟩ := List.getElem_of_mem ((asc_iff cuts B).2 hB)
  rw [← gi_at _ hi] at ei
  rw [← gi_at _ hj] at ej
  refine ⟨?_, ?_, hp⟩
  · by_cases e : i = 0
    · rw [← ei, e]
    · have := asc_lt cuts (i := 0) (j := i) (by omega) hi
      have := (hm 0 hp).1
      omega
  · by_cases e : j = (ascL cuts).length - 1
    · rw [← ej, e]
    · have := asc_lt cuts (i := j) (j := (ascL cuts).length - 1) (by omega) (by omega)
      have := (hm ((ascL cuts).length - 1) (by omega)).2
      omega
/-- A function that hangs on how a place lies to the cuts alone. -/
theorem asc_const {V : Type} {cuts : List Int} {f : Int → V} (h : ∀ a m : Int, (∀ c, c ∈ cuts → (a < c ↔ m < c)) → f m = f a) (k : Nat) (hk : k + 1 < (ascL cuts).length) (i : Int) (h1 : gi (ascL cuts) k ≤ i) (h2 : i < gi (ascL cuts) (k + 1)) : f i = f (gi (ascL cuts) k) := by
  refine h _ _ fun c hc => ?_
  obtain ⟨j, hj, e⟩ := List.getElem_of_mem ((asc_iff cuts c).2 hc)
  rw [← gi_at _ hj] at e
  by_cases hjk : j ≤ k
  · have : gi (ascL cuts) j ≤ gi (ascL cuts) k := by
      by_cases e2 : j = k
      · rw [e2]; exact Int.le_refl _
      · exact Int.le_of_lt (asc_lt cuts (by omega) (by omega))
    omega
  · have : gi (ascL cuts) (k + 1) ≤ gi (ascL cuts) j := by
      by_cases e2 : j = k + 1
      · rw [e2]; exact Int.le_refl _
      · exact Int.le_of_lt (asc_lt cuts (by omega) hj)
    omega
theorem strV_congr {V : Type} [DecidableEq V] [Inhabited V] {sk : V → Bool} {f g : Int → V} : ∀ n : Nat, (∀ i : Nat, i < n → f i = g i) → strV sk f n = strV sk g n
  | 0, _ => rfl
  | n + 1, h => by rw [strV, strV, strV_congr n (fun i hi => h i (by omega)), h n (by omega)]
/-- The stretches of a function along a line. -/
def strS (L : Int) (f : Int → Int) : List Tri := strV (fun v : Int => v == 0) f L.toNat
theorem strS_congr {L : Int} {f g : Int → Int} (h : ∀ m : Int, 0 ≤ m → m < L → f m = g m) : strS L f = strS L g := strV_congr _ fun i hi => h i (by omega) (by omega)
theorem held_cuts {cuts : List Int} {L : Int} {f : Int → Int} (hL : 0 ≤ L) (hA : 0 ∈ cuts) (hB : L ∈ cuts) (hb : ∀ c, c ∈ cuts → 0 ≤ c ∧ c ≤ L) (h : ∀ a m : Int, (∀ c, c ∈ cuts → (a < c ↔ m < c)) → f m = f a) : heldL (prtK (ascL cuts) f (ascL cuts).length) = strS L f := by
  obtain ⟨e1, e2, e3⟩ := asc_ends hA hB hb
  have := parts_all (sk := fun v : Int => v == 0) (asc_pw cuts) e1 e2 e3 (fun k hk i h1 h2 => asc_const (f := f) h k hk i h1 h2)
  rw [← prtK_V] at this
  exact this
theorem line_jct {L : Int} {js : List Int} (h : lineB L js = true) : ∀ j, j < js.length → 0 < gi js j ∧ gi js j < L := by
  unfold lineB at h
  simp only [Bool.and_eq_true, decide_eq_true_eq, Bool.not_eq_true'] at h
  have hj : ∀ j, j < js.length → jOk L js j = true := fun j hj => by simpa using (anyK_iff _).1 h.2 j hj
  intro j hjl
  have h0 := jOk_pos (L := L) j (fun i hi => hj i (by omega))
  have h3 := hj j hjl
  unfold jOk at h3
  simp only [Bool.and_eq_true, decide_eq_true_eq] at h3
  omega
theorem lst_line {L : Int} {js : List Int} {l : List Sgn} {q : List Edc} (h : lstE L js l q = 0) : lineB L js = true ∧ 1 ≤ L ∧ L ≤ 100000 := by
  unfold lstE at h
  split at h
  · cases h
  next h1 =>
  have h1 : lineB L js = true := by simpa using h1
  have g := h1
  unfold lineB at g
  simp only [Bool.and_eq_true, decide_eq_true_eq] at g
  have := btw_ge g.1.1
  exact ⟨h1, this.1, this.2⟩
theorem dst_in {L dir c : Int} (hd : dirB dir = true) (h1 : 0 ≤ c) (h2 : c ≤ L) : 0 ≤ dstK L dir c ∧ dstK L dir c ≤ L := by
  unfold dstK; split <;> omega
theorem dst_dst {L dir c : Int} : dstK L dir (dstK L dir c) = c := by
  unfold dstK; split <;> omega
theorem opn_in {L : Int} {js : List Int} {dir d : Int} (hd : d ≤ L) (hJ : ∀ j, j < js.length → dstK L dir (gi js j) ≤ L) : ∀ n, n ≤ js.length → d ≤ opnK L js dir d n ∧ opnK L js dir d n ≤ L
  | 0, _ => ⟨hd, Int.le_refl _⟩
  | n + 1, hn => by
    have ih := opn_in hd hJ n (by omega)
    have hj := hJ n (by omega)
    rw [opnK]
    split
    · rw [Int.min_def]; split <;> omega
    · exact ih
/-- The signs of good lists. -/
theorem sgn_in {L : Int} {js : List Int} {l : List Sgn} (h : sgnsB L js l = true) (j : Nat) (hj : j < l.length) : sgnB L (gs l j) = true := by
  unfold sgnsB at h
  simp only [Bool.and_eq_true, decide_eq_true_eq] at h
  have hA := h.1.2
  unfold allB at hA
  simp only [Bool.not_eq_true'] at hA
  simpa using (anyK_iff _).1 hA j hj
theorem sgn_c {L : Int} {s : Sgn} (h : sgnB L s = true) : 0 ≤ s.c ∧ s.c ≤ L := by
  unfold sgnB at h
  simp only [Bool.and_eq_true, decide_eq_true_eq] at h
  have := btw_ge h.1.1.1.1.1.2
  omega
theorem row_in {L : Int} {js : List Int} {dir h : Int} {l : List Sgn} {q : List Edc} {row : List Pst} (hV : lstE L js l q = 0) (hd : dirB dir = true) (H : RowL L js dir h l row) (i : Nat) (hi : i < row.length) : (0 ≤ (gq row i).d ∧ (gq row i).d ≤ L) ∧ 0 ≤ (gq row i).u ∧ (gq row i).u ≤ L := by
  obtain ⟨hl, hL1, hL2⟩ := lst_line hV
  have hsb := lst_sgns hV
  have hval := (lst_good hV).2.2.1
  obtain ⟨e1, ⟨j, hj, e2, -⟩, e3, -⟩ := row_elem H i hi
  have hc := sgn_c (sgn_in hsb j hj)
  rw [← e2] at hc
  have h1 := dst_in hd hc.1 hc.2
  have h2 := opn_in (dir := dir) h1.2 (fun j hj => by
    have := line_jct hl j hj
    exact (dst_in hd (by omega) (by omega)).2) js.length (Nat.le_refl _)
  rw [e1, e3]
  refine ⟨h1, ?_⟩
  split
  next hp =>
    obtain ⟨-, ⟨j2, hj2, e4, -⟩, -, -⟩ := row_elem H (i + 1) hp.1
    have := (hval j2 hj2).2
    rw [← e4] at this
    rw [Int.min_def]
    split <;> omega
  · omega
theorem cutsK_mem {L dir : Int} {row : List Pst} : ∀ n, n ≤ row.length → ∀ c, c ∈ cutsK L dir row n ↔ c = 0 ∨ c = L ∨ ∃ i, i < n ∧ (c = dstK L dir (gq row i).d ∨ c = dstK L dir (gq row i).u)
  | 0, _, c => by simp [cutsK]
  | n + 1, hn, c => by
    rw [cutsK, List.mem_append, cutsK_mem n (by omega) c]
    simp only [List.mem_cons, List.not_mem_nil, or_false]
    constructor
    · rintro ((h | h | ⟨i, hi, h⟩) | h)
      · exact .inl h
      · exact .inr (.inl h)
      · exact .inr (.inr ⟨i, by omega, h⟩)
      · exact .inr (.inr ⟨n, by omega, h⟩)
    · rintro (h | h | ⟨i, hi, h⟩)
      · exact .inl (.inl h)
      · exact .inl (.inr (.inl h))
      · by_cases e : i = n
        · rw [e] at h; exact .inr h
        · exact .inl (.inr (.inr ⟨i, by omega, h⟩))
theorem hld_same {t k k' : Int} : ∀ (row : List Pst), (∀ p, p ∈ row → (k < p.d ↔ k' < p.d) ∧ (p.u ≤ k ↔ p.u ≤ k')) → ∀ v, hldL t k row v = hldL t k' row v
  | [], _, v => rfl
  | p :: r, h, v => by
    obtain ⟨h1, h2⟩ := h p (by simp)
    rw [hldL, hldL]
    have e : stpK p t k v = stpK p t k' v := by
      unfold stpK
      rw [ifc h2]
    rw [ifc h1, e, hld_same r (fun x hx => h x (by simp [hx]))]
theorem beg_lt {L dir m c : Int} (hd : dirB dir = true) : begK L dir m < c ↔ (if dir = 1 then m < dstK L dir c else ¬ m < dstK L dir c) := by
  unfold begK dstK
  by_cases h : dir = 1
  · rw [if_pos h, if_pos h, if_pos h]
  · rw [if_neg h, if_neg h, if_neg h]; omega
/-- What Held says of a row that the program makes: the stretches of what holds on each metre. -/
def heldS (L : Int) (js : List Int) (l : List Sgn) (h dir t : Int) : List Tri := strS L (fun m => hldV L js l h dir t m)
theorem told_const {L : Int} {js : List Int} {dir h t : Int} {l : List Sgn} {q : List Edc} {row : List Pst} (hV : lstE L js l q = 0) (hd : dirB dir = true) (H : RowL L js dir h l row) (a m : Int) (hc : ∀ c, c ∈ cutsK L dir row row.length → (a < c ↔ m < c)) : hldL t (begK L dir m) row 0 = hldL t (begK L dir a) row 0 := by
  refine hld_same row (fun p hp => ?_) 0
  obtain ⟨i, hi, e⟩ := List.getElem_of_mem hp
  have eg : gq row i = p := by unfold gq; simp [hi, e]
  have m1 := hc _ ((cutsK_mem row.length (Nat.le_refl _) _).2 (.inr (.inr ⟨i, hi, .inl rfl⟩)))
  have m2 := hc _ ((cutsK_mem row.length (Nat.le_refl _) _).2 (.inr (.inr ⟨i, hi, .inr rfl⟩)))
  rw [eg] at m1 m2
  have n1 := beg_lt (L := L) (m := m) (c := p.d) hd
  have n2 := beg_lt (L := L) (m := a) (c := p.d) hd
  have n3 := beg_lt (L := L) (m := m) (c := p.u) hd
  have n4 := beg_lt (L := L) (m := a) (c := p.u) hd
  constructor
  · rw [n1, n2]
    split
    · exact m1.symm
    · rw [m1]
  · have : (begK L dir m < p.u ↔ begK L dir a < p.u) := by
      rw [n3, n4]
      split
      · exact m2.symm
      · rw [m2]
    omega
theorem told_cuts {L : Int} {js : List Int} {dir h : Int} {l : List Sgn} {q : List Edc} {row : List Pst} (hV : lstE L js l q = 0) (hd : dirB dir = true) (H : RowL L js dir h l row) : 0 ∈ cutsK L dir row row.length ∧ L ∈ cutsK L dir row row.length ∧ ∀ c, c ∈ cutsK L dir row row.length → 0 ≤ c ∧ c ≤ L := by
  obtain ⟨hl, hL1, hL2⟩ := lst_line hV
  refine ⟨(cutsK_mem row.length (Nat.le_refl _) _).2 (.inl rfl), (cutsK_mem row.length (Nat.le_refl _) _).2 (.inr (.inl rfl)), fun c hc => ?_⟩
  rcases (cutsK_mem row.length (Nat.le_refl _) c).1 hc with rfl | rfl | ⟨i, hi, rfl | rfl⟩
  · omega
  · omega
  · have := row_in hV hd H i hi
    exact dst_in hd this.1.1 this.1.2
  · have := row_in hV hd H i hi
    exact dst_in hd this.2.1 this.2.2
theorem hldM_eq {L : Int} {js : List Int} {dir h t : Int} {l : List Sgn} {q : List Edc} {row : List Pst} (hV : lstE L js l q = 0) (hd : dirB dir = true) (ht : t ≠ 0) (H : RowL L js dir h l row) : hldM L dir t row = heldS L js l h dir t := by
  obtain ⟨hl, hL1, hL2⟩ := lst_line hV
  obtain ⟨c1, c2, c3⟩ := told_cuts hV hd H
  obtain ⟨hn1, hn2⟩ := sgn_nums (lst_sgns hV)
  unfold hldM heldS
  rw [held_cuts (L := L) (by omega) c1 c2 c3 (fun a m hc => told_const hV hd H a m hc)]
  exact strS_congr fun m h1 h2 => hld_ins hn2 ht (beg_bd (by omega) hL2 h1 h2).2 H
/-- The cuts of edicts. -/
def cutsW (L : Int) (q : List Edc) : Nat → List Int
  | 0 => [0, L]
  | k + 1 => cutsW L q k ++ [(ge q k).fr, (ge q k).tt]
theorem cutsW_len (L : Int) (q : List Edc) : ∀ k, (cutsW L q k).length = 2 + 2 * k
  | 0 => rfl
  | k + 1 => by rw [cutsW, List.length_append, cutsW_len L q k]; simp; omega
theorem cutsW_mem {L : Int} {q : List Edc} : ∀ n, n ≤ q.length → ∀ c, c ∈ cutsW L q n ↔ c = 0 ∨ c = L ∨ ∃ i, i < n ∧ (c = (ge q i).fr ∨ c = (ge q i).tt)
  | 0, _, c => by simp [cutsW]
  | n + 1, hn, c => by
    rw [cutsW, List.mem_append, cutsW_mem n (by omega) c]
    simp only [List.mem_cons, List.not_mem_nil, or_false]
    constructor
    · rintro ((h | h | ⟨i, hi, h⟩) | h)
      · exact .inl h
      · exact .inr (.inl h)
      · exact .inr (.inr ⟨i, by omega, h⟩)
      · exact .inr (.inr ⟨n, by omega, h⟩)
    · rintro (h | h | ⟨i, hi, h⟩)
      · exact .inl (.inl h)
      · exact .inl (.inr (.inl h))
      · by_cases e : i = n
        · rw [e] at h; exact .inr h
        · exact .inl (.inr (.inr ⟨i, by omega, h⟩))
theorem edc_in {L : Int} {js : List Int} {q : List Edc} (h : edcsB L js q = true) (j : Nat) (hj : j < q.length) : edcB L (ge q j) = true := by
  unfold edcsB at h
  simp only [Bool.and_eq_true, decide_eq_true_eq] at h
  have hA := h.1.2
  unfold allE at hA
  simp only [Bool.not_eq_true'] at hA
  simpa using (anyK_iff _).1 hA j hj
theorem edc_bd {L : Int} {x : Edc} (h : edcB L x = true) : 0 ≤ x.fr ∧ x.fr < x.tt ∧ x.tt ≤ L := by
  unfold edcB at h
  simp only [Bool.and_eq_true, decide_eq_true_eq] at h
  omega
theorem mustK_same {q : List Edc} {h t d m m' : Int} : ∀ n, n ≤ q.length → (∀ i, i < n → ((ge q i).fr ≤ m ↔ (ge q i).fr ≤ m') ∧ (m < (ge q i).tt ↔ m' < (ge q i).tt)) → mustK q h t d m n = mustK q h t d m' n
  | 0, _, _ => rfl
  | n + 1, hn, hh => by
    rw [mustK, mustK, mustK_same n (by omega) (fun i hi => hh i (by omega))]
    obtain ⟨h1, h2⟩ := hh n (by omega)
    have : edB (ge q n) h t d m = edB (ge q n) h t d m' := by
      unfold edB
      rw [show decide ((ge q n).fr ≤ m) = decide ((ge q n).fr ≤ m') from decide_eq_decide.2 h1, show decide (m < (ge q n).tt) = decide (m' < (ge q n).tt) from decide_eq_decide.2 h2]
    rw [this]
def wantS (L : Int) (q : List Edc) (h dir t : Int) : List Tri := strS L (fun m => mustV q h t dir m)
theorem want_const {L : Int} {q : List Edc} {h t d : Int} (a m : Int) (hc : ∀ c, c ∈ cutsW L q q.length → (a < c ↔ m < c)) : mustV q h t d m = mustV q h t d a := by
  unfold mustV
  rw [mustK_same q.length (Nat.le_refl _) (fun i hi => ?_)]
  have m1 := hc _ ((cutsW_mem q.length (Nat.le_refl _) _).2 (.inr (.inr ⟨i, hi, .inl rfl⟩)))
  have m2 := hc _ ((cutsW_mem q.length (Nat.le_refl _) _).2 (.inr (.inr ⟨i, hi, .inr rfl⟩)))
  constructor <;> omega
theorem want_cuts {L : Int} {js : List Int} {l : List Sgn} {q : List Edc} (hV : lstE L js l q = 0) : 0 ∈ cutsW L q q.length ∧ L ∈ cutsW L q q.length ∧ ∀ c, c ∈ cutsW L q q.length → 0 ≤ c ∧ c ≤ L := by
  obtain ⟨hl, hL1, hL2⟩ := lst_line hV
  refine ⟨(cutsW_mem q.length (Nat.le_refl _) _).2 (.inl rfl), (cutsW_mem q.length (Nat.le_refl _) _).2 (.inr (.inl rfl)), fun c hc => ?_⟩
  rcases (cutsW_mem q.length (Nat.le_refl _) c).1 hc with rfl | rfl | ⟨i, hi, rfl | rfl⟩
  · omega
  · omega
  · have := edc_bd (edc_in (lst_edcs hV) i hi); omega
  · have := edc_bd (edc_in (lst_edcs hV) i hi); omega
theorem wantM_eq {L : Int} {js : List Int} {l : List Sgn} {q : List Edc} {h dir t : Int} (hV : lstE L js l q = 0) : heldL (prtK (ascL (cutsW L q q.length)) (fun m => mustV q h t dir m) (ascL (cutsW L q q.length)).length) = wantS L q h dir t := by
  obtain ⟨hl, hL1, hL2⟩ := lst_line hV
  obtain ⟨c1, c2, c3⟩ := want_cuts hV
  exact held_cuts (L := L) (by omega) c1 c2 c3 (fun a m hc => want_const a m hc)
end Go.Proofs.YtlpdjinhkmgbgaaGreatDoor

namespace Go.Proofs.YtlpdjinhkmgbgaaGreatDoor
set_option linter.unusedVariables false
set_option linter.unusedSimpArgs false
open Go.RowKit

def TriS (w : World) (a : Option Addr) (l : List (Int × Int × Int)) : Prop :=
  l.length ≤ 9223372036854775807 ∧ ∃ blk off, (l ≠ [] → a = some ⟨blk, off, none⟩) ∧ ∀ i, i < l.length → w.cell? ⟨blk, off + i * 3, none⟩ = some (.int .i64 (gt3 l i).1) ∧ w.cell? ⟨blk, off + i * 3 + 1, none⟩ = some (.int .i64 (gt3 l i).2.1) ∧ w.cell? ⟨blk, off + i * 3 + 2, none⟩ = some (.int .i64 (gt3 l i).2.2)
theorem TriS.below {w w' : World} {a : Option Addr} {l : List (Int × Int × Int)} (h : TriS w a l) (hb : Below w.heap.size w w') : TriS w' a l := by
  obtain ⟨h0, blk, off, h2, h3⟩ := h
  exact ⟨h0, blk, off, h2, fun i hi => by
    have hx := h3 i hi
    exact ⟨cell_below hx.1 hb, cell_below hx.2.1 hb, cell_below hx.2.2 hb⟩⟩
theorem tri_own {w : World} {base c : Nat} {a : Option Addr} {zs : List Tri} {T : TypeId} (h : w.ownsRow base T 3 (.slice a zs.length c) zs.length (cl3 zs)) (hn : zs.length ≤ 9223372036854775807) : TriS w a zs := by
  refine ⟨hn, ?_⟩
  rcases h.2 with ⟨h1, h2⟩ | ⟨g2, c2, cur, h1, _⟩
  · exact ⟨0, 0, (fun hne => absurd (List.eq_nil_of_length_eq_zero h2) hne), fun i hi => by omega⟩
  · obtain ⟨rfl, rfl⟩ : a = some ⟨g2, 0, none⟩ ∧ c = c2 := by simpa using h1
    refine ⟨g2, 0, fun _ => rfl, fun i hi => ?_⟩
    obtain ⟨c0, c1, c2⟩ := cl3_c zs i hi
    rw [Nat.zero_add]
    exact ⟨by rw [World.ownsRow.cellAt h (i * 3) (by omega)]; exact c0, by rw [World.ownsRow.cellAt h (i * 3 + 1) (by omega)]; exact c1, by rw [World.ownsRow.cellAt h (i * 3 + 2) (by omega)]; exact c2⟩
theorem tri_nil (w : World) : TriS w none [] := ⟨by decide, 0, 0, fun h => (h rfl).elim, fun i hi => absurd hi (Nat.not_lt_zero i)⟩
end Go.Proofs.YtlpdjinhkmgbgaaGreatDoor
