/-
  The program's History. By an AI agent.; The reference's put and Moments. By an AI agent.; The reference's Moments. By an AI agent.
-/
import Derived.Test.YtjoffnbpaebgjaaGreatMgRuleMH2
import Derived.Test.YtjoffnbpaebgjaaGreatMgRuleMH9
import Derived.Test.YtjoffnbpaebgjaaGreatMgRuleMH14
import Derived.Test.YtjoffnbpaebgjaaGreatMgRuleMH16
import Derived.Test.YtjoffnbpaebgjaaGreatMgRuleMH17
import Derived.Deep.RegionHeld3
import Derived.Deep.DeepCutAuto
import Derived.BigQuiet
import Derived.BigRegion
import Derived.StillTailTactics
import Derived.Deep.AppendLies
import Derived.Deep.RegionLawGrows

namespace Go.Proofs.YtjoffnbpaebgjaaGreat
set_option linter.unusedVariables false
set_option linter.unusedSimpArgs false
open Go.RowKit

set_option maxRecDepth 100000 in
set_option maxHeartbeats 4000000 in
theorem toldAt_r (L : Int) (a : Option Addr) (js : List Int) (ca : Nat) (aa : Option Addr) (l : List Sgn) (cl : Nat) (dir tp m hh : Int) (b1 b2 b3 b4 b5 : Nat) (hV : lstE L js l [] = 0) (h2 : topB tp = true) (h3 : btw m 0 (L - 1) = true) (w : World) (hI : IntsS w a js) (hA : SgnS w aa l)
    (c0 : w.cell? ⟨b1, 0, none⟩ = some (.int .i64 L)) (c1 : w.cell? ⟨b1, 1, none⟩ = some (.slice a js.length ca)) (c2 : w.cell? ⟨b2, 0, none⟩ = some (.slice aa l.length cl)) (c3 : w.cell? ⟨b3, 0, none⟩ = some (.int .i64 dir)) (c4 : w.cell? ⟨b4, 0, none⟩ = some (.int .i64 tp)) (c5 : w.cell? ⟨b5, 0, none⟩ = some (.int .i64 (begK L dir m))) :
    Calls Tryz.prog 32 (#[.int .i64 hh] ++ #[.pointer (some ⟨b1, 0, none⟩), .pointer (some ⟨b2, 0, none⟩), .pointer (some ⟨b3, 0, none⟩), .pointer (some ⟨b4, 0, none⟩), .pointer (some ⟨b5, 0, none⟩)]) w fun e w' => e = .returned (.int .i64 (hldV L js l hh dir tp m)) ∧ Below w.heap.size w w' := by
  obtain ⟨hLb, hJ, hC, hn⟩ := lst_good hV
  obtain ⟨hn1, hn2⟩ := sgn_nums (lst_sgns hV)
  have hm := btw_ge h3
  have HR := Lib.hid (fun W (hW : Below w.heap.size w W) => (rowOf_r L a js ca aa l cl hh dir hLb.1 hLb.2 hJ (fun j hj => by have := hC j hj; omega) hn W (hI.below hW) (hA.below hW)).mono fun e w' H => rowF_of hLb.1 hLb.2 hJ hC H)
  have htp : tp ≠ 0 := by have := top_or h2; omega
  have hbk := beg_bd (dir := dir) hLb.1 hLb.2 hm.1 (by omega)
  have HVal : Hid (∀ row, RowL L js dir hh l row → hldL tp (begK L dir m) row 0 = hldV L js l hh dir tp m) := Lib.hid fun row hr => hld_ins hn2 htp hbk.2 hr
  have hz1 := block_lt c0
  have hz2 := block_lt c2
  have hz3 := block_lt c3
  have hz4 := block_lt c4
  have hz5 := block_lt c5
  generalize hldV L js l hh dir tp m = V at *
  generalize begK L dir m = bk at *
  clear hI hA hV h2 h3 hm hn1 hn2 hJ hC hLb htp hbk hn
  go_enter Tryz.func32, Tryz.ntmps32
  go_upto_region 1 with (fail)
  refine wp_region_held_drew (S := fun w' => Below w.heap.size w w') (by kernel_rfl) ((Below.refl _ _).drew) (fun hHeld => ?_)
  refine wpAnyH_take (i := 0) (oi := { dst := some 8, op := Go.Op.load 24 (Go.Operand.tmp 1), type := 24, pos := "hours.go:44", after := #[], guard := none }) (v := .agg #[.int .i64 L, .slice a js.length ca]) rfl (by kernel_rfl) (by kernel_rfl) (by kernel_rfl) (fun _ _ _ h => h) (.inl ⟨by kernel_rfl, fun w9 h9 => by
    clear hHeld
    have d0 := (h9.cell (p := ⟨b1, 0, none⟩) hz1).trans c0
    have d1 := (h9.cell (p := ⟨b1, 1, none⟩) hz1).trans c1
    clear h9
    go_simp⟩) hHeld ?_
  refine wpAnyH_take (i := 1) (oi := { dst := some 9, op := Go.Op.load 25 (Go.Operand.tmp 2), type := 25, pos := "hours.go:44", after := #[], guard := none }) (v := .slice aa l.length cl) rfl (by kernel_rfl) (by kernel_rfl) (by kernel_rfl) (fun _ _ _ h => h) (.inl ⟨by kernel_rfl, fun w9 h9 => by
    clear hHeld
    have d0 := (h9.cell (p := ⟨b2, 0, none⟩) hz2).trans c2
    clear h9
    go_simp⟩) hHeld ?_
  refine takeU (i := 2) (some 10) (.int .i64 hh) (by kernel_rfl) (by kernel_rfl) (by kernel_rfl) (by kernel_rfl) (by kernel_rfl) (fun _ => by kernel_rfl) (fun _ _ _ h => h) hHeld ?_
  refine wpAnyH_take (i := 3) (oi := { dst := some 11, op := Go.Op.load 3 (Go.Operand.tmp 3), type := 3, pos := "hours.go:44", after := #[], guard := none }) (v := .int .i64 dir) rfl (by kernel_rfl) (by kernel_rfl) (by kernel_rfl) (fun _ _ _ h => h) (.inl ⟨by kernel_rfl, fun w9 h9 => by
    clear hHeld
    have d0 := (h9.cell (p := ⟨b3, 0, none⟩) hz3).trans c3
    clear h9
    go_simp⟩) hHeld ?_
  refine wpAnyH_take (i := 5) (oi := { dst := some 13, op := Go.Op.load 3 (Go.Operand.tmp 4), type := 3, pos := "hours.go:44", after := #[], guard := none }) (v := .int .i64 tp) rfl (by kernel_rfl) (by kernel_rfl) (by kernel_rfl) (fun _ _ _ h => h) (.inl ⟨by kernel_rfl, fun w9 h9 => by
    clear hHeld
    have d0 := (h9.cell (p := ⟨b4, 0, none⟩) hz4).trans c4
    clear h9
    go_simp⟩) hHeld ?_
  refine wpAnyH_take (i := 6) (oi := { dst := some 14, op := Go.Op.load 3 (Go.Operand.tmp 5), type := 3, pos := "hours.go:44", after := #[], guard := none }) (v := .int .i64 bk) rfl (by kernel_rfl) (by kernel_rfl) (by kernel_rfl) (fun _ _ _ h => h) (.inl ⟨by kernel_rfl, fun w9 h9 => by
    clear hHeld
    have d0 := (h9.cell (p := ⟨b5, 0, none⟩) hz5).trans c5
    clear h9
    go_simp⟩) hHeld ?_
  try simp only [Act.put, List.setIfInBounds_toArray, List.set_cons_zero, List.set_cons_succ]
  refine wpAnyH_ready (rs := [4]) (by kernel_rfl) (by simp) ?_
  refine AllReadyH.cons (o := { dst := some 12, op := Go.Op.call { callee := Go.Callee.value (Go.Operand.func 34), args := #[Go.Operand.tmp 8, Go.Operand.tmp 9, Go.Operand.tmp 10, Go.Operand.tmp 11], argTypes := #[24, 25, 3, 3] }, type := 68, pos := "hours.go:44", after := #[{ on := 0, ground := Go.Ground.data }, { on := 1, ground := Go.Ground.data }, { on := 2, ground := Go.Ground.data }, { on := 3, ground := Go.Ground.data }], guard := none }) rfl (fun K hK => ?_) AllReadyH.nil
  go_simp
  go_at_call 34
  refine (HR.out _ hHeld).mono ?_
  rintro e w49 ⟨row, ar, cr, hRL, hrl, hbd, rfl, hP, hb49⟩
  have HP := Lib.hid hP
  have HRL := Lib.hid hRL
  clear hP hRL hbd hrl
  refine hK.out _ _ (hHeld.trans (hb49.mono hHeld.size)) (fun hHeld => ?_)
  clear hK K hb49
  try simp only [Act.put, List.setIfInBounds_toArray, List.set_cons_zero, List.set_cons_succ]
  try simp only [Act.put, List.setIfInBounds_toArray, List.set_cons_zero, List.set_cons_succ]
  refine wpAnyH_ready (rs := [7]) (by kernel_rfl) (by simp) ?_
  refine AllReadyH.cons (o := { dst := some 15, op := Go.Op.call { callee := Go.Callee.value (Go.Operand.func 33), args := #[Go.Operand.tmp 12, Go.Operand.tmp 13, Go.Operand.tmp 14], argTypes := #[68, 3, 3] }, type := 3, pos := "hours.go:44", after := #[{ on := 4, ground := Go.Ground.data }, { on := 5, ground := Go.Ground.data }, { on := 6, ground := Go.Ground.data }, { on := 4, ground := Go.Ground.chain }], guard := none }) rfl (fun K hK => ?_) AllReadyH.nil
  go_simp
  go_at_call 33
  refine (holdsAt_r ar row cr tp bk _ HP.out).mono ?_
  rintro e w79 ⟨rfl, hb79⟩
  refine hK.out _ _ (hHeld.trans (hb79.mono hHeld.size)) (fun hHeld => ?_)
  clear hK K hb79
  try simp only [Act.put, List.setIfInBounds_toArray, List.set_cons_zero, List.set_cons_succ]
  refine takeU (i := 8) (some 7) (.int .i64 (hldL tp bk row 0)) (by kernel_rfl) (by kernel_rfl) (by kernel_rfl) (by kernel_rfl) (by kernel_rfl) (fun _ => by kernel_rfl) (fun _ _ _ h => h) hHeld ?_
  refine wpAnyH_done (by kernel_rfl) ?_ _
  try simp only [Act.put, List.setIfInBounds_toArray, List.set_cons_zero, List.set_cons_succ]
  have HVv := Lib.hid (HVal.out row HRL.out)
  go_wp2_with fail
  go_ret
  exact ⟨by rw [HVv.out] <;> rfl, hHeld⟩
set_option maxRecDepth 100000 in
set_option maxHeartbeats 4000000 in
theorem partsH_r (a : Option Addr) (cuts : List Int) (ca : Nat) (lb : Array Value) (f : Int → Int) (w : World) (hA : IntsS w a cuts) (hne : cuts ≠ []) (hn : cuts.length ≤ 1000000)
    (hf : ∀ m W, m ∈ cuts → Below w.heap.size w W → Calls Tryz.prog 32 (#[.int .i64 m] ++ lb) W fun e w' => e = .returned (.int .i64 (f m)) ∧ Below W.heap.size W w') :
    Calls Tryz.prog 35 #[.slice a cuts.length ca, .func (.func 32) #[] lb] w (PrtE w (ascL cuts) f) := by
  obtain ⟨hlen, -, blk, off, hadr, hc⟩ := hA
  obtain rfl := hadr hne
  have HV := Lib.hid (fun W => values_in (some ⟨blk, off, none⟩) cuts.length ca W)
  have hbk : blk < w.heap.size := block_lt (hc 0 (by cases cuts with | nil => exact absurd rfl hne | cons x l => simp))
  have HS := Lib.hid (sorted_in w.heap.size blk off ca cuts (by omega) (w.alloc (.cells #[.slice (some ⟨blk, off, none⟩) cuts.length ca] 22)) (by simp) (by simp; omega) (by simp [go_sem]) (fun j hj => by
    rw [((Below.refl w.heap.size w).alloc (Nat.le_refl _) _).cell (p := ⟨blk, off + j, none⟩) hbk, hc j hj]; simp [gi]))
  have HC := Lib.hid (fun W a c (h : W.ownsRow (w.heap.size + 1) 3 1 (.slice a cuts.length c) cuts.length (clI (srt cuts))) => compact_own (w.heap.size + 1) c a (srt cuts) W (by rw [srt_len]; exact h) (by rw [srt_len]; omega))
  have HF := Lib.hid hf
  have HZ : Hid (0 < (ascL cuts).length ∧ (ascL cuts).length ≤ cuts.length ∧ ∀ k, k < (ascL cuts).length → gi (ascL cuts) k ∈ cuts) := Lib.hid ⟨asc_pos hne, asc_len cuts, fun k hk => asc_mem hk⟩
  have HL : Hid (Lib.compact (srt cuts) = ascL cuts) := Lib.hid rfl
  rw [HL.out, srt_len] at HC
  generalize ascL cuts = z at *
  obtain ⟨n0, hi, hz0, hz1, hz2⟩ := info_parts partInfo
  clear hf hc hadr HL hlen
  go_enter Tryz.func35, Tryz.ntmps35
  go_wp2_with (first | (go_at_call 69; refine (HV.out _).mono ?_; rintro e w7 ⟨rfl, rfl⟩) | (go_at_call 54; refine HS.out.mono ?_; rintro e w8 ⟨a8, c8, rfl, hr8, hb8⟩; have HC8 := Lib.hid (HC.out _ _ _ (by simpa using hr8)); have hz8 := hb8.size) | (go_at_call 68; refine HC8.out.mono ?_; rintro e w9 ⟨rfl, hr9, hb9⟩))
  have hbo : Below w.heap.size w w9 := ((Below.refl w.heap.size w).alloc (Nat.le_refl _) _).trans ((hb8.mono (by simp)).trans ((hb9 (by simp at hz8; omega)).mono (by omega)))
  have HOwn := Lib.hid hr9
  clear hr9 hb9 hb8 hr8 HC HC8 HS HV hz8
  have HCz : Hid (∀ k, k < z.length → ∃ g, a8 = some ⟨g, 0, none⟩ ∧ w9.cell? ⟨g, k, none⟩ = some (.int .i64 (gi z k))) := Lib.hid fun k hk => by
    have h := HOwn.out
    rcases h.2 with ⟨h1, h2⟩ | ⟨g2, c2, cur, h1, _⟩
    · omega
    · obtain ⟨rfl, rfl⟩ : a8 = some ⟨g2, 0, none⟩ ∧ c8 = c2 := by simpa using h1
      refine ⟨g2, rfl, ?_⟩
      rw [World.ownsRow.cellAt h k (by omega)]
      exact clI_get z (by omega)
  clear HOwn
  obtain ⟨hzp, hzl, -⟩ := HZ.out
  obtain ⟨wo, rfl⟩ : ∃ wo : World, wo = w9 := ⟨_, rfl⟩
  go_wp2_with fail
  go_loopw [6, 7] (fun q i wr => ∃ k : Nat, 0 < k ∧ k ≤ z.length ∧ i = .int .i64 k ∧ (∃ a c, q = .slice a (prtK z f k).length c) ∧ Hid (wr.ownsRow wo.heap.size 76 3 q (prtK z f k).length (cl3 (prtK z f k))) ∧ Below wo.heap.size wo wr) (fun _ i _ => z.length - (intOf i).toNat)
  case atStart => exact ⟨1, by omega, by omega, rfl, ⟨none, 0, rfl⟩, Lib.hid ⟨rfl, .inl ⟨rfl, rfl⟩⟩, Below.refl _ _⟩
  case round =>
    obtain ⟨k, hk0, hk, rfl, ⟨av, cv, rfl⟩, HRow, hbr⟩ := hrel
    by_cases hlt : k < z.length
    · have hkl := prtK_len z f k
      obtain ⟨t, hti⟩ : ∃ t : Nat, (k : Int) - 1 = (t : Int) := ⟨k - 1, by omega⟩
      have htz : t < z.length := by omega
      have htw : IntKind.i64.wrap ((k : Int) - 1) = (t : Int) := by rw [hti]; exact IntWalk.i64_in _ (by omega)
      obtain ⟨g, rfl, c0⟩ := HCz.out t htz
      obtain ⟨g', hg', c1⟩ := HCz.out k hlt
      obtain rfl : g = g' := by simpa using hg'
      have c0 := cell_below c0 hbr
      have c1 := cell_below c1 hbr
      have hmx := HZ.out.2.2 t htz
      have hbw := hbo.trans (hbr.mono hbo.size)
      have HN : Hid (prtK z f (k + 1) = prt1 (prtK z f k) (gi z t) (gi z k) (f (gi z t))) := Lib.hid (by rw [prtK, if_neg (by omega), show k - 1 = t by omega])
      have HFx := Lib.hid (fun W (hW : Below w.heap.size w W) => HF.out (gi z t) W hmx hW)
      clear hg' hmx HCz HF HZ
      generalize f (gi z t) = v at *
      generalize gi z t = x at *
      generalize gi z k = y at *
      obtain ⟨S, hS⟩ : ∃ S, prtK z f k = S := ⟨_, rfl⟩
      rw [hS] at HN HRow hkl ⊢
      clear hS
      have hk64 : (k : Int) < (z.length : Int) := by omega
      go_wp2_with fail
      go_quiet (fail)
      have hbA := below_drewN hbr nq
      have hbB := below_drewN hbw nq
      have HRow := Lib.hid (owns_belowI HRow.out (below_drewN (Below.refl wr.heap.size wr) nq))
      generalize wr.drewN nq = wA at hbA hbB HRow ⊢
      clear c0 c1
      go_wp2_with fail
      refine (HFx.out _ hbB).mono ?_
      rintro e w7 ⟨rfl, hb7⟩
      have hbA := hbA.trans (hb7.mono hbA.size)
      have HRow := Lib.hid (owns_belowI HRow.out hb7)
      clear hbB hb7 HFx
      generalize w7 = wA at hbA HRow ⊢
      by_cases h0 : S.length = 0
      · have hS0 := List.eq_nil_of_length_eq_zero h0
        subst hS0
        have HAP : Hid (prtK z f (k + 1) = [(x, y, v)]) := Lib.hid (by rw [HN.out]; rfl)
        clear HN
        have HAP : Hid (0 + 1 = (prtK z f (k + 1)).length ∧ ([] : List Value) ++ [.int .i64 x, .int .i64 y, .int .i64 v] = cl3 (prtK z f (k + 1))) := Lib.hid (by rw [HAP.out]; exact ⟨rfl, rfl⟩)
        have HRow : Hid (wA.ownsRow wo.heap.size 76 3 (.slice av 0 cv) 0 []) := HRow
        clear h0
        have hown := Lib.hid (HRow.out.alloc (.cells #[.int .i64 x, .int .i64 y, .int .i64 v] 76))
        have hbs := hbA.size
        go_wp2_with (first | (at_builtin; go_loud (refine wpList_append_lies _ rfl _ _ 71 rfl wo.heap.size 76 n0 _ 3 24 Tryz.underlying71 hi hz0 hz1 hz2 rfl (by decide) (.slice _ 0 cv) 0 _ (by rfl) hown.out ⟨wA.heap.size, 0, none⟩ 1 1 [.int .i64 x, .int .i64 y, .int .i64 v] (by rfl) (by rfl) ?d1 ?d2 (by decide) ?d3 ?d4 ?d5 _ rfl ?_)))
        case d1 =>
          refine World.news_of_block (cs := #[.int .i64 x, .int .i64 y, .int .i64 v]) (t := 76) (fr := (0, 0)) ?_
          exact heap_alloc_new _ _
        case d2 => simp [Value.oneCell']
        case d3 => unfold maxLen; omega
        case d4 => omega
        case d5 => first | (simp; omega) | simp | omega
        intro g6 c6 w6 hown6 hgrow6 hat6 hlt6
        have hb6 : Below wo.heap.size wo w6 := ((hbA.alloc hbs _).grown hgrow6 (by first | (simp; omega) | simp | omega) (fun z hz => owns_blockI hown.out hz))

        go_wp2_with fail
        go_roundw
        case rel => exact ⟨k + 1, by omega, by omega, by go_num, ⟨_, c6, by rw [← HAP.out.1]⟩, Lib.hid (by rw [← HAP.out.1, ← HAP.out.2]; exact hown6), hb6⟩
        case measure => simp [intOf]; omega
      · obtain ⟨u, hu⟩ : ∃ u, S.length = u + 1 := ⟨S.length - 1, by omega⟩
        have hui : (S.length : Int) - 1 = (u : Int) := by omega
        have hu0 : (0 : Int) ≤ (u : Int) := by omega
        have hu2 : (u : Int) < (S.length : Int) := by omega
        have huw : IntKind.i64.wrap ((S.length : Int) - 1) = (u : Int) := by rw [hui]; exact IntWalk.i64_in _ (by omega)
        obtain ⟨gj, hgj⟩ : ∃ gj, av = some ⟨gj, 0, none⟩ := by
          rcases HRow.out.2 with ⟨h1, h2⟩ | ⟨g2, c2, cur, h1, _⟩
          · omega
          · exact ⟨g2, by simpa using (Value.slice.inj h1).1⟩
        subst hgj
        have cy := World.ownsRow.cellAt HRow.out (u * 3 + 2) (by omega)
        rw [(cl3_c S u (by omega)).2.2] at cy
        have cx := World.ownsRow.cellAt HRow.out (u * 3 + 1) (by omega)
        rw [(cl3_c S u (by omega)).2.1] at cx
        have fx := World.ownsRow.frozenAt HRow.out (u * 3 + 1)
        have hgl : wo.heap.size ≤ gj := by
          rcases HRow.out.2 with ⟨h1, h2⟩ | ⟨g2, c2, cur, h1, h2, _⟩
          · omega
          · have : gj = g2 := by simpa using (Value.slice.inj h1).1
            omega
        have HJ : Hid (prt1 S x y v = if (gt3 S u).2.2 = v then S.set u ((gt3 S u).1, y, v) else S ++ [(x, y, v)]) := Lib.hid (by
          unfold prt1
          rw [show S.length - 1 = u by omega]
          by_cases hx : (gt3 S u).2.2 = v
          · rw [if_pos ⟨by omega, hx⟩, if_pos hx]
          · rw [if_neg (fun h => hx h.2), if_neg hx])
        have HSE := Lib.hid (cl3_set S u y (by omega))
        by_cases hx : (gt3 S u).2.2 = v
        · have hJ := HJ.out
          rw [if_pos hx] at hJ
          have HNn : Hid (prtK z f (k + 1) = S.set u ((gt3 S u).1, y, (gt3 S u).2.2)) := Lib.hid (by rw [HN.out, hJ, hx])
          clear hJ HJ HN
          have HST : Hid (∀ W : World, W.ownsRow wo.heap.size 76 3 (.slice (some ⟨gj, 0, none⟩) S.length cv) S.length (cl3 S) → (W.setCell ⟨gj, u * 3 + 1, none⟩ (.int .i64 y)).ownsRow wo.heap.size 76 3 (.slice (some ⟨gj, 0, none⟩) (prtK z f (k + 1)).length cv) (prtK z f (k + 1)).length (cl3 (prtK z f (k + 1)))) := Lib.hid fun W h => by
            rw [HNn.out, List.length_set, ← HSE.out]
            exact (World.ownsRow.stored h (u * 3 + 1) (.int .i64 y)).1
          have HLn : Hid ((prtK z f (k + 1)).length = S.length) := Lib.hid (by rw [HNn.out, List.length_set])
          clear HNn HSE hu
          generalize (gt3 S u).2.2 = q at *
          generalize (gt3 S u).2.1 = q1 at *
          subst hx
          go_wp2_with fail
          go_roundw
          case rel => exact ⟨k + 1, by omega, by omega, by go_num, ⟨_, cv, by rw [HLn.out]⟩, Lib.hid (by have := HST.out _ HRow.out; rwa [HLn.out] at this ⊢), hbA.setCell (p := ⟨gj, u * 3 + 1, none⟩) hgl _⟩
          case measure => simp [intOf]; omega
        · have hJ := HJ.out
          rw [if_neg hx] at hJ
          have HAP : Hid (S.length + 1 = (prtK z f (k + 1)).length ∧ cl3 S ++ [.int .i64 x, .int .i64 y, .int .i64 v] = cl3 (prtK z f (k + 1))) := Lib.hid (by rw [HN.out, hJ, cl3_app]; exact ⟨by simp, rfl⟩)
          clear hJ HJ HN hu cx fx HSE
          generalize (gt3 S u).2.2 = q at *
          have hqv : (q == v) = false := beq_false_of_ne hx
          have hown := Lib.hid (HRow.out.alloc (.cells #[.int .i64 x, .int .i64 y, .int .i64 v] 76))
          have hbs := hbA.size
          go_wp2_with (first | (at_builtin; go_loud (refine wpList_append_lies _ rfl _ _ 71 rfl wo.heap.size 76 n0 _ 3 24 Tryz.underlying71 hi hz0 hz1 hz2 rfl (by decide) (.slice _ S.length cv) S.length _ (by rfl) hown.out ⟨wA.heap.size, 0, none⟩ 1 1 [.int .i64 x, .int .i64 y, .int .i64 v] (by rfl) (by rfl) ?d1 ?d2 (by decide) ?d3 ?d4 ?d5 _ rfl ?_)))
          case d1 =>
            refine World.news_of_block (cs := #[.int .i64 x, .int .i64 y, .int .i64 v]) (t := 76) (fr := (0, 0)) ?_
            exact heap_alloc_new _ _
          case d2 => simp [Value.oneCell']
          case d3 => unfold maxLen; omega
          case d4 => omega
          case d5 => first | (simp; omega) | simp | omega
          intro g6 c6 w6 hown6 hgrow6 hat6 hlt6
          have hb6 : Below wo.heap.size wo w6 := ((hbA.alloc hbs _).grown hgrow6 (by first | (simp; omega) | simp | omega) (fun z hz => owns_blockI hown.out hz))

          go_wp2_with fail
          go_roundw
          case rel => exact ⟨k + 1, by omega, by omega, by go_num, ⟨_, c6, by rw [← HAP.out.1]⟩, Lib.hid (by rw [← HAP.out.1, ← HAP.out.2]; exact hown6), hb6⟩
          case measure => simp [intOf]; omega
    · obtain rfl : k = z.length := by omega
      have hbw := hbo.trans (hbr.mono hbo.size)
      have HEnd : Hid (PrtE w z f (.returned (.slice av (prtK z f z.length).length cv)) wr) := Lib.hid ⟨av, cv, rfl, owns_baseI HRow.out hbo.size, hbw⟩
      clear HRow
      go_wp2_with fail
      go_ret
      exact HEnd.out
set_option maxRecDepth 100000 in
set_option maxHeartbeats 1000000 in
theorem History_bad (L : Int) (a : Option Addr) (js : List Int) (ca : Nat) (aa : Option Addr) (l : List Sgn) (cl : Nat) (dir tp m : Int) (hV : lstE L js l [] ≠ 0) (w : World) (hI : IntsS w a js) (hA : SgnS w aa l) :
    Calls Tryz.prog 9 #[.agg #[.int .i64 L, .slice a js.length ca], .slice aa l.length cl, .int .i64 dir, .int .i64 tp, .int .i64 m] w fun e w' => e = .returned (.tuple #[.slice none 0 0, .int .i64 (lstE L js l [])]) ∧ Below w.heap.size w w' := by
  have H1 := Lib.hid (fun W (hW : Below w.heap.size w W) => listsError_r L a js ca aa l cl none [] 0 W (hI.below hW) (hA.below hW) (ed_nilR W))
  clear hI hA
  generalize lstE L js l [] = E at *
  have d1 : (E != 0) = true := by simp [hV]
  clear hV
  go_enter Tryz.func9, Tryz.ntmps9
  go_upto_region 1 with (fail)
  obtain ⟨wB, hwB⟩ : ∃ wB, ((((w.alloc (.cells #[.int .i64 L, .slice a js.length ca] 24)).alloc (.cells #[.slice aa l.length cl] 25)).alloc (.cells #[.int .i64 dir] 3)).alloc (.cells #[.int .i64 tp] 3)) = wB := ⟨_, rfl⟩
  have hb : Below w.heap.size w wB := by rw [← hwB]; exact ((((Below.refl _ _).alloc (Nat.le_refl _) _).alloc (by simp) _).alloc (by simp; omega) _).alloc (by simp; omega) _
  have l0 : wB.cell? ⟨w.heap.size, 0, none⟩ = some (.int .i64 L) := by rw [← hwB]; simp [go_sem]
  have l1 : wB.cell? ⟨w.heap.size, 1, none⟩ = some (.slice a js.length ca) := by rw [← hwB]; simp [go_sem]
  have y2 : wB.cell? ⟨w.heap.size + 1, 0, none⟩ = some (.slice aa l.length cl) := by rw [← hwB]; simp [go_sem]
  have y3 : wB.cell? ⟨w.heap.size + 1 + 1, 0, none⟩ = some (.int .i64 dir) := by rw [← hwB]; simp [go_sem]
  have y4 : wB.cell? ⟨w.heap.size + 1 + 1 + 1, 0, none⟩ = some (.int .i64 tp) := by rw [← hwB]; simp [go_sem]
  rw [hwB]
  clear hwB
  go_wp2_with (go_at_call 26; refine (H1.out _ hb).mono ?_; rintro e w1 ⟨rfl, hb1⟩)
  go_ret2
  exact ⟨rfl, hb.trans (hb1.mono hb.size)⟩
set_option maxRecDepth 100000 in
set_option maxHeartbeats 1000000 in
theorem History_arg (L : Int) (a : Option Addr) (js : List Int) (ca : Nat) (aa : Option Addr) (l : List Sgn) (cl : Nat) (dir tp m : Int) (hV : lstE L js l [] = 0) (hx : ((dirB dir) && (topB tp) && (btw m 0 (L - 1))) = false) (w : World) (hI : IntsS w a js) (hA : SgnS w aa l) :
    Calls Tryz.prog 9 #[.agg #[.int .i64 L, .slice a js.length ca], .slice aa l.length cl, .int .i64 dir, .int .i64 tp, .int .i64 m] w fun e w' => e = .returned (.tuple #[.slice none 0 0, .int .i64 2]) ∧ Below w.heap.size w w' := by
  have hLb := (lst_good hV).1
  have H1 := Lib.hid (fun W (hW : Below w.heap.size w W) => by
    have := listsError_r L a js ca aa l cl none [] 0 W (hI.below hW) (hA.below hW) (ed_nilR W)
    rw [hV] at this
    exact this)
  have K0 := Lib.hid (fun W => isDir_r dir W)
  have K1 := Lib.hid (fun W => isTopic_r tp W)
  have K2 := Lib.hid (fun W => isMetre_r L a js.length ca m hLb.1 hLb.2 W)
  clear hI hA hV hLb
  generalize dirB dir = b0 at *
  generalize topB tp = b1 at *
  generalize btw m 0 (L - 1) = b2 at *
  cases b0 with
  | false =>
    clear hx
    go_enter Tryz.func9, Tryz.ntmps9
    go_upto_region 1 with (fail)
    obtain ⟨wB, hwB⟩ : ∃ wB, ((((w.alloc (.cells #[.int .i64 L, .slice a js.length ca] 24)).alloc (.cells #[.slice aa l.length cl] 25)).alloc (.cells #[.int .i64 dir] 3)).alloc (.cells #[.int .i64 tp] 3)) = wB := ⟨_, rfl⟩
    have hb : Below w.heap.size w wB := by rw [← hwB]; exact ((((Below.refl _ _).alloc (Nat.le_refl _) _).alloc (by simp) _).alloc (by simp; omega) _).alloc (by simp; omega) _
    have l0 : wB.cell? ⟨w.heap.size, 0, none⟩ = some (.int .i64 L) := by rw [← hwB]; simp [go_sem]
    have l1 : wB.cell? ⟨w.heap.size, 1, none⟩ = some (.slice a js.length ca) := by rw [← hwB]; simp [go_sem]
    have y2 : wB.cell? ⟨w.heap.size + 1, 0, none⟩ = some (.slice aa l.length cl) := by rw [← hwB]; simp [go_sem]
    have y3 : wB.cell? ⟨w.heap.size + 1 + 1, 0, none⟩ = some (.int .i64 dir) := by rw [← hwB]; simp [go_sem]
    have y4 : wB.cell? ⟨w.heap.size + 1 + 1 + 1, 0, none⟩ = some (.int .i64 tp) := by rw [← hwB]; simp [go_sem]
    rw [hwB]
    clear hwB
    go_wp2_with (first | (go_at_call 26; refine (H1.out _ hb).mono ?_; rintro e w1 ⟨rfl, hb1⟩; replace hb := hb.trans (hb1.mono hb.size); replace l0 := cell_below l0 hb1; replace l1 := cell_below l1 hb1; replace y2 := cell_below y2 hb1; replace y3 := cell_below y3 hb1; replace y4 := cell_below y4 hb1; clear hb1) | (go_at_call 28; refine (K0.out _).mono ?_; rintro e w2 ⟨rfl, rfl⟩) | (go_at_call 29; refine (K1.out _).mono ?_; rintro e w2 ⟨rfl, rfl⟩) | (go_at_call 30; refine (K2.out _).mono ?_; rintro e w2 ⟨rfl, hb2⟩; replace hb := hb.trans (hb2.mono hb.size); replace l0 := cell_below l0 hb2; replace l1 := cell_below l1 hb2; replace y2 := cell_below y2 hb2; replace y3 := cell_below y3 hb2; replace y4 := cell_below y4 hb2; clear hb2))
    go_ret2
    exact ⟨rfl, hb⟩
  | true =>
    cases b1 with
    | false =>
      clear hx
      go_enter Tryz.func9, Tryz.ntmps9
      go_upto_region 1 with (fail)
      obtain ⟨wB, hwB⟩ : ∃ wB, ((((w.alloc (.cells #[.int .i64 L, .slice a js.length ca] 24)).alloc (.cells #[.slice aa l.length cl] 25)).alloc (.cells #[.int .i64 dir] 3)).alloc (.cells #[.int .i64 tp] 3)) = wB := ⟨_, rfl⟩
      have hb : Below w.heap.size w wB := by rw [← hwB]; exact ((((Below.refl _ _).alloc (Nat.le_refl _) _).alloc (by simp) _).alloc (by simp; omega) _).alloc (by simp; omega) _
      have l0 : wB.cell? ⟨w.heap.size, 0, none⟩ = some (.int .i64 L) := by rw [← hwB]; simp [go_sem]
      have l1 : wB.cell? ⟨w.heap.size, 1, none⟩ = some (.slice a js.length ca) := by rw [← hwB]; simp [go_sem]
      have y2 : wB.cell? ⟨w.heap.size + 1, 0, none⟩ = some (.slice aa l.length cl) := by rw [← hwB]; simp [go_sem]
      have y3 : wB.cell? ⟨w.heap.size + 1 + 1, 0, none⟩ = some (.int .i64 dir) := by rw [← hwB]; simp [go_sem]
      have y4 : wB.cell? ⟨w.heap.size + 1 + 1 + 1, 0, none⟩ = some (.int .i64 tp) := by rw [← hwB]; simp [go_sem]
      rw [hwB]
      clear hwB
      go_wp2_with (first | (go_at_call 26; refine (H1.out _ hb).mono ?_; rintro e w1 ⟨rfl, hb1⟩; replace hb := hb.trans (hb1.mono hb.size); replace l0 := cell_below l0 hb1; replace l1 := cell_below l1 hb1; replace y2 := cell_below y2 hb1; replace y3 := cell_below y3 hb1; replace y4 := cell_below y4 hb1; clear hb1) | (go_at_call 28; refine (K0.out _).mono ?_; rintro e w2 ⟨rfl, rfl⟩) | (go_at_call 29; refine (K1.out _).mono ?_; rintro e w2 ⟨rfl, rfl⟩) | (go_at_call 30; refine (K2.out _).mono ?_; rintro e w2 ⟨rfl, hb2⟩; replace hb := hb.trans (hb2.mono hb.size); replace l0 := cell_below l0 hb2; replace l1 := cell_below l1 hb2; replace y2 := cell_below y2 hb2; replace y3 := cell_below y3 hb2; replace y4 := cell_below y4 hb2; clear hb2))
      go_ret2
      exact ⟨rfl, hb⟩
    | true =>
      cases b2 with
      | false =>
        clear hx
        go_enter Tryz.func9, Tryz.ntmps9
        go_upto_region 1 with (fail)
        obtain ⟨wB, hwB⟩ : ∃ wB, ((((w.alloc (.cells #[.int .i64 L, .slice a js.length ca] 24)).alloc (.cells #[.slice aa l.length cl] 25)).alloc (.cells #[.int .i64 dir] 3)).alloc (.cells #[.int .i64 tp] 3)) = wB := ⟨_, rfl⟩
        have hb : Below w.heap.size w wB := by rw [← hwB]; exact ((((Below.refl _ _).alloc (Nat.le_refl _) _).alloc (by simp) _).alloc (by simp; omega) _).alloc (by simp; omega) _
        have l0 : wB.cell? ⟨w.heap.size, 0, none⟩ = some (.int .i64 L) := by rw [← hwB]; simp [go_sem]
        have l1 : wB.cell? ⟨w.heap.size, 1, none⟩ = some (.slice a js.length ca) := by rw [← hwB]; simp [go_sem]
        have y2 : wB.cell? ⟨w.heap.size + 1, 0, none⟩ = some (.slice aa l.length cl) := by rw [← hwB]; simp [go_sem]
        have y3 : wB.cell? ⟨w.heap.size + 1 + 1, 0, none⟩ = some (.int .i64 dir) := by rw [← hwB]; simp [go_sem]
        have y4 : wB.cell? ⟨w.heap.size + 1 + 1 + 1, 0, none⟩ = some (.int .i64 tp) := by rw [← hwB]; simp [go_sem]
        rw [hwB]
        clear hwB
        go_wp2_with (first | (go_at_call 26; refine (H1.out _ hb).mono ?_; rintro e w1 ⟨rfl, hb1⟩; replace hb := hb.trans (hb1.mono hb.size); replace l0 := cell_below l0 hb1; replace l1 := cell_below l1 hb1; replace y2 := cell_below y2 hb1; replace y3 := cell_below y3 hb1; replace y4 := cell_below y4 hb1; clear hb1) | (go_at_call 28; refine (K0.out _).mono ?_; rintro e w2 ⟨rfl, rfl⟩) | (go_at_call 29; refine (K1.out _).mono ?_; rintro e w2 ⟨rfl, rfl⟩) | (go_at_call 30; refine (K2.out _).mono ?_; rintro e w2 ⟨rfl, hb2⟩; replace hb := hb.trans (hb2.mono hb.size); replace l0 := cell_below l0 hb2; replace l1 := cell_below l1 hb2; replace y2 := cell_below y2 hb2; replace y3 := cell_below y3 hb2; replace y4 := cell_below y4 hb2; clear hb2))
        go_ret2
        exact ⟨rfl, hb⟩
      | true =>
        cases hx
theorem toldInfo : (Tryz.prog.info? 77).map (fun i => (i.zero, i.size, i.bytes)) = some (some (.agg #[.int .i64 0, .int .i64 0, .int .i64 0]), 3, 24) := by kernel_rfl
/-- What a metre was told: the hours at which it changes, and what holds from them on. -/
def hisL (L : Int) (js : List Int) (l : List Sgn) (dir tp m : Int) : List Tri := prtK (ascL (momL l [] ++ [0, 10000001])) (fun h => hldV L js l h dir tp m) (ascL (momL l [] ++ [0, 10000001])).length
set_option maxRecDepth 100000 in
set_option maxHeartbeats 4000000 in
theorem History_good (L : Int) (a : Option Addr) (js : List Int) (ca : Nat) (aa : Option Addr) (l : List Sgn) (cl : Nat) (dir tp m : Int) (hV : lstE L js l [] = 0) (h0 : dirB dir = true) (h1 : topB tp = true) (h2 : btw m 0 (L - 1) = true) (w : World) (hI : IntsS w a js) (hA : SgnS w aa l) :
    Calls Tryz.prog 9 #[.agg #[.int .i64 L, .slice a js.length ca], .slice aa l.length cl, .int .i64 dir, .int .i64 tp, .int .i64 m] w (TriA (hisL L js l dir tp m) 0 w) := by
  obtain ⟨hLb, hJ, hC, hn⟩ := lst_good hV
  obtain ⟨m1, m2, m3, m4⟩ := mom_good (q := []) (lst_sgns hV) (lst_edcs hV)
  have hml := mom_len m1 m2 m3
  have hm := btw_ge h2
  have HMB : Hid (∀ j, j < (momL l [] ++ [0, 10000001]).length → I64 (gi (momL l [] ++ [0, 10000001]) j)) := Lib.hid fun j hj => by
    have hj := gi_mem hj
    rw [List.mem_append] at hj
    unfold I64
    rcases hj with hj | hj
    · have := mom_in (fun x hx => (m4 x hx).1) hj
      omega
    · simp only [List.mem_cons, List.not_mem_nil, or_false] at hj
      omega
  have H1 := Lib.hid (fun W (hW : Below w.heap.size w W) => by
    have := listsError_r L a js ca aa l cl none [] 0 W (hI.below hW) (hA.below hW) (ed_nilR W)
    rw [hV] at this
    exact this)
  have K0 := Lib.hid (fun W => h0 ▸ isDir_r dir W)
  have K1 := Lib.hid (fun W => h1 ▸ isTopic_r tp W)
  have K2 := Lib.hid (fun W => h2 ▸ isMetre_r L a js.length ca m hLb.1 hLb.2 W)
  have HBg := Lib.hid (fun W => beginOf_r L a js.length ca dir m hLb.1 hLb.2 (by omega) (by omega) W)
  have HMo := Lib.hid (fun W (hW : Below w.heap.size w W) => moments_r aa l cl none [] 0 m1 m2 m3 m4 W (hA.below hW) (ed_nilR W))
  have HTo := Lib.hid (fun b1 b2 b3 b4 b5 hh W (hW : Below w.heap.size w W) g0 g1 g2 g3 g4 g5 => toldAt_r L a js ca aa l cl dir tp m hh b1 b2 b3 b4 b5 hV h1 h2 W (hI.below hW) (hA.below hW) g0 g1 g2 g3 g4 g5)
  have HRes : Hid (hisL L js l dir tp m = prtK (ascL (momL l [] ++ [0, 10000001])) (fun h => hldV L js l h dir tp m) (ascL (momL l [] ++ [0, 10000001])).length) := Lib.hid rfl
  obtain ⟨n0, hi, hz0, hz1, hz2⟩ := info_parts infoInt
  generalize begK L dir m = bk at *
  clear hI hA hV h0 h1 h2 hm hJ hC hLb hn m1 m2 m3 m4
  go_enter Tryz.func9, Tryz.ntmps9
  go_upto_region 1 with (fail)
  obtain ⟨wB, hwB⟩ : ∃ wB, ((((w.alloc (.cells #[.int .i64 L, .slice a js.length ca] 24)).alloc (.cells #[.slice aa l.length cl] 25)).alloc (.cells #[.int .i64 dir] 3)).alloc (.cells #[.int .i64 tp] 3)) = wB := ⟨_, rfl⟩
  have hb : Below w.heap.size w wB := by rw [← hwB]; exact ((((Below.refl _ _).alloc (Nat.le_refl _) _).alloc (by simp) _).alloc (by simp; omega) _).alloc (by simp; omega) _
  have hsz : w.heap.size + 3 < wB.heap.size := by rw [← hwB]; simp
  have l0 : wB.cell? ⟨w.heap.size, 0, none⟩ = some (.int .i64 L) := by rw [← hwB]; simp [go_sem]
  have l1 : wB.cell? ⟨w.heap.size, 1, none⟩ = some (.slice a js.length ca) := by rw [← hwB]; simp [go_sem]
  have y2 : wB.cell? ⟨w.heap.size + 1, 0, none⟩ = some (.slice aa l.length cl) := by rw [← hwB]; simp [go_sem]
  have y3 : wB.cell? ⟨w.heap.size + 1 + 1, 0, none⟩ = some (.int .i64 dir) := by rw [← hwB]; simp [go_sem]
  have y4 : wB.cell? ⟨w.heap.size + 1 + 1 + 1, 0, none⟩ = some (.int .i64 tp) := by rw [← hwB]; simp [go_sem]
  rw [hwB]
  clear hwB
  go_upto_region 7 with (first | (go_at_call 26; refine (H1.out _ hb).mono ?_; rintro e w1 ⟨rfl, hb1⟩; replace hb := hb.trans (hb1.mono hb.size); replace l0 := cell_below l0 hb1; replace l1 := cell_below l1 hb1; replace y2 := cell_below y2 hb1; replace y3 := cell_below y3 hb1; replace y4 := cell_below y4 hb1; clear hb1) | (go_at_call 28; refine (K0.out _).mono ?_; rintro e w2 ⟨rfl, rfl⟩) | (go_at_call 29; refine (K1.out _).mono ?_; rintro e w2 ⟨rfl, rfl⟩) | (go_at_call 30; refine (K2.out _).mono ?_; rintro e w2 ⟨rfl, hb2⟩; replace hb := hb.trans (hb2.mono hb.size); replace l0 := cell_below l0 hb2; replace l1 := cell_below l1 hb2; replace y2 := cell_below y2 hb2; replace y3 := cell_below y3 hb2; replace y4 := cell_below y4 hb2; clear hb2) | (go_at_call 31; refine (HBg.out _).mono ?_; rintro e w2 ⟨rfl, hb2⟩; replace hb := hb.trans (hb2.mono hb.size); replace l0 := cell_below l0 hb2; replace l1 := cell_below l1 hb2; replace y2 := cell_below y2 hb2; replace y3 := cell_below y3 hb2; replace y4 := cell_below y4 hb2; clear hb2))
  obtain ⟨wK, hwK⟩ : ∃ wK, w2.alloc (.cells #[.int .i64 bk] 3) = wK := ⟨_, rfl⟩
  have hbK : Below w2.heap.size w2 wK := by rw [← hwK]; exact (Below.refl _ _).alloc (Nat.le_refl _) _
  have y5 : wK.cell? ⟨w2.heap.size, 0, none⟩ = some (.int .i64 bk) := by rw [← hwK]; simp [go_sem]
  rw [hwK]
  clear hwK H1 K0 K1 K2 HBg hsz
  replace l0 := cell_below l0 hbK
  replace l1 := cell_below l1 hbK
  replace y2 := cell_below y2 hbK
  replace y3 := cell_below y3 hbK
  replace y4 := cell_below y4 hbK
  have HB := Lib.hid (hb.trans (hbK.mono hb.size))
  have HTK := Lib.hid (fun hh W (hW : Below wK.heap.size wK W) => HTo.out w.heap.size (w.heap.size + 1) (w.heap.size + 1 + 1) (w.heap.size + 1 + 1 + 1) w2.heap.size hh W (HB.out.trans (hW.mono HB.out.size)) (cell_below l0 hW) (cell_below l1 hW) (cell_below y2 hW) (cell_below y3 hW) (cell_below y4 hW) (cell_below y5 hW))
  have Y2 := Lib.hid y2
  clear HTo l0 l1 y3 y4 y5 hb hbK
  generalize momL l [] = Z at *
  have hZl : Z.length ≤ 2300 := hml
  clear hml
  go_wp2_with (first
    | (go_at_call 27; refine (HMo.out _ HB.out).mono ?_; rintro e w4 ⟨a4, c4, rfl, ho4, hb4⟩; have hown := Lib.hid (ho4.alloc (.cells #[.int .i64 0, .int .i64 10000001] 3)); have hbs := hb4.size; clear ho4)
    | (at_builtin; go_loud (refine wpList_append_lies _ rfl _ _ 22 rfl wK.heap.size 3 n0 _ 1 8 Tryz.underlying22 hi hz0 hz1 hz2 rfl (by decide) (.slice a4 Z.length c4) Z.length _ (by rfl) hown.out ⟨w4.heap.size, 0, none⟩ 2 2 [.int .i64 0, .int .i64 10000001] (by rfl) (by rfl) ?d1 ?d2 (by decide) ?d3 ?d4 ?d5 _ rfl ?_)))
  case d1 =>
    refine World.news_of_block (cs := #[.int .i64 0, .int .i64 10000001]) (t := 3) (fr := (0, 0)) ?_
    exact heap_alloc_new _ _
  case d2 => simp [Value.oneCell']
  case d3 => unfold maxLen; omega
  case d4 => omega
  case d5 => first | (simp; omega) | simp | omega
  intro g6 c6 w6 hown6 hgrow6 hat6 hlt6
  have hb6 : Below wK.heap.size wK w6 := (hb4.alloc hbs _).grown hgrow6 (by first | (simp; omega) | simp | omega) (fun z hz => owns_blockI hown.out hz)
  have hcI : IntsS w6 (some ⟨g6, 0, none⟩) (Z ++ [0, 10000001]) := by
    refine ints_own (base := wK.heap.size) (c := c6) (T := 3) ?_ (by simp; omega) HMB.out
    have e1 : (Z ++ [(0 : Int), 10000001]).length = Z.length + 2 := by simp
    have e2 : clI (Z ++ [(0 : Int), 10000001]) = clI Z ++ [.int .i64 0, .int .i64 10000001] := by unfold clI; simp
    rw [e1, e2]
    exact hown6
  have HCI := Lib.hid hcI
  have HLN : Hid (Z.length + 2 = (Z ++ [(0 : Int), 10000001]).length) := Lib.hid (by simp)
  have HCL : Hid ((Z ++ [(0 : Int), 10000001]).length ≤ 2302) := Lib.hid (by simp; omega)
  have HNE : Hid ((Z ++ [(0 : Int), 10000001]) ≠ []) := Lib.hid (by simp)
  rw [HLN.out]
  clear hown hgrow6 hat6 hlt6 hown6 hcI hb4 hbs HMo
  generalize Z ++ [(0 : Int), 10000001] = CU at *
  have HP := Lib.hid (partsH_r (some ⟨g6, 0, none⟩) CU c6 #[.pointer (some ⟨w.heap.size, 0, none⟩), .pointer (some ⟨w.heap.size + 1, 0, none⟩), .pointer (some ⟨w.heap.size + 1 + 1, 0, none⟩), .pointer (some ⟨w.heap.size + 1 + 1 + 1, 0, none⟩), .pointer (some ⟨w2.heap.size, 0, none⟩)] (fun h => hldV L js l h dir tp m) w6 HCI.out HNE.out (by have := HCL.out; omega) (fun hh W _ hW => HTK.out hh W (hb6.trans (hW.mono hb6.size))))
  have HLen : Hid ((prtK (ascL CU) (fun h => hldV L js l h dir tp m) (ascL CU).length).length ≤ CU.length) := Lib.hid (Nat.le_trans (prtK_len _ _ _) (asc_len CU))
  have HU : Hid (∀ W e w', PrtE W (ascL CU) (fun h => hldV L js l h dir tp m) e w' → ∃ b c, e = .returned (.slice b (prtK (ascL CU) (fun h => hldV L js l h dir tp m) (ascL CU).length).length c) ∧ w'.ownsRow W.heap.size 76 3 (.slice b (prtK (ascL CU) (fun h => hldV L js l h dir tp m) (ascL CU).length).length c) (prtK (ascL CU) (fun h => hldV L js l h dir tp m) (ascL CU).length).length (cl3 (prtK (ascL CU) (fun h => hldV L js l h dir tp m) (ascL CU).length)) ∧ Below W.heap.size W w') := Lib.hid fun W e w' h => h
  go_wp2_with (go_at_call 35; refine HP.out.mono ?_; rintro e w7 hw7; obtain ⟨b, c, rfl, hr7, hb7⟩ := HU.out _ _ _ hw7)
  generalize prtK (ascL CU) (fun h => hldV L js l h dir tp m) (ascL CU).length = P at *
  have hbo : Below w.heap.size w w7 := HB.out.trans ((hb6.trans (hb7.mono hb6.size)).mono HB.out.size)
  have HOwn := Lib.hid hr7
  have HCz : Hid (∀ k, k < P.length → ∃ g, b = some ⟨g, 0, none⟩ ∧ w7.cell? ⟨g, k * 3, none⟩ = some (.int .i64 (gt3 P k).1) ∧ w7.cell? ⟨g, k * 3 + 1, none⟩ = some (.int .i64 (gt3 P k).2.1) ∧ w7.cell? ⟨g, k * 3 + 2, none⟩ = some (.int .i64 (gt3 P k).2.2)) := Lib.hid fun k hk => by
    have h := HOwn.out
    rcases h.2 with ⟨h1, h2⟩ | ⟨g2, c2, cur, h1, _⟩
    · omega
    · obtain ⟨rfl, rfl⟩ : b = some ⟨g2, 0, none⟩ ∧ c = c2 := by simpa using h1
      have hh := cl3_c P k hk
      refine ⟨g2, rfl, ?_, ?_, ?_⟩
      · rw [World.ownsRow.cellAt h (k * 3) (by omega)]; exact hh.1
      · rw [World.ownsRow.cellAt h (k * 3 + 1) (by omega)]; exact hh.2.1
      · rw [World.ownsRow.cellAt h (k * 3 + 2) (by omega)]; exact hh.2.2
  have hPl : P.length ≤ 2302 := Nat.le_trans HLen.out HCL.out
  clear HOwn hr7 hb7 hw7 HU HP hb6 HTK HCI HLN HCL HNE HLen HMB Y2 y2
  obtain ⟨wo, rfl⟩ : ∃ wo : World, wo = w7 := ⟨_, rfl⟩
  obtain ⟨n1, hi1, hy0, hy1, hy2⟩ := info_parts toldInfo
  have HTS : Hid (∀ k, k < P.length → cl3 (P.take (k + 1)) = cl3 (P.take k) ++ [.int .i64 (gt3 P k).1, .int .i64 (gt3 P k).2.1, .int .i64 (gt3 P k).2.2]) := Lib.hid fun k hk => by
    rw [List.take_add_one, List.getElem?_eq_getElem hk]
    have : gt3 P k = P[k] := by unfold gt3; simp [hk]
    rw [this]
    exact cl3_app _ _
  go_wp2_with fail
  go_loopw [15, 50] (fun z i wr => ∃ k : Nat, k ≤ P.length ∧ i = .int .i64 k ∧ (∃ a c, z = .slice a k c) ∧ Hid (wr.ownsRow wo.heap.size 77 3 z k (cl3 (P.take k))) ∧ Below wo.heap.size wo wr) (fun _ i _ => P.length - (intOf i).toNat)
  case atStart => exact ⟨0, Nat.zero_le _, rfl, ⟨none, 0, rfl⟩, Lib.hid ⟨rfl, .inl ⟨rfl, rfl⟩⟩, Below.refl _ _⟩
  case round =>
    obtain ⟨k, hk, rfl, ⟨av, cv, rfl⟩, HRow, hbr⟩ := hrel
    by_cases hlt : k < P.length
    · obtain ⟨g, rfl, c0, c1, c2⟩ := HCz.out k hlt
      have c0 := cell_below c0 hbr
      have c1 := cell_below c1 hbr
      have c2 := cell_below c2 hbr
      have HN := Lib.hid (HTS.out k hlt)
      clear HCz HTS HRes
      generalize (gt3 P k).1 = x at *
      generalize (gt3 P k).2.1 = y at *
      generalize (gt3 P k).2.2 = v at *
      obtain ⟨M, hM⟩ : ∃ M, P.take k = M := ⟨_, rfl⟩
      have hMl : M.length = k := by rw [← hM]; simp; omega
      have HMl := Lib.hid hMl
      rw [hM] at HN HRow
      rw [← hMl] at HRow c0 c1 c2 ⊢
      clear hM
      have hk64 : (M.length : Int) < (P.length : Int) := by omega
      have hkk : M.length < P.length := by omega
      clear hMl hk hlt
      have hsz := hbr.size
      have hbA : Below wo.heap.size wo (wr.alloc (.cells #[.int .i64 x, .int .i64 y, .int .i64 v] 76)) := hbr.alloc hsz _
      have HRow := Lib.hid (HRow.out.alloc (.cells #[.int .i64 x, .int .i64 y, .int .i64 v] 76))
      have s0 : (wr.alloc (.cells #[.int .i64 x, .int .i64 y, .int .i64 v] 76)).cell? ⟨wr.heap.size, 0, none⟩ = some (.int .i64 x) := by simp [go_sem]
      have s1 : (wr.alloc (.cells #[.int .i64 x, .int .i64 y, .int .i64 v] 76)).cell? ⟨wr.heap.size, 1, none⟩ = some (.int .i64 y) := by simp [go_sem]
      have s2 : (wr.alloc (.cells #[.int .i64 x, .int .i64 y, .int .i64 v] 76)).cell? ⟨wr.heap.size, 2, none⟩ = some (.int .i64 v) := by simp [go_sem]
      obtain ⟨wA, hwA⟩ : ∃ wA, wr.alloc (.cells #[.int .i64 x, .int .i64 y, .int .i64 v] 76) = wA := ⟨_, rfl⟩
      rw [hwA] at s0 s1 s2 HRow hbA
      have hown := Lib.hid (HRow.out.alloc (.cells #[.int .i64 x, .int .i64 y, .int .i64 v] 77))
      have hbs := hbA.size
      go_wp2_with (first | (at_builtin; go_loud (refine wpList_append_lies _ rfl _ _ 34 rfl wo.heap.size 77 n1 _ 3 24 Tryz.underlying34 hi1 hy0 hy1 hy2 rfl (by decide) (.slice _ M.length cv) M.length _ (by rfl) hown.out ⟨wA.heap.size, 0, none⟩ 1 1 [.int .i64 x, .int .i64 y, .int .i64 v] (by rfl) (by rfl) ?d1 ?d2 (by decide) ?d3 ?d4 ?d5 _ rfl ?_)))
      case d1 =>
        refine World.news_of_block (cs := #[.int .i64 x, .int .i64 y, .int .i64 v]) (t := 77) (fr := (0, 0)) ?_
        exact heap_alloc_new _ _
      case d2 => simp [Value.oneCell']
      case d3 => unfold maxLen; omega
      case d4 => omega
      case d5 => first | (simp; omega) | simp | omega
      intro g6 c6 w6 hown6 hgrow6 hat6 hlt6
      have hb6 : Below wo.heap.size wo w6 := ((hbA.alloc hbs _).grown hgrow6 (by first | (simp; omega) | simp | omega) (fun z hz => owns_blockI hown.out hz))
      go_wp2_with fail
      go_roundw
      case rel => exact ⟨M.length + 1, by omega, by go_num, ⟨_, c6, rfl⟩, Lib.hid (by rw [show M.length + 1 = k + 1 by rw [HMl.out]] at hown6 ⊢; rw [HN.out]; exact hown6), hb6⟩
      case measure => simp [intOf]; omega
    · obtain rfl : k = P.length := by omega
      have hbw := hbo.trans (hbr.mono hbo.size)
      have HEnd : Hid (TriA P 0 w (.returned (.tuple #[.slice av P.length cv, .int .i64 0])) wr) := Lib.hid ⟨av, cv, rfl, tri_own (by have := HRow.out; rwa [List.take_length] at this) (by omega), hbw⟩
      clear HRow
      go_wp2_with fail
      go_ret2
      rw [HRes.out]
      exact HEnd.out
set_option maxRecDepth 100000 in
set_option maxHeartbeats 4000000 in
theorem History_any (L : Int) (a : Option Addr) (js : List Int) (ca : Nat) (aa : Option Addr) (l : List Sgn) (cl : Nat) (dir tp m : Int) (b9 r : Bool) (hr : r = (dirB dir && topB tp && btw m 0 (L - 1))) (w : World) (hI : IntsS w a js) (hA : SgnS w aa l) :
    Calls Tryz.prog 9 #[.agg #[.int .i64 L, .slice a js.length ca], .slice aa l.length cl, .int .i64 dir, .int .i64 tp, .int .i64 m] w (TriA (if whyK (lineB L js) true (sgnsB L js l) false b9 r = 0 then hisL L js l dir tp m else []) (whyK (lineB L js) true (sgnsB L js l) false b9 r) w) := by
  obtain ⟨k1, k2⟩ := lst_s L js l true b9 r
  by_cases hV : lstE L js l [] = 0
  · rw [k2 hV]
    cases hx : r with
    | false =>
      rw [if_pos rfl, if_neg (by decide)]
      refine (History_arg L a js ca aa l cl dir tp m hV (by rw [← hr]; exact hx) w hI hA).mono ?_
      rintro e w' ⟨rfl, hb⟩
      exact ⟨none, 0, rfl, tri_nil _, hb⟩
    | true =>
      rw [if_neg (show ¬ (true = false) by decide), if_pos rfl]
      rw [hx] at hr
      have hr := hr.symm
      simp only [Bool.and_eq_true] at hr
      exact History_good L a js ca aa l cl dir tp m hV hr.1.1 hr.1.2 hr.2 w hI hA
  · rw [k1 hV, if_neg hV]
    refine (History_bad L a js ca aa l cl dir tp m hV w hI hA).mono ?_
    rintro e w' ⟨rfl, hb⟩
    exact ⟨none, 0, rfl, tri_nil _, hb⟩
end Go.Proofs.YtjoffnbpaebgjaaGreat

namespace Go.Proofs.YtjoffnbpaebgjaaGreat
set_option linter.unusedVariables false
set_option linter.unusedSimpArgs false
open Go.RowKit

theorem cI_len (s : List Int) : (clI s).length = s.length * 1 := by unfold clI; simp
theorem cI_take (s : List Int) (k : Nat) : (clI s).take (k * 1) = clI (s.take k) := by unfold clI; simp
theorem cI_drop (s : List Int) (k : Nat) : (clI s).drop (k * 1) = clI (s.drop k) := by unfold clI; simp
theorem cI_app (s t : List Int) : clI (s ++ t) = clI s ++ clI t := by unfold clI; simp
theorem cI_one (s : List Int) : ∀ x, x ∈ clI s → x.oneCell' = true := fun x hx => by
  unfold clI at hx
  obtain ⟨y, -, rfl⟩ := List.mem_map.1 hx
  rfl
theorem cI_at (s : List Int) {k : Nat} (h : k < s.length) : (clI s)[k]? = some (.int .i64 (gi s k)) := by
  unfold clI
  rw [List.getElem?_map, List.getElem?_eq_getElem h, gi_at _ h]
  rfl
/-- What put returns: an own row. -/
def PutE (b0 : Nat) (Z : List Int) (w : World) (e : Ending) (w' : World) : Prop := ∃ a c, e = .returned (.slice a Z.length c) ∧ w'.ownsRow b0 3 1 (.slice a Z.length c) Z.length (clI Z) ∧ Below w.heap.size w w'
/-- Does the place go on down? -/
def cndH (h : Int) (out : List Int) (j : Nat) : Bool := decide (0 < j) && decide (h < gi out (j - 1))
theorem plcH_true {h : Int} {out : List Int} {j : Nat} (e : cndH h out j = true) : 0 < j ∧ plcH h out j = plcH h out (j - 1) := by
  unfold cndH at e
  rw [Bool.and_eq_true, decide_eq_true_eq, decide_eq_true_eq] at e
  obtain ⟨t, rfl⟩ : ∃ t, j = t + 1 := ⟨j - 1, by omega⟩
  rw [Nat.add_sub_cancel] at e ⊢
  exact ⟨e.1, plcH_yes e.2⟩
theorem plcH_false {h : Int} {out : List Int} {j : Nat} (e : cndH h out j = false) : plcH h out j = j := by
  unfold cndH at e
  cases j with
  | zero => rfl
  | succ t =>
    rw [decide_eq_true (by omega), Bool.true_and, decide_eq_false_iff_not, Nat.add_sub_cancel] at e
    exact plcH_no e
set_option linter.unnecessarySimpa false
set_option maxRecDepth 100000 in
set_option maxHeartbeats 4000000 in
theorem refPut_r (b0 : Nat) (av : Option Addr) (Z : List Int) (cv : Nat) (ho : Int) (w : World) (hZl : Z.length ≤ 100000) (hb0 : b0 ≤ w.heap.size) (hO : w.ownsRow b0 3 1 (.slice av Z.length cv) Z.length (clI Z)) :
    Calls Tryz.prog 38 #[.slice av Z.length cv, .int .i64 ho] w (PutE b0 (putH Z ho) w) := by
  obtain ⟨n0, hi, hz0, hz1, hz2⟩ := info_parts infoInt
  have HRow := Lib.hid hO
  have HEnd : Hid (∀ j, j ≤ Z.length → plcH ho Z Z.length = j → (10000000 < ho ∨ (0 < j ∧ gi Z (j - 1) = ho)) → putH Z ho = Z) := Lib.hid fun j _ e hx => by unfold putH; rw [e, if_pos hx]
  have HIns : Hid (∀ j, j ≤ Z.length → plcH ho Z Z.length = j → ¬ (10000000 < ho ∨ (0 < j ∧ gi Z (j - 1) = ho)) → putH Z ho = Z.take j ++ ho :: Z.drop j) := Lib.hid fun j _ e hx => by unfold putH; rw [e, if_neg hx]
  clear hO
  go_enter Tryz.func38, Tryz.ntmps38
  go_wp2_with fail
  go_loopw [5] (fun k9 wk => ∃ j : Nat, j ≤ Z.length ∧ k9 = .int .i64 j ∧ Hid (plcH ho Z Z.length = plcH ho Z j) ∧ Below w.heap.size w wk) (fun k9 _ => (intOf k9).toNat)
  case atStart => exact ⟨Z.length, Nat.le_refl _, rfl, Lib.hid rfl, Below.refl _ _⟩
  case round =>
    obtain ⟨j, hj, rfl, HPj, hbk⟩ := hrel
    obtain ⟨wk, rfl⟩ : ∃ wk : World, wk = wr := ⟨_, rfl⟩
    have HRowk := Lib.hid (owns_belowI HRow.out hbk)
    go_upto_region 2 with (fail)
    go_cut [18] (fun v wx => v = .bool (cndH ho Z j) ∧ wk = wx)
    case first =>
      by_cases hj0 : 0 < j
      · obtain ⟨t, rfl⟩ : ∃ t, j = t + 1 := ⟨j - 1, by omega⟩
        obtain ⟨gj, hgj⟩ : ∃ gj, av = some ⟨gj, 0, none⟩ := by
          rcases HRowk.out.2 with ⟨h1, h2⟩ | ⟨g2, c2, cur, h1, _⟩
          · omega
          · exact ⟨g2, by simpa using (Value.slice.inj h1).1⟩
        subst hgj
        have cx := World.ownsRow.cellAt HRowk.out t (by omega)
        rw [cI_at Z (by omega)] at cx
        have hti : ((t + 1 : Nat) : Int) - 1 = (t : Int) := by omega
        have htw : IntKind.i64.wrap (((t + 1 : Nat) : Int) - 1) = (t : Int) := by rw [hti]; exact IntWalk.i64_in _ (by omega)
        have htl : t < Z.length := by omega
        have htl2 : (t : Int) < (Z.length : Int) := by omega
        have hjj : 0 < t + 1 := by omega
        have HCn : Hid (cndH ho Z (t + 1) = decide (ho < gi Z t)) := Lib.hid (by unfold cndH; rw [decide_eq_true hjj, Bool.true_and]; rfl)
        clear hti HEnd HIns HPj HRow HRowk
        generalize hJ : ((t + 1 : Nat) : Int) = J at *
        have hJ0 : 0 < J := by omega
        have HJ9 := Lib.hid hJ
        clear hJ
        obtain ⟨pn, hpn⟩ : ∃ x, gi Z t = x := ⟨_, rfl⟩
        rw [hpn] at cx HCn
        clear hpn
        by_cases hc : ho < pn
        · have d1 : decide (ho < pn) = true := decide_eq_true hc
          clear hc
          go_wp2_with fail
          go_meet
          exact ⟨by rw [HCn.out, d1], rfl⟩
        · have d1 : decide (ho < pn) = false := decide_eq_false hc
          clear hc
          go_wp2_with fail
          go_meet
          exact ⟨by rw [HCn.out, d1], rfl⟩
      · obtain rfl : j = 0 := by omega
        go_wp2_with fail
        go_meet
        exact ⟨rfl, rfl⟩
    case rest =>
      obtain ⟨rfl, rfl⟩ := hcut
      rcases Bool.eq_false_or_eq_true (cndH ho Z j) with hcn | hcn
      · have h1 := plcH_true hcn
        have HPn : Hid (plcH ho Z Z.length = plcH ho Z (j - 1)) := Lib.hid (by rw [HPj.out, h1.2])
        have hj1 := h1.1
        have hji : ((j - 1 : Nat) : Int) = (j : Int) - 1 := by omega
        have HJI := Lib.hid hji
        clear h1 hji
        rw [hcn]
        go_wp2_with fail
        go_roundw
        case rel => exact ⟨j - 1, by omega, by rw [HJI.out], HPn, hbk⟩
        case measure => simp [intOf]; omega
      · have h1 := plcH_false hcn
        have HPe : Hid (plcH ho Z Z.length = j) := Lib.hid (HPj.out.trans h1)
        clear h1 HPj
        rw [hcn]
        clear hcn
        by_cases hend : 10000000 < ho ∨ (0 < j ∧ gi Z (j - 1) = ho)
        · have HR := Lib.hid (HEnd.out j hj HPe.out hend)
          clear HEnd HIns HPe
          rcases hend with hend | ⟨hj0, hend⟩
          · have d1 : decide (10000000 < ho) = true := decide_eq_true hend
            go_wp2_with fail
            go_ret
            exact ⟨av, cv, by rw [HR.out]; rfl, by rw [HR.out]; exact HRowk.out, hbk⟩
          · obtain ⟨t, rfl⟩ : ∃ t, j = t + 1 := ⟨j - 1, by omega⟩
            rw [Nat.add_sub_cancel] at hend
            obtain ⟨gj, hgj⟩ : ∃ gj, av = some ⟨gj, 0, none⟩ := by
              rcases HRowk.out.2 with ⟨h1, h2⟩ | ⟨g2, c2, cur, h1, _⟩
              · omega
              · exact ⟨g2, by simpa using (Value.slice.inj h1).1⟩
            subst hgj
            have cx := World.ownsRow.cellAt HRowk.out t (by omega)
            rw [cI_at Z (by omega), hend] at cx
            have hti : ((t + 1 : Nat) : Int) - 1 = (t : Int) := by omega
            have htw : IntKind.i64.wrap (((t + 1 : Nat) : Int) - 1) = (t : Int) := by rw [hti]; exact IntWalk.i64_in _ (by omega)
            have htl : t < Z.length := by omega
            have htl2 : (t : Int) < (Z.length : Int) := by omega
            have d2 : (ho == ho) = true := by simp
            clear hti hend HRow
            generalize hJ : ((t + 1 : Nat) : Int) = J at *
            have hJ0 : 0 < J := by omega
            have HJ9 := Lib.hid hJ
            clear hJ
            by_cases hh : 10000000 < ho
            · have d1 : decide (10000000 < ho) = true := decide_eq_true hh
              go_wp2_with fail
              go_ret
              exact ⟨some ⟨gj, 0, none⟩, cv, by rw [HR.out]; rfl, by rw [HR.out]; exact HRowk.out, hbk⟩
            · have d1 : decide (10000000 < ho) = false := decide_eq_false hh
              clear hh
              go_wp2_with fail
              go_ret
              exact ⟨some ⟨gj, 0, none⟩, cv, by rw [HR.out]; rfl, by rw [HR.out]; exact HRowk.out, hbk⟩
        · have HZ1 := Lib.hid (HIns.out j hj HPe.out hend)
          have hh : ¬ 10000000 < ho := fun e => hend (.inl e)
          have d1 : decide (10000000 < ho) = false := decide_eq_false hh
          have hnx : 0 < j → gi Z (j - 1) ≠ ho := fun a b => hend (.inr ⟨a, b⟩)
          clear HEnd HIns HPe hend hh
          obtain ⟨Z1, hZ1⟩ : ∃ X, putH Z ho = X := ⟨_, rfl⟩
          have HZr := Lib.hid hZ1
          rw [hZ1] at HZ1
          clear hZ1
          have HN2 : Hid (Z1 = Z.take j ++ ho :: Z.drop j) := HZ1
          go_upto_region 4 with (fail)
          go_cut [35] (fun v wx => v = .bool false ∧ wk = wx)
          case first =>
            by_cases hj0 : 0 < j
            · obtain ⟨t, rfl⟩ : ∃ t, j = t + 1 := ⟨j - 1, by omega⟩
              have hnx := hnx hj0
              rw [Nat.add_sub_cancel] at hnx
              obtain ⟨gj, hgj⟩ : ∃ gj, av = some ⟨gj, 0, none⟩ := by
                rcases HRowk.out.2 with ⟨h1, h2⟩ | ⟨g2, c2, cur, h1, _⟩
                · omega
                · exact ⟨g2, by simpa using (Value.slice.inj h1).1⟩
              subst hgj
              have cx := World.ownsRow.cellAt HRowk.out t (by omega)
              rw [cI_at Z (by omega)] at cx
              have hti : ((t + 1 : Nat) : Int) - 1 = (t : Int) := by omega
              have htw : IntKind.i64.wrap (((t + 1 : Nat) : Int) - 1) = (t : Int) := by rw [hti]; exact IntWalk.i64_in _ (by omega)
              have htl : t < Z.length := by omega
              have htl2 : (t : Int) < (Z.length : Int) := by omega
              have d2 : (gi Z t == ho) = false := beq_false_of_ne hnx
              clear hti hnx HRow HRowk HN2 HZ1
              generalize hJ : ((t + 1 : Nat) : Int) = J at *
              have hJ0 : 0 < J := by omega
              have HJ9 := Lib.hid hJ
              clear hJ
              generalize gi Z t = pn at *
              go_wp2_with fail
              go_meet
              exact ⟨rfl, rfl⟩
            · obtain rfl : j = 0 := by omega
              go_wp2_with fail
              go_meet
              exact ⟨rfl, rfl⟩
          case rest =>
            obtain ⟨rfl, rfl⟩ := hcut
            obtain ⟨ws, rfl⟩ : ∃ ws : World, ws = wk := ⟨_, rfl⟩
            have HRs := HRowk
            have hbs0 := hbk
            have hsB : b0 ≤ ws.heap.size := Nat.le_trans hb0 hbk.size
            have hEl := hZl
            clear HZ1 hnx HRow HRowk
            go_upto_region 6 with (fail)
            rcases HRs.out.2 with ⟨h1, hE0⟩ | ⟨g, c2, cur, h1, hg1, hg2, hnc, hcm, _⟩
            · obtain ⟨rfl, hc0⟩ : av = none ∧ cv = 0 := by simp at h1; exact ⟨h1.1, h1.2.2⟩
              have HE0 := Lib.hid hE0
              have hj0 : j = 0 := by omega
              clear h1 hE0 hc0
              subst hj0
              refine wp_region_held_drew (S := fun w' => Below ws.heap.size ws w') (by kernel_rfl) ((Below.refl _ _).drew) (fun hHeld => ?_)
              refine takeU (i := 0) (some 37) (.slice none Z.length cv) (by kernel_rfl) (by kernel_rfl) (by kernel_rfl) (by kernel_rfl) (by kernel_rfl) (fun _ => by kernel_rfl) (fun _ _ _ h => h) hHeld ?_
              refine takeU (i := 1) (some 38) (.int .i64 0) (by kernel_rfl) (by kernel_rfl) (by kernel_rfl) (by kernel_rfl) (by kernel_rfl) (fun _ => by kernel_rfl) (fun _ _ _ h => h) hHeld ?_
              refine takeU (i := 2) (some 39) (.int .i64 0) (by kernel_rfl) (by kernel_rfl) (by kernel_rfl) (by kernel_rfl) (by kernel_rfl) (fun _ => by kernel_rfl) (fun _ _ _ h => h) hHeld ?_
              refine wpAnyH_take (i := 3) (oi := { dst := some 40, op := Go.Op.slice 22 (Go.Operand.tmp 37) none (some (Go.Operand.tmp 38)) (some (Go.Operand.tmp 39)), type := 22, pos := "ref.go:337", after := #[{ on := 0, ground := Go.Ground.data }, { on := 1, ground := Go.Ground.data }, { on := 2, ground := Go.Ground.data }], guard := none }) (v := .slice none 0 0) rfl (by kernel_rfl) (by kernel_rfl) (by kernel_rfl) (fun _ _ _ h => h) (.inl ⟨by kernel_rfl, fun w9 h9 => by
                clear hHeld h9
                go_simp <;> (intro hcj; exfalso; omega)⟩) hHeld ?_
              refine takeU (i := 4) (some 41) (.int .i64 ho) (by kernel_rfl) (by kernel_rfl) (by kernel_rfl) (by kernel_rfl) (by kernel_rfl) (fun _ => by kernel_rfl) (fun _ _ _ h => h) hHeld ?_
              refine takeU (i := 6) (some 43) (.slice none Z.length cv) (by kernel_rfl) (by kernel_rfl) (by kernel_rfl) (by kernel_rfl) (by kernel_rfl) (fun _ => by kernel_rfl) (fun _ _ _ h => h) hHeld ?_
              refine takeU (i := 7) (some 44) (.int .i64 0) (by kernel_rfl) (by kernel_rfl) (by kernel_rfl) (by kernel_rfl) (by kernel_rfl) (fun _ => by kernel_rfl) (fun _ _ _ h => h) hHeld ?_
              refine wpAnyH_take (i := 8) (oi := { dst := some 45, op := Go.Op.slice 22 (Go.Operand.tmp 43) (some (Go.Operand.tmp 44)) none none, type := 22, pos := "ref.go:337", after := #[{ on := 6, ground := Go.Ground.data }, { on := 7, ground := Go.Ground.data }], guard := none }) (v := .slice none Z.length cv) rfl (by kernel_rfl) (by kernel_rfl) (by kernel_rfl) (fun _ _ _ h => h) (.inl ⟨by kernel_rfl, fun w9 h9 => by
                clear hHeld h9
                go_simp <;> (intro hcj; exfalso; omega)⟩) hHeld ?_
              try simp only [Act.put, List.setIfInBounds_toArray, List.set_cons_zero, List.set_cons_succ]
              refine wpAnyH_ready (rs := [5]) (by kernel_rfl) (by simp) ?_
              refine AllReadyH.cons (o := { dst := some 42, op := Go.Op.buildSlice 22 1 #[(0, Go.Operand.tmp 41)], type := 22, pos := "ref.go:337", after := #[{ on := 4, ground := Go.Ground.data }], guard := none }) rfl (fun K hK => ?_) AllReadyH.nil
              go_simp
              refine hK.out _ _ (hHeld.alloc (Nat.le_refl _) _) (fun hHeld => ?_)
              clear hK K
              try simp only [Act.put, List.setIfInBounds_toArray, List.set_cons_zero, List.set_cons_succ]
              try simp only [Act.put, List.setIfInBounds_toArray, List.set_cons_zero, List.set_cons_succ]
              refine wpAnyH_ready (rs := [9]) (by kernel_rfl) (by simp) ?_
              refine AllReadyH.cons (o := { dst := some 46, op := Go.Op.call { callee := Go.Callee.builtin Go.Builtin.append, args := #[Go.Operand.tmp 42, Go.Operand.tmp 45], argTypes := #[22, 22] }, type := 22, pos := "ref.go:337", after := #[{ on := 5, ground := Go.Ground.data }, { on := 8, ground := Go.Ground.data }], guard := none }) rfl (fun K hK => ?_) AllReadyH.nil
              have hown0 : (ws.drew.alloc (.cells #[.int .i64 ho] 3)).ownsRow ws.heap.size 3 1 (.slice (some ⟨ws.heap.size, 0, none⟩) 1 1) 1 [.int .i64 ho] := ⟨rfl, .inr ⟨ws.heap.size, 1, #[.int .i64 ho], rfl, Nat.le_refl _, heap_alloc_new _ _, Nat.le_refl 1, by decide, rfl, rfl⟩⟩
              refine stepZ (by rfl) _ _ 22 (by rfl) ws.heap.size 3 n0 1 Tryz.underlying22 hi (.slice (some ⟨ws.heap.size, 0, none⟩) 1 1) 1 [.int .i64 ho] (by rfl) hown0 none Z.length cv (by rfl) (by have := HE0.out; omega) ?_
              refine hK.out _ _ hHeld (fun hHeld => ?_)
              clear hK K
              try simp only [Act.put, List.setIfInBounds_toArray, List.set_cons_zero, List.set_cons_succ]
              try simp only [Act.put, List.setIfInBounds_toArray, List.set_cons_zero, List.set_cons_succ]
              refine wpAnyH_ready (rs := [10]) (by kernel_rfl) (by simp) ?_
              refine AllReadyH.cons (o := { dst := some 47, op := Go.Op.call { callee := Go.Callee.builtin Go.Builtin.append, args := #[Go.Operand.tmp 40, Go.Operand.tmp 46], argTypes := #[22, 22] }, type := 22, pos := "ref.go:337", after := #[{ on := 3, ground := Go.Ground.data }, { on := 9, ground := Go.Ground.data }, { on := 9, ground := Go.Ground.chain }], guard := none }) rfl (fun K hK => ?_) AllReadyH.nil
              refine step_append_grows (by rfl) _ _ 22 (by rfl) 3 n0 _ 1 8 Tryz.underlying22 hi hz0 hz1 hz2 rfl (by decide) none 0 0 (clI (Z.take 0)) (by rfl) (fun _ => ⟨rfl, rfl⟩) (by rw [cI_len, List.length_take]; omega) (fun b hb => by cases hb) ⟨ws.heap.size, 0, none⟩ 1 1 [.int .i64 ho] (by rfl) hown0.1 (fun j9 u hu => by
                have hjl : j9 < 1 * 1 := by rw [← hown0.1]; exact (List.getElem?_eq_some_iff.1 hu).1
                rw [Addr.add_lit, Nat.zero_add]; exact (World.ownsRow.cellAt hown0 j9 hjl).trans hu) (by exact cI_one [ho]) (by omega) (by unfold maxLen; omega) (by omega) ?_
              intro v7 w7 hown7 hgrow7
              obtain ⟨g7, c7, rfl, hg7, hl7⟩ := World.ownsRow.form hown7 (by omega)
              have HO7 := Lib.hid (owns_baseI hown7 (base' := b0) (Nat.le_trans hsB hHeld.size))
              refine hK.out _ _ (hHeld.grown hgrow7 hHeld.size (fun z hz => by cases hz)) (fun hHeld => ?_)
              clear hK K hown7 hgrow7
              try simp only [Act.put, List.setIfInBounds_toArray, List.set_cons_zero, List.set_cons_succ]
              refine takeU (i := 11) (some 4) (.slice (some ⟨g7, 0, none⟩) (0 + 1) c7) (by kernel_rfl) (by kernel_rfl) (by kernel_rfl) (by kernel_rfl) (by kernel_rfl) (fun _ => by kernel_rfl) (fun _ _ _ h => h) hHeld ?_
              refine wpAnyH_done (by kernel_rfl) ?_ _
              try simp only [Act.put, List.setIfInBounds_toArray, List.set_cons_zero, List.set_cons_succ]
              have HL7 : Hid (0 + 1 = Z1.length) := Lib.hid (by have := HE0.out; rw [HN2.out, List.length_append, List.length_cons, List.length_take, List.length_drop]; omega)
              have HC7 : Hid (clI (Z.take 0) ++ [.int .i64 ho] = clI Z1) := Lib.hid (by have := HE0.out; rw [HN2.out, cI_app, List.drop_of_length_le (by omega)]; rfl)
              rw [HL7.out, HC7.out] at HO7
              go_wp2_with fail
              all_goals
                go_ret
                rw [HZr.out]
                exact ⟨some ⟨g7, 0, none⟩, c7, by rw [HL7.out] <;> rfl, by first | exact HO7.out | (rw [HL7.out]; exact HO7.out), hbs0.trans (hHeld.mono hbs0.size)⟩
            · obtain ⟨rfl, rfl⟩ : av = some ⟨g, 0, none⟩ ∧ cv = c2 := by simpa using h1
              have hgz : g < ws.heap.size := (Array.getElem?_eq_some_iff.1 hg2).1
              have hcc : Z.length ≤ cv ∧ cv ≤ 9223372036854775807 := by
                rcases HRs.out.2 with ⟨h1, h2⟩ | ⟨g2, c2, cur, h1, hg1, hg2, hnc, hcm, _⟩
                · cases h1
                · obtain ⟨rfl, rfl⟩ : g = g2 ∧ cv = c2 := by simpa using h1
                  unfold maxLen at hcm; omega
              clear h1 hg1 hg2 hnc hcm
              by_cases hj0 : j = 0
              · subst hj0
                by_cases hE0 : Z.length = 0
                · have HE0 := Lib.hid hE0
                  clear hE0
                  refine wp_region_held_drew (S := fun w' => Below ws.heap.size ws w') (by kernel_rfl) ((Below.refl _ _).drew) (fun hHeld => ?_)
                  refine takeU (i := 0) (some 37) (.slice (some ⟨g, 0, none⟩) Z.length cv) (by kernel_rfl) (by kernel_rfl) (by kernel_rfl) (by kernel_rfl) (by kernel_rfl) (fun _ => by kernel_rfl) (fun _ _ _ h => h) hHeld ?_
                  refine takeU (i := 1) (some 38) (.int .i64 0) (by kernel_rfl) (by kernel_rfl) (by kernel_rfl) (by kernel_rfl) (by kernel_rfl) (fun _ => by kernel_rfl) (fun _ _ _ h => h) hHeld ?_
                  refine takeU (i := 2) (some 39) (.int .i64 0) (by kernel_rfl) (by kernel_rfl) (by kernel_rfl) (by kernel_rfl) (by kernel_rfl) (fun _ => by kernel_rfl) (fun _ _ _ h => h) hHeld ?_
                  refine wpAnyH_take (i := 3) (oi := { dst := some 40, op := Go.Op.slice 22 (Go.Operand.tmp 37) none (some (Go.Operand.tmp 38)) (some (Go.Operand.tmp 39)), type := 22, pos := "ref.go:337", after := #[{ on := 0, ground := Go.Ground.data }, { on := 1, ground := Go.Ground.data }, { on := 2, ground := Go.Ground.data }], guard := none }) (v := .slice (some ⟨g, 0, none⟩) 0 0) rfl (by kernel_rfl) (by kernel_rfl) (by kernel_rfl) (fun _ _ _ h => h) (.inl ⟨by kernel_rfl, fun w9 h9 => by
                    clear hHeld h9
                    go_simp <;> (intro hcj; exfalso; omega)⟩) hHeld ?_
                  refine takeU (i := 4) (some 41) (.int .i64 ho) (by kernel_rfl) (by kernel_rfl) (by kernel_rfl) (by kernel_rfl) (by kernel_rfl) (fun _ => by kernel_rfl) (fun _ _ _ h => h) hHeld ?_
                  refine takeU (i := 6) (some 43) (.slice (some ⟨g, 0, none⟩) Z.length cv) (by kernel_rfl) (by kernel_rfl) (by kernel_rfl) (by kernel_rfl) (by kernel_rfl) (fun _ => by kernel_rfl) (fun _ _ _ h => h) hHeld ?_
                  refine takeU (i := 7) (some 44) (.int .i64 0) (by kernel_rfl) (by kernel_rfl) (by kernel_rfl) (by kernel_rfl) (by kernel_rfl) (fun _ => by kernel_rfl) (fun _ _ _ h => h) hHeld ?_
                  refine wpAnyH_take (i := 8) (oi := { dst := some 45, op := Go.Op.slice 22 (Go.Operand.tmp 43) (some (Go.Operand.tmp 44)) none none, type := 22, pos := "ref.go:337", after := #[{ on := 6, ground := Go.Ground.data }, { on := 7, ground := Go.Ground.data }], guard := none }) (v := .slice (some ⟨g, 0, none⟩) Z.length cv) rfl (by kernel_rfl) (by kernel_rfl) (by kernel_rfl) (fun _ _ _ h => h) (.inl ⟨by kernel_rfl, fun w9 h9 => by
                    clear hHeld h9
                    go_simp <;> (intro hcj; exfalso; omega)⟩) hHeld ?_
                  try simp only [Act.put, List.setIfInBounds_toArray, List.set_cons_zero, List.set_cons_succ]
                  refine wpAnyH_ready (rs := [5]) (by kernel_rfl) (by simp) ?_
                  refine AllReadyH.cons (o := { dst := some 42, op := Go.Op.buildSlice 22 1 #[(0, Go.Operand.tmp 41)], type := 22, pos := "ref.go:337", after := #[{ on := 4, ground := Go.Ground.data }], guard := none }) rfl (fun K hK => ?_) AllReadyH.nil
                  go_simp
                  refine hK.out _ _ (hHeld.alloc (Nat.le_refl _) _) (fun hHeld => ?_)
                  clear hK K
                  try simp only [Act.put, List.setIfInBounds_toArray, List.set_cons_zero, List.set_cons_succ]
                  try simp only [Act.put, List.setIfInBounds_toArray, List.set_cons_zero, List.set_cons_succ]
                  refine wpAnyH_ready (rs := [9]) (by kernel_rfl) (by simp) ?_
                  refine AllReadyH.cons (o := { dst := some 46, op := Go.Op.call { callee := Go.Callee.builtin Go.Builtin.append, args := #[Go.Operand.tmp 42, Go.Operand.tmp 45], argTypes := #[22, 22] }, type := 22, pos := "ref.go:337", after := #[{ on := 5, ground := Go.Ground.data }, { on := 8, ground := Go.Ground.data }], guard := none }) rfl (fun K hK => ?_) AllReadyH.nil
                  have hown0 : (ws.drew.alloc (.cells #[.int .i64 ho] 3)).ownsRow ws.heap.size 3 1 (.slice (some ⟨ws.heap.size, 0, none⟩) 1 1) 1 [.int .i64 ho] := ⟨rfl, .inr ⟨ws.heap.size, 1, #[.int .i64 ho], rfl, Nat.le_refl _, heap_alloc_new _ _, Nat.le_refl 1, by decide, rfl, rfl⟩⟩
                  refine stepZ (by rfl) _ _ 22 (by rfl) ws.heap.size 3 n0 1 Tryz.underlying22 hi (.slice (some ⟨ws.heap.size, 0, none⟩) 1 1) 1 [.int .i64 ho] (by rfl) hown0 (some ⟨g, 0, none⟩) Z.length cv (by rfl) (by have := HE0.out; omega) ?_
                  refine hK.out _ _ hHeld (fun hHeld => ?_)
                  clear hK K
                  try simp only [Act.put, List.setIfInBounds_toArray, List.set_cons_zero, List.set_cons_succ]
                  try simp only [Act.put, List.setIfInBounds_toArray, List.set_cons_zero, List.set_cons_succ]
                  refine wpAnyH_ready (rs := [10]) (by kernel_rfl) (by simp) ?_
                  refine AllReadyH.cons (o := { dst := some 47, op := Go.Op.call { callee := Go.Callee.builtin Go.Builtin.append, args := #[Go.Operand.tmp 40, Go.Operand.tmp 46], argTypes := #[22, 22] }, type := 22, pos := "ref.go:337", after := #[{ on := 3, ground := Go.Ground.data }, { on := 9, ground := Go.Ground.data }, { on := 9, ground := Go.Ground.chain }], guard := none }) rfl (fun K hK => ?_) AllReadyH.nil
                  refine step_append_grows (by rfl) _ _ 22 (by rfl) 3 n0 _ 1 8 Tryz.underlying22 hi hz0 hz1 hz2 rfl (by decide) (some ⟨g, 0, none⟩) 0 0 (clI (Z.take 0)) (by rfl) (fun e => by cases e) (by rw [cI_len, List.length_take]; omega) (fun b hb j9 u hu => by simp [clI] at hu) ⟨ws.heap.size, 0, none⟩ 1 1 [.int .i64 ho] (by rfl) hown0.1 (fun j9 u hu => by
                    have hjl : j9 < 1 * 1 := by rw [← hown0.1]; exact (List.getElem?_eq_some_iff.1 hu).1
                    rw [Addr.add_lit, Nat.zero_add]; exact (World.ownsRow.cellAt hown0 j9 hjl).trans hu) (by exact cI_one [ho]) (by omega) (by unfold maxLen; omega) (by omega) ?_
                  intro v7 w7 hown7 hgrow7
                  obtain ⟨g7, c7, rfl, hg7, hl7⟩ := World.ownsRow.form hown7 (by omega)
                  have HO7 := Lib.hid (owns_baseI hown7 (base' := b0) (Nat.le_trans hsB hHeld.size))
                  refine hK.out _ _ (hHeld.grown hgrow7 hHeld.size (fun z hz => by cases hz)) (fun hHeld => ?_)
                  clear hK K hown7 hgrow7
                  try simp only [Act.put, List.setIfInBounds_toArray, List.set_cons_zero, List.set_cons_succ]
                  refine takeU (i := 11) (some 4) (.slice (some ⟨g7, 0, none⟩) (0 + 1) c7) (by kernel_rfl) (by kernel_rfl) (by kernel_rfl) (by kernel_rfl) (by kernel_rfl) (fun _ => by kernel_rfl) (fun _ _ _ h => h) hHeld ?_
                  refine wpAnyH_done (by kernel_rfl) ?_ _
                  try simp only [Act.put, List.setIfInBounds_toArray, List.set_cons_zero, List.set_cons_succ]
                  have HL7 : Hid (0 + 1 = Z1.length) := Lib.hid (by have := HE0.out; rw [HN2.out, List.length_append, List.length_cons, List.length_take, List.length_drop]; omega)
                  have HC7 : Hid (clI (Z.take 0) ++ [.int .i64 ho] = clI Z1) := Lib.hid (by have := HE0.out; rw [HN2.out, cI_app, List.drop_of_length_le (by omega)]; rfl)
                  rw [HL7.out, HC7.out] at HO7
                  go_wp2_with fail
                  all_goals
                    go_ret
                    rw [HZr.out]
                    exact ⟨some ⟨g7, 0, none⟩, c7, by rw [HL7.out] <;> rfl, by first | exact HO7.out | (rw [HL7.out]; exact HO7.out), hbs0.trans (hHeld.mono hbs0.size)⟩
                · have HE0 := Lib.hid hE0
                  clear hE0
                  refine wp_region_held_drew (S := fun w' => Below ws.heap.size ws w') (by kernel_rfl) ((Below.refl _ _).drew) (fun hHeld => ?_)
                  refine takeU (i := 0) (some 37) (.slice (some ⟨g, 0, none⟩) Z.length cv) (by kernel_rfl) (by kernel_rfl) (by kernel_rfl) (by kernel_rfl) (by kernel_rfl) (fun _ => by kernel_rfl) (fun _ _ _ h => h) hHeld ?_
                  refine takeU (i := 1) (some 38) (.int .i64 0) (by kernel_rfl) (by kernel_rfl) (by kernel_rfl) (by kernel_rfl) (by kernel_rfl) (fun _ => by kernel_rfl) (fun _ _ _ h => h) hHeld ?_
                  refine takeU (i := 2) (some 39) (.int .i64 0) (by kernel_rfl) (by kernel_rfl) (by kernel_rfl) (by kernel_rfl) (by kernel_rfl) (fun _ => by kernel_rfl) (fun _ _ _ h => h) hHeld ?_
                  refine wpAnyH_take (i := 3) (oi := { dst := some 40, op := Go.Op.slice 22 (Go.Operand.tmp 37) none (some (Go.Operand.tmp 38)) (some (Go.Operand.tmp 39)), type := 22, pos := "ref.go:337", after := #[{ on := 0, ground := Go.Ground.data }, { on := 1, ground := Go.Ground.data }, { on := 2, ground := Go.Ground.data }], guard := none }) (v := .slice (some ⟨g, 0, none⟩) 0 0) rfl (by kernel_rfl) (by kernel_rfl) (by kernel_rfl) (fun _ _ _ h => h) (.inl ⟨by kernel_rfl, fun w9 h9 => by
                    clear hHeld h9
                    go_simp <;> (intro hcj; exfalso; omega)⟩) hHeld ?_
                  refine takeU (i := 4) (some 41) (.int .i64 ho) (by kernel_rfl) (by kernel_rfl) (by kernel_rfl) (by kernel_rfl) (by kernel_rfl) (fun _ => by kernel_rfl) (fun _ _ _ h => h) hHeld ?_
                  refine takeU (i := 6) (some 43) (.slice (some ⟨g, 0, none⟩) Z.length cv) (by kernel_rfl) (by kernel_rfl) (by kernel_rfl) (by kernel_rfl) (by kernel_rfl) (fun _ => by kernel_rfl) (fun _ _ _ h => h) hHeld ?_
                  refine takeU (i := 7) (some 44) (.int .i64 0) (by kernel_rfl) (by kernel_rfl) (by kernel_rfl) (by kernel_rfl) (by kernel_rfl) (fun _ => by kernel_rfl) (fun _ _ _ h => h) hHeld ?_
                  refine wpAnyH_take (i := 8) (oi := { dst := some 45, op := Go.Op.slice 22 (Go.Operand.tmp 43) (some (Go.Operand.tmp 44)) none none, type := 22, pos := "ref.go:337", after := #[{ on := 6, ground := Go.Ground.data }, { on := 7, ground := Go.Ground.data }], guard := none }) (v := .slice (some ⟨g, 0, none⟩) Z.length cv) rfl (by kernel_rfl) (by kernel_rfl) (by kernel_rfl) (fun _ _ _ h => h) (.inl ⟨by kernel_rfl, fun w9 h9 => by
                    clear hHeld h9
                    go_simp <;> (intro hcj; exfalso; omega)⟩) hHeld ?_
                  try simp only [Act.put, List.setIfInBounds_toArray, List.set_cons_zero, List.set_cons_succ]
                  refine wpAnyH_ready (rs := [5]) (by kernel_rfl) (by simp) ?_
                  refine AllReadyH.cons (o := { dst := some 42, op := Go.Op.buildSlice 22 1 #[(0, Go.Operand.tmp 41)], type := 22, pos := "ref.go:337", after := #[{ on := 4, ground := Go.Ground.data }], guard := none }) rfl (fun K hK => ?_) AllReadyH.nil
                  go_simp
                  refine hK.out _ _ (hHeld.alloc (Nat.le_refl _) _) (fun hHeld => ?_)
                  clear hK K
                  try simp only [Act.put, List.setIfInBounds_toArray, List.set_cons_zero, List.set_cons_succ]
                  try simp only [Act.put, List.setIfInBounds_toArray, List.set_cons_zero, List.set_cons_succ]
                  refine wpAnyH_ready (rs := [9]) (by kernel_rfl) (by simp) ?_
                  refine AllReadyH.cons (o := { dst := some 46, op := Go.Op.call { callee := Go.Callee.builtin Go.Builtin.append, args := #[Go.Operand.tmp 42, Go.Operand.tmp 45], argTypes := #[22, 22] }, type := 22, pos := "ref.go:337", after := #[{ on := 5, ground := Go.Ground.data }, { on := 8, ground := Go.Ground.data }], guard := none }) rfl (fun K hK => ?_) AllReadyH.nil
                  have hown0 : (ws.drew.alloc (.cells #[.int .i64 ho] 3)).ownsRow ws.heap.size 3 1 (.slice (some ⟨ws.heap.size, 0, none⟩) 1 1) 1 [.int .i64 ho] := ⟨rfl, .inr ⟨ws.heap.size, 1, #[.int .i64 ho], rfl, Nat.le_refl _, heap_alloc_new _ _, Nat.le_refl 1, by decide, rfl, rfl⟩⟩
                  have hnw : ∀ (j9 : Nat) (u : Value), (clI (Z.drop 0))[j9]? = some u → (ws.drew.alloc (.cells #[.int .i64 ho] 3)).cell? ((⟨g, 0, none⟩ : Addr).add j9) = some u := fun j9 u hu => by
                    have hjl : j9 < (Z.length - 0) * 1 := by
                      have := (List.getElem?_eq_some_iff.1 hu).1
                      rw [cI_len, List.length_drop] at this
                      exact this
                    rw [← cI_drop, List.getElem?_drop] at hu
                    rw [Addr.add_lit]
                    refine (hHeld.cell (p := ⟨g, 0 + j9, none⟩) hgz).trans ?_
                    have h9 := World.ownsRow.cellAt HRs.out (0 * 1 + j9) (by have := HE0.out; omega)
                    rw [Nat.zero_mul] at h9 hu
                    exact h9.trans hu
                  refine step_append_lies _ (by rfl) _ _ _ (by rfl) ws.heap.size 3 n0 _ 1 8 Tryz.underlying22 hi hz0 hz1 hz2 rfl (by decide) (.slice (some ⟨ws.heap.size, 0, none⟩) 1 1) 1 [.int .i64 ho] (by rfl) hown0 ⟨g, 0, none⟩ Z.length cv (clI (Z.drop 0)) (by rfl) (by rw [cI_len, List.length_drop] <;> rfl) hnw (cI_one _) (by have := HE0.out; omega) (by unfold maxLen; omega) (by omega) (by simp) _ rfl ?_
                  intro g6 c6 w6 hown6 hgrow6 hat6 hlt6
                  refine hK.out _ _ (hHeld.grown hgrow6 (by simp) (fun z hz => owns_blockI hown0 hz)) (fun hHeld => ?_)
                  clear hK K hgrow6 hat6 hlt6 hnw
                  try simp only [Act.put, List.setIfInBounds_toArray, List.set_cons_zero, List.set_cons_succ]
                  try simp only [Act.put, List.setIfInBounds_toArray, List.set_cons_zero, List.set_cons_succ]
                  refine wpAnyH_ready (rs := [10]) (by kernel_rfl) (by simp) ?_
                  refine AllReadyH.cons (o := { dst := some 47, op := Go.Op.call { callee := Go.Callee.builtin Go.Builtin.append, args := #[Go.Operand.tmp 40, Go.Operand.tmp 46], argTypes := #[22, 22] }, type := 22, pos := "ref.go:337", after := #[{ on := 3, ground := Go.Ground.data }, { on := 9, ground := Go.Ground.data }, { on := 9, ground := Go.Ground.chain }], guard := none }) rfl (fun K hK => ?_) AllReadyH.nil
                  refine step_append_grows (by rfl) _ _ 22 (by rfl) 3 n0 _ 1 8 Tryz.underlying22 hi hz0 hz1 hz2 rfl (by decide) (some ⟨g, 0, none⟩) 0 0 (clI (Z.take 0)) (by rfl) (fun e => by cases e) (by rw [cI_len, List.length_take]; omega) (fun b hb j9 u hu => by simp [clI] at hu) ⟨g6, 0, none⟩ (1 + Z.length) c6 ([.int .i64 ho] ++ clI (Z.drop 0)) (by rfl) hown6.1 (fun j9 u hu => by
                    have hjl : j9 < (1 + Z.length) * 1 := by rw [← hown6.1]; exact (List.getElem?_eq_some_iff.1 hu).1
                    rw [Addr.add_lit, Nat.zero_add]; exact (World.ownsRow.cellAt hown6 j9 hjl).trans hu) (by exact cI_one (ho :: Z.drop 0)) (by omega) (by unfold maxLen; omega) (by omega) ?_
                  intro v7 w7 hown7 hgrow7
                  obtain ⟨g7, c7, rfl, hg7, hl7⟩ := World.ownsRow.form hown7 (by omega)
                  have HO7 := Lib.hid (owns_baseI hown7 (base' := b0) (Nat.le_trans hsB hHeld.size))
                  refine hK.out _ _ (hHeld.grown hgrow7 hHeld.size (fun z hz => by cases hz)) (fun hHeld => ?_)
                  clear hK K hown7 hgrow7
                  try simp only [Act.put, List.setIfInBounds_toArray, List.set_cons_zero, List.set_cons_succ]
                  refine takeU (i := 11) (some 4) (.slice (some ⟨g7, 0, none⟩) (0 + (1 + Z.length)) c7) (by kernel_rfl) (by kernel_rfl) (by kernel_rfl) (by kernel_rfl) (by kernel_rfl) (fun _ => by kernel_rfl) (fun _ _ _ h => h) hHeld ?_
                  refine wpAnyH_done (by kernel_rfl) ?_ _
                  try simp only [Act.put, List.setIfInBounds_toArray, List.set_cons_zero, List.set_cons_succ]
                  have HL7 : Hid (0 + (1 + Z.length) = Z1.length) := Lib.hid (by have := HE0.out; rw [HN2.out, List.length_append, List.length_cons, List.length_take, List.length_drop]; omega)
                  have HC7 : Hid (clI (Z.take 0) ++ ([.int .i64 ho] ++ clI (Z.drop 0)) = clI Z1) := Lib.hid (by rw [HN2.out, cI_app]; rfl)
                  rw [HL7.out, HC7.out] at HO7
                  go_wp2_with fail
                  all_goals
                    go_ret
                    rw [HZr.out]
                    exact ⟨some ⟨g7, 0, none⟩, c7, by rw [HL7.out] <;> rfl, by first | exact HO7.out | (rw [HL7.out]; exact HO7.out), hbs0.trans (hHeld.mono hbs0.size)⟩
              · by_cases hE0 : Z.length - j = 0
                · have HE0 := Lib.hid hE0
                  clear hE0
                  refine wp_region_held_drew (S := fun w' => Below ws.heap.size ws w') (by kernel_rfl) ((Below.refl _ _).drew) (fun hHeld => ?_)
                  refine takeU (i := 0) (some 37) (.slice (some ⟨g, 0, none⟩) Z.length cv) (by kernel_rfl) (by kernel_rfl) (by kernel_rfl) (by kernel_rfl) (by kernel_rfl) (fun _ => by kernel_rfl) (fun _ _ _ h => h) hHeld ?_
                  refine takeU (i := 1) (some 38) (.int .i64 j) (by kernel_rfl) (by kernel_rfl) (by kernel_rfl) (by kernel_rfl) (by kernel_rfl) (fun _ => by kernel_rfl) (fun _ _ _ h => h) hHeld ?_
                  refine takeU (i := 2) (some 39) (.int .i64 j) (by kernel_rfl) (by kernel_rfl) (by kernel_rfl) (by kernel_rfl) (by kernel_rfl) (fun _ => by kernel_rfl) (fun _ _ _ h => h) hHeld ?_
                  refine wpAnyH_take (i := 3) (oi := { dst := some 40, op := Go.Op.slice 22 (Go.Operand.tmp 37) none (some (Go.Operand.tmp 38)) (some (Go.Operand.tmp 39)), type := 22, pos := "ref.go:337", after := #[{ on := 0, ground := Go.Ground.data }, { on := 1, ground := Go.Ground.data }, { on := 2, ground := Go.Ground.data }], guard := none }) (v := .slice (some ⟨g, 0, none⟩) j j) rfl (by kernel_rfl) (by kernel_rfl) (by kernel_rfl) (fun _ _ _ h => h) (.inl ⟨by kernel_rfl, fun w9 h9 => by
                    clear hHeld h9
                    go_simp <;> (intro hcj; exfalso; omega)⟩) hHeld ?_
                  refine takeU (i := 4) (some 41) (.int .i64 ho) (by kernel_rfl) (by kernel_rfl) (by kernel_rfl) (by kernel_rfl) (by kernel_rfl) (fun _ => by kernel_rfl) (fun _ _ _ h => h) hHeld ?_
                  refine takeU (i := 6) (some 43) (.slice (some ⟨g, 0, none⟩) Z.length cv) (by kernel_rfl) (by kernel_rfl) (by kernel_rfl) (by kernel_rfl) (by kernel_rfl) (fun _ => by kernel_rfl) (fun _ _ _ h => h) hHeld ?_
                  refine takeU (i := 7) (some 44) (.int .i64 j) (by kernel_rfl) (by kernel_rfl) (by kernel_rfl) (by kernel_rfl) (by kernel_rfl) (fun _ => by kernel_rfl) (fun _ _ _ h => h) hHeld ?_
                  refine wpAnyH_take (i := 8) (oi := { dst := some 45, op := Go.Op.slice 22 (Go.Operand.tmp 43) (some (Go.Operand.tmp 44)) none none, type := 22, pos := "ref.go:337", after := #[{ on := 6, ground := Go.Ground.data }, { on := 7, ground := Go.Ground.data }], guard := none }) (v := .slice (if cv = j then some ⟨g, 0, none⟩ else some ⟨g, j, none⟩) (Z.length - j) (cv - j)) rfl (by kernel_rfl) (by kernel_rfl) (by kernel_rfl) (fun _ _ _ h => h) (.inl ⟨by kernel_rfl, fun w9 h9 => by
                    clear hHeld h9
                    go_simp <;> (intro hcj; exfalso; omega)⟩) hHeld ?_
                  try simp only [Act.put, List.setIfInBounds_toArray, List.set_cons_zero, List.set_cons_succ]
                  refine wpAnyH_ready (rs := [5]) (by kernel_rfl) (by simp) ?_
                  refine AllReadyH.cons (o := { dst := some 42, op := Go.Op.buildSlice 22 1 #[(0, Go.Operand.tmp 41)], type := 22, pos := "ref.go:337", after := #[{ on := 4, ground := Go.Ground.data }], guard := none }) rfl (fun K hK => ?_) AllReadyH.nil
                  go_simp
                  refine hK.out _ _ (hHeld.alloc (Nat.le_refl _) _) (fun hHeld => ?_)
                  clear hK K
                  try simp only [Act.put, List.setIfInBounds_toArray, List.set_cons_zero, List.set_cons_succ]
                  try simp only [Act.put, List.setIfInBounds_toArray, List.set_cons_zero, List.set_cons_succ]
                  refine wpAnyH_ready (rs := [9]) (by kernel_rfl) (by simp) ?_
                  refine AllReadyH.cons (o := { dst := some 46, op := Go.Op.call { callee := Go.Callee.builtin Go.Builtin.append, args := #[Go.Operand.tmp 42, Go.Operand.tmp 45], argTypes := #[22, 22] }, type := 22, pos := "ref.go:337", after := #[{ on := 5, ground := Go.Ground.data }, { on := 8, ground := Go.Ground.data }], guard := none }) rfl (fun K hK => ?_) AllReadyH.nil
                  have hown0 : (ws.drew.alloc (.cells #[.int .i64 ho] 3)).ownsRow ws.heap.size 3 1 (.slice (some ⟨ws.heap.size, 0, none⟩) 1 1) 1 [.int .i64 ho] := ⟨rfl, .inr ⟨ws.heap.size, 1, #[.int .i64 ho], rfl, Nat.le_refl _, heap_alloc_new _ _, Nat.le_refl 1, by decide, rfl, rfl⟩⟩
                  refine stepZ (by rfl) _ _ 22 (by rfl) ws.heap.size 3 n0 1 Tryz.underlying22 hi (.slice (some ⟨ws.heap.size, 0, none⟩) 1 1) 1 [.int .i64 ho] (by rfl) hown0 (if cv = j then some ⟨g, 0, none⟩ else some ⟨g, j, none⟩) (Z.length - j) (cv - j) (by rfl) (by have := HE0.out; omega) ?_
                  refine hK.out _ _ hHeld (fun hHeld => ?_)
                  clear hK K
                  try simp only [Act.put, List.setIfInBounds_toArray, List.set_cons_zero, List.set_cons_succ]
                  try simp only [Act.put, List.setIfInBounds_toArray, List.set_cons_zero, List.set_cons_succ]
                  refine wpAnyH_ready (rs := [10]) (by kernel_rfl) (by simp) ?_
                  refine AllReadyH.cons (o := { dst := some 47, op := Go.Op.call { callee := Go.Callee.builtin Go.Builtin.append, args := #[Go.Operand.tmp 40, Go.Operand.tmp 46], argTypes := #[22, 22] }, type := 22, pos := "ref.go:337", after := #[{ on := 3, ground := Go.Ground.data }, { on := 9, ground := Go.Ground.data }, { on := 9, ground := Go.Ground.chain }], guard := none }) rfl (fun K hK => ?_) AllReadyH.nil
                  refine step_append_grows (by rfl) _ _ 22 (by rfl) 3 n0 _ 1 8 Tryz.underlying22 hi hz0 hz1 hz2 rfl (by decide) (some ⟨g, 0, none⟩) j j (clI (Z.take j)) (by rfl) (fun e => by cases e) (by rw [cI_len, List.length_take]; omega) (fun b hb j9 u hu => by
                    cases hb
                    rw [← cI_take, List.getElem?_take] at hu
                    split at hu
                    · rw [Addr.add_lit, Nat.zero_add]
                      exact ((hHeld.cell (p := ⟨g, j9, none⟩) hgz).trans (World.ownsRow.cellAt HRs.out j9 (by omega))).trans hu
                    · cases hu) ⟨ws.heap.size, 0, none⟩ 1 1 [.int .i64 ho] (by rfl) hown0.1 (fun j9 u hu => by
                    have hjl : j9 < 1 * 1 := by rw [← hown0.1]; exact (List.getElem?_eq_some_iff.1 hu).1
                    rw [Addr.add_lit, Nat.zero_add]; exact (World.ownsRow.cellAt hown0 j9 hjl).trans hu) (by exact cI_one [ho]) (by omega) (by unfold maxLen; omega) (by omega) ?_
                  intro v7 w7 hown7 hgrow7
                  obtain ⟨g7, c7, rfl, hg7, hl7⟩ := World.ownsRow.form hown7 (by omega)
                  have HO7 := Lib.hid (owns_baseI hown7 (base' := b0) (Nat.le_trans hsB hHeld.size))
                  refine hK.out _ _ (hHeld.grown hgrow7 hHeld.size (fun z hz => by cases hz)) (fun hHeld => ?_)
                  clear hK K hown7 hgrow7
                  try simp only [Act.put, List.setIfInBounds_toArray, List.set_cons_zero, List.set_cons_succ]
                  refine takeU (i := 11) (some 4) (.slice (some ⟨g7, 0, none⟩) (j + 1) c7) (by kernel_rfl) (by kernel_rfl) (by kernel_rfl) (by kernel_rfl) (by kernel_rfl) (fun _ => by kernel_rfl) (fun _ _ _ h => h) hHeld ?_
                  refine wpAnyH_done (by kernel_rfl) ?_ _
                  try simp only [Act.put, List.setIfInBounds_toArray, List.set_cons_zero, List.set_cons_succ]
                  have HL7 : Hid (j + 1 = Z1.length) := Lib.hid (by have := HE0.out; rw [HN2.out, List.length_append, List.length_cons, List.length_take, List.length_drop]; omega)
                  have HC7 : Hid (clI (Z.take j) ++ [.int .i64 ho] = clI Z1) := Lib.hid (by have := HE0.out; rw [HN2.out, cI_app, List.drop_of_length_le (by omega)]; rfl)
                  rw [HL7.out, HC7.out] at HO7
                  go_wp2_with fail
                  all_goals
                    go_ret
                    rw [HZr.out]
                    exact ⟨some ⟨g7, 0, none⟩, c7, by rw [HL7.out] <;> rfl, by first | exact HO7.out | (rw [HL7.out]; exact HO7.out), hbs0.trans (hHeld.mono hbs0.size)⟩
                · have hcp : ¬ cv = j := by omega
                  have HE0 := Lib.hid hE0
                  clear hE0
                  refine wp_region_held_drew (S := fun w' => Below ws.heap.size ws w') (by kernel_rfl) ((Below.refl _ _).drew) (fun hHeld => ?_)
                  refine takeU (i := 0) (some 37) (.slice (some ⟨g, 0, none⟩) Z.length cv) (by kernel_rfl) (by kernel_rfl) (by kernel_rfl) (by kernel_rfl) (by kernel_rfl) (fun _ => by kernel_rfl) (fun _ _ _ h => h) hHeld ?_
                  refine takeU (i := 1) (some 38) (.int .i64 j) (by kernel_rfl) (by kernel_rfl) (by kernel_rfl) (by kernel_rfl) (by kernel_rfl) (fun _ => by kernel_rfl) (fun _ _ _ h => h) hHeld ?_
                  refine takeU (i := 2) (some 39) (.int .i64 j) (by kernel_rfl) (by kernel_rfl) (by kernel_rfl) (by kernel_rfl) (by kernel_rfl) (fun _ => by kernel_rfl) (fun _ _ _ h => h) hHeld ?_
                  refine wpAnyH_take (i := 3) (oi := { dst := some 40, op := Go.Op.slice 22 (Go.Operand.tmp 37) none (some (Go.Operand.tmp 38)) (some (Go.Operand.tmp 39)), type := 22, pos := "ref.go:337", after := #[{ on := 0, ground := Go.Ground.data }, { on := 1, ground := Go.Ground.data }, { on := 2, ground := Go.Ground.data }], guard := none }) (v := .slice (some ⟨g, 0, none⟩) j j) rfl (by kernel_rfl) (by kernel_rfl) (by kernel_rfl) (fun _ _ _ h => h) (.inl ⟨by kernel_rfl, fun w9 h9 => by
                    clear hHeld h9
                    go_simp <;> (intro hcj; exfalso; omega)⟩) hHeld ?_
                  refine takeU (i := 4) (some 41) (.int .i64 ho) (by kernel_rfl) (by kernel_rfl) (by kernel_rfl) (by kernel_rfl) (by kernel_rfl) (fun _ => by kernel_rfl) (fun _ _ _ h => h) hHeld ?_
                  refine takeU (i := 6) (some 43) (.slice (some ⟨g, 0, none⟩) Z.length cv) (by kernel_rfl) (by kernel_rfl) (by kernel_rfl) (by kernel_rfl) (by kernel_rfl) (fun _ => by kernel_rfl) (fun _ _ _ h => h) hHeld ?_
                  refine takeU (i := 7) (some 44) (.int .i64 j) (by kernel_rfl) (by kernel_rfl) (by kernel_rfl) (by kernel_rfl) (by kernel_rfl) (fun _ => by kernel_rfl) (fun _ _ _ h => h) hHeld ?_
                  refine wpAnyH_take (i := 8) (oi := { dst := some 45, op := Go.Op.slice 22 (Go.Operand.tmp 43) (some (Go.Operand.tmp 44)) none none, type := 22, pos := "ref.go:337", after := #[{ on := 6, ground := Go.Ground.data }, { on := 7, ground := Go.Ground.data }], guard := none }) (v := .slice (some ⟨g, j, none⟩) (Z.length - j) (cv - j)) rfl (by kernel_rfl) (by kernel_rfl) (by kernel_rfl) (fun _ _ _ h => h) (.inl ⟨by kernel_rfl, fun w9 h9 => by
                    clear hHeld h9
                    go_simp <;> (intro hcj; exfalso; omega)⟩) hHeld ?_
                  try simp only [Act.put, List.setIfInBounds_toArray, List.set_cons_zero, List.set_cons_succ]
                  refine wpAnyH_ready (rs := [5]) (by kernel_rfl) (by simp) ?_
                  refine AllReadyH.cons (o := { dst := some 42, op := Go.Op.buildSlice 22 1 #[(0, Go.Operand.tmp 41)], type := 22, pos := "ref.go:337", after := #[{ on := 4, ground := Go.Ground.data }], guard := none }) rfl (fun K hK => ?_) AllReadyH.nil
                  go_simp
                  refine hK.out _ _ (hHeld.alloc (Nat.le_refl _) _) (fun hHeld => ?_)
                  clear hK K
                  try simp only [Act.put, List.setIfInBounds_toArray, List.set_cons_zero, List.set_cons_succ]
                  try simp only [Act.put, List.setIfInBounds_toArray, List.set_cons_zero, List.set_cons_succ]
                  refine wpAnyH_ready (rs := [9]) (by kernel_rfl) (by simp) ?_
                  refine AllReadyH.cons (o := { dst := some 46, op := Go.Op.call { callee := Go.Callee.builtin Go.Builtin.append, args := #[Go.Operand.tmp 42, Go.Operand.tmp 45], argTypes := #[22, 22] }, type := 22, pos := "ref.go:337", after := #[{ on := 5, ground := Go.Ground.data }, { on := 8, ground := Go.Ground.data }], guard := none }) rfl (fun K hK => ?_) AllReadyH.nil
                  have hown0 : (ws.drew.alloc (.cells #[.int .i64 ho] 3)).ownsRow ws.heap.size 3 1 (.slice (some ⟨ws.heap.size, 0, none⟩) 1 1) 1 [.int .i64 ho] := ⟨rfl, .inr ⟨ws.heap.size, 1, #[.int .i64 ho], rfl, Nat.le_refl _, heap_alloc_new _ _, Nat.le_refl 1, by decide, rfl, rfl⟩⟩
                  have hnw : ∀ (j9 : Nat) (u : Value), (clI (Z.drop j))[j9]? = some u → (ws.drew.alloc (.cells #[.int .i64 ho] 3)).cell? ((⟨g, j, none⟩ : Addr).add j9) = some u := fun j9 u hu => by
                    have hjl : j9 < (Z.length - j) * 1 := by
                      have := (List.getElem?_eq_some_iff.1 hu).1
                      rw [cI_len, List.length_drop] at this
                      exact this
                    rw [← cI_drop, List.getElem?_drop] at hu
                    rw [Addr.add_lit]
                    refine (hHeld.cell (p := ⟨g, j + j9, none⟩) hgz).trans ?_
                    have h9 := World.ownsRow.cellAt HRs.out (j * 1 + j9) (by have := HE0.out; omega)
                    rw [Nat.mul_one] at h9 hu
                    exact h9.trans hu
                  refine step_append_lies _ (by rfl) _ _ _ (by rfl) ws.heap.size 3 n0 _ 1 8 Tryz.underlying22 hi hz0 hz1 hz2 rfl (by decide) (.slice (some ⟨ws.heap.size, 0, none⟩) 1 1) 1 [.int .i64 ho] (by rfl) hown0 ⟨g, j, none⟩ (Z.length - j) (cv - j) (clI (Z.drop j)) (by rfl) (by rw [cI_len, List.length_drop] <;> rfl) hnw (cI_one _) (by have := HE0.out; omega) (by unfold maxLen; omega) (by omega) (by simp) _ rfl ?_
                  intro g6 c6 w6 hown6 hgrow6 hat6 hlt6
                  refine hK.out _ _ (hHeld.grown hgrow6 (by simp) (fun z hz => owns_blockI hown0 hz)) (fun hHeld => ?_)
                  clear hK K hgrow6 hat6 hlt6 hnw
                  try simp only [Act.put, List.setIfInBounds_toArray, List.set_cons_zero, List.set_cons_succ]
                  try simp only [Act.put, List.setIfInBounds_toArray, List.set_cons_zero, List.set_cons_succ]
                  refine wpAnyH_ready (rs := [10]) (by kernel_rfl) (by simp) ?_
                  refine AllReadyH.cons (o := { dst := some 47, op := Go.Op.call { callee := Go.Callee.builtin Go.Builtin.append, args := #[Go.Operand.tmp 40, Go.Operand.tmp 46], argTypes := #[22, 22] }, type := 22, pos := "ref.go:337", after := #[{ on := 3, ground := Go.Ground.data }, { on := 9, ground := Go.Ground.data }, { on := 9, ground := Go.Ground.chain }], guard := none }) rfl (fun K hK => ?_) AllReadyH.nil
                  refine step_append_grows (by rfl) _ _ 22 (by rfl) 3 n0 _ 1 8 Tryz.underlying22 hi hz0 hz1 hz2 rfl (by decide) (some ⟨g, 0, none⟩) j j (clI (Z.take j)) (by rfl) (fun e => by cases e) (by rw [cI_len, List.length_take]; omega) (fun b hb j9 u hu => by
                    cases hb
                    rw [← cI_take, List.getElem?_take] at hu
                    split at hu
                    · rw [Addr.add_lit, Nat.zero_add]
                      exact ((hHeld.cell (p := ⟨g, j9, none⟩) hgz).trans (World.ownsRow.cellAt HRs.out j9 (by omega))).trans hu
                    · cases hu) ⟨g6, 0, none⟩ (1 + (Z.length - j)) c6 ([.int .i64 ho] ++ clI (Z.drop j)) (by rfl) hown6.1 (fun j9 u hu => by
                    have hjl : j9 < (1 + (Z.length - j)) * 1 := by rw [← hown6.1]; exact (List.getElem?_eq_some_iff.1 hu).1
                    rw [Addr.add_lit, Nat.zero_add]; exact (World.ownsRow.cellAt hown6 j9 hjl).trans hu) (by exact cI_one (ho :: Z.drop j)) (by omega) (by unfold maxLen; omega) (by omega) ?_
                  intro v7 w7 hown7 hgrow7
                  obtain ⟨g7, c7, rfl, hg7, hl7⟩ := World.ownsRow.form hown7 (by omega)
                  have HO7 := Lib.hid (owns_baseI hown7 (base' := b0) (Nat.le_trans hsB hHeld.size))
                  refine hK.out _ _ (hHeld.grown hgrow7 hHeld.size (fun z hz => by cases hz)) (fun hHeld => ?_)
                  clear hK K hown7 hgrow7
                  try simp only [Act.put, List.setIfInBounds_toArray, List.set_cons_zero, List.set_cons_succ]
                  refine takeU (i := 11) (some 4) (.slice (some ⟨g7, 0, none⟩) (j + (1 + (Z.length - j))) c7) (by kernel_rfl) (by kernel_rfl) (by kernel_rfl) (by kernel_rfl) (by kernel_rfl) (fun _ => by kernel_rfl) (fun _ _ _ h => h) hHeld ?_
                  refine wpAnyH_done (by kernel_rfl) ?_ _
                  try simp only [Act.put, List.setIfInBounds_toArray, List.set_cons_zero, List.set_cons_succ]
                  have HL7 : Hid (j + (1 + (Z.length - j)) = Z1.length) := Lib.hid (by have := HE0.out; rw [HN2.out, List.length_append, List.length_cons, List.length_take, List.length_drop]; omega)
                  have HC7 : Hid (clI (Z.take j) ++ ([.int .i64 ho] ++ clI (Z.drop j)) = clI Z1) := Lib.hid (by rw [HN2.out, cI_app]; rfl)
                  rw [HL7.out, HC7.out] at HO7
                  go_wp2_with fail
                  all_goals
                    go_ret
                    rw [HZr.out]
                    exact ⟨some ⟨g7, 0, none⟩, c7, by rw [HL7.out] <;> rfl, by first | exact HO7.out | (rw [HL7.out]; exact HO7.out), hbs0.trans (hHeld.mono hbs0.size)⟩
end Go.Proofs.YtjoffnbpaebgjaaGreat

namespace Go.Proofs.YtjoffnbpaebgjaaGreat
set_option linter.unusedVariables false
set_option linter.unusedSimpArgs false
open Go.RowKit

/-- Hours put one after the other. -/
def fH (P : List Int) : List Int := P.foldl putH []
theorem fH_snoc (P : List Int) (x : Int) : fH (P ++ [x]) = putH (fH P) x := by unfold fH; rw [List.foldl_append]; rfl
theorem fH_len (P : List Int) : (fH P).length ≤ P.length := by have := fold_len P []; unfold fH; simpa using this
theorem fH_two (P : List Int) (x y : Int) : fH (P ++ [x, y]) = putH (putH (fH P) x) y := by
  rw [show P ++ [x, y] = (P ++ [x]) ++ [y] by simp, fH_snoc, fH_snoc]
set_option linter.unnecessarySimpa false
set_option maxRecDepth 100000 in
set_option maxHeartbeats 4000000 in
theorem refMoments_r (aa : Option Addr) (l : List Sgn) (cl : Nat) (ae : Option Addr) (q : List Edc) (cq : Nat) (hl : l.length ≤ 100) (hcv : ∀ i, i < l.length → (gs l i).cv.length ≤ 10) (hq : q.length ≤ 50) (w : World) (hA : SgnS w aa l) (hE : EdS w ae q) :
    Calls Tryz.prog 13 #[.slice aa l.length cl, .slice ae q.length cq] w (MomE (momL l q) w) := by
  obtain ⟨hlen, blk, off, ad, cp, hadr, hc⟩ := hA
  obtain ⟨hlen2, blk2, off2, hadr2, hc2⟩ := hE
  have HC := Lib.hid hc
  have HL : Hid (0 < l.length → aa = some ⟨blk, off, none⟩) := Lib.hid fun h => hadr (List.ne_nil_of_length_pos h)
  have HC2 := Lib.hid hc2
  have HL2 : Hid (0 < q.length → ae = some ⟨blk2, off2, none⟩) := Lib.hid fun h => hadr2 (List.ne_nil_of_length_pos h)
  have HV := Lib.hid hcv
  have HLL := Lib.hid hl
  have HQL := Lib.hid hq
  have HSL := Lib.hid (fun k hk => hrS_len hcv k hk)
  clear hadr hc hadr2 hc2 hcv hlen hlen2
  go_enter Tryz.func13, Tryz.ntmps13
  go_wp2_with fail
  go_loopw [5, 6] (fun v i wr => ∃ (k : Nat) (av : Option Addr) (cv : Nat), k ≤ l.length ∧ i = .int .i64 k ∧ v = .slice av (fH (hrS l k)).length cv ∧ Hid (wr.ownsRow w.heap.size 3 1 (.slice av (fH (hrS l k)).length cv) (fH (hrS l k)).length (clI (fH (hrS l k)))) ∧ Below w.heap.size w wr) (fun _ i _ => l.length - (intOf i).toNat)
  case atStart => exact ⟨0, none, 0, Nat.zero_le _, rfl, rfl, Lib.hid (World.ownsRow_nil _ _ _ _), Below.refl _ _⟩
  case round =>
    obtain ⟨k, av, cv, hk, rfl, rfl, HRow, hbr⟩ := hrel
    by_cases hlt : k < l.length
    · obtain rfl := HL.out (by omega)
      obtain ⟨⟨c0, c1, c2, c3, c4, c5, c6, c7⟩, c8, hP⟩ := HC.out k hlt
      have C8 := Lib.hid c8
      replace c6 := cell_below c6 hbr
      replace c7 := cell_below c7 hbr
      have hcl := HV.out k hlt
      have HSx : Hid (hrS l (k + 1) = (hrS l k ++ [(gs l k).up, (gs l k).dn]) ++ hrC (gs l k).cv (gs l k).cv.length) := Lib.hid rfl
      have hsl := HSL.out k hk
      clear HC HL HV HC2 HL2 c0 c1 c2 c3 c4 c5 c8 HSL
      generalize ad k = adk at *
      generalize cp k = cpk at *
      generalize gs l k = x at *
      obtain ⟨up, hup⟩ : ∃ u, x.up = u := ⟨_, rfl⟩
      obtain ⟨dn, hdn⟩ : ∃ u, x.dn = u := ⟨_, rfl⟩
      obtain ⟨ct, hct⟩ : ∃ u, x.cv = u := ⟨_, rfl⟩
      rw [hup] at c6 HSx
      rw [hdn] at c7 HSx
      rw [hct] at C8 hP hcl HSx
      clear hup hdn hct
      obtain ⟨hpl, -, pb, po, hpa, hpc⟩ := hP
      have HPC := Lib.hid hpc
      have HPA : Hid (0 < ct.length → adk = some ⟨pb, po, none⟩) := Lib.hid fun h => hpa (List.ne_nil_of_length_pos h)
      clear hpa hpc
      have hki : (k : Int) < (l.length : Int) := by omega
      go_upto_region 5 with (fail)
      have hz6 := block_lt c6
      have hz7 := block_lt c7
      have hPl : (hrS l k).length ≤ 90000 := by omega
      obtain ⟨Z, hZ⟩ : ∃ Z, fH (hrS l k) = Z := ⟨_, rfl⟩
      have hZl : Z.length ≤ 90000 := by have := fH_len (hrS l k); rw [hZ] at this; omega
      have HZe := Lib.hid hZ
      rw [hZ] at HRow ⊢
      clear hZ hPl
      replace hZl : Z.length ≤ 99000 := by omega
      refine wp_region_held_drew (S := fun w' => Below wr.heap.size wr w') (by kernel_rfl) ((Below.refl _ _).drew) (fun hHeld => ?_)
      refine takeU (i := 0) (some 15) (.slice av Z.length cv) (by kernel_rfl) (by kernel_rfl) (by kernel_rfl) (by kernel_rfl) (by kernel_rfl) (fun _ => by kernel_rfl) (fun _ _ _ h => h) hHeld ?_
      refine takeU (i := 1) (some 16) (.slice (some ⟨blk, off, none⟩) l.length cl) (by kernel_rfl) (by kernel_rfl) (by kernel_rfl) (by kernel_rfl) (by kernel_rfl) (fun _ => by kernel_rfl) (fun _ _ _ h => h) hHeld ?_
      refine takeU (i := 2) (some 17) (.int .i64 k) (by kernel_rfl) (by kernel_rfl) (by kernel_rfl) (by kernel_rfl) (by kernel_rfl) (fun _ => by kernel_rfl) (fun _ _ _ h => h) hHeld ?_
      refine wpAnyH_take (i := 3) (oi := { dst := some 18, op := Go.Op.indexAddr 25 (Go.Operand.tmp 16) (Go.Operand.tmp 17), type := 0, pos := "ref.go:344", after := #[{ on := 1, ground := Go.Ground.data }, { on := 2, ground := Go.Ground.data }], guard := none }) (v := .pointer (some ⟨blk, off + k * 9, none⟩)) rfl (by kernel_rfl) (by kernel_rfl) (by kernel_rfl) (fun _ _ _ h => h) (.inl ⟨by kernel_rfl, fun w9 h9 => by
        clear hHeld h9
        go_simp⟩) hHeld ?_
      refine takeU (i := 4) (some 19) (.pointer (some ⟨blk, off + k * 9 + 6, none⟩)) (by kernel_rfl) (by kernel_rfl) (by kernel_rfl) (by kernel_rfl) (by kernel_rfl) (fun _ => by kernel_rfl) (fun _ _ _ h => h) hHeld ?_
      refine wpAnyH_take (i := 5) (oi := { dst := some 20, op := Go.Op.load 3 (Go.Operand.tmp 19), type := 3, pos := "ref.go:344", after := #[{ on := 4, ground := Go.Ground.data }], guard := none }) (v := .int .i64 up) rfl (by kernel_rfl) (by kernel_rfl) (by kernel_rfl) (fun _ _ _ h => h) (.inl ⟨by kernel_rfl, fun w9 h9 => by
        clear hHeld
        have d0 := (h9.cell (p := ⟨blk, off + k * 9 + 6, none⟩) hz6).trans c6
        clear h9
        go_simp⟩) hHeld ?_
      refine takeU (i := 7) (some 22) (.slice (some ⟨blk, off, none⟩) l.length cl) (by kernel_rfl) (by kernel_rfl) (by kernel_rfl) (by kernel_rfl) (by kernel_rfl) (fun _ => by kernel_rfl) (fun _ _ _ h => h) hHeld ?_
      refine takeU (i := 8) (some 23) (.int .i64 k) (by kernel_rfl) (by kernel_rfl) (by kernel_rfl) (by kernel_rfl) (by kernel_rfl) (fun _ => by kernel_rfl) (fun _ _ _ h => h) hHeld ?_
      refine wpAnyH_take (i := 9) (oi := { dst := some 24, op := Go.Op.indexAddr 25 (Go.Operand.tmp 22) (Go.Operand.tmp 23), type := 0, pos := "ref.go:344", after := #[{ on := 7, ground := Go.Ground.data }, { on := 8, ground := Go.Ground.data }], guard := none }) (v := .pointer (some ⟨blk, off + k * 9, none⟩)) rfl (by kernel_rfl) (by kernel_rfl) (by kernel_rfl) (fun _ _ _ h => h) (.inl ⟨by kernel_rfl, fun w9 h9 => by
        clear hHeld h9
        go_simp⟩) hHeld ?_
      refine takeU (i := 10) (some 25) (.pointer (some ⟨blk, off + k * 9 + 7, none⟩)) (by kernel_rfl) (by kernel_rfl) (by kernel_rfl) (by kernel_rfl) (by kernel_rfl) (fun _ => by kernel_rfl) (fun _ _ _ h => h) hHeld ?_
      refine wpAnyH_take (i := 11) (oi := { dst := some 26, op := Go.Op.load 3 (Go.Operand.tmp 25), type := 3, pos := "ref.go:344", after := #[{ on := 10, ground := Go.Ground.data }], guard := none }) (v := .int .i64 dn) rfl (by kernel_rfl) (by kernel_rfl) (by kernel_rfl) (fun _ _ _ h => h) (.inl ⟨by kernel_rfl, fun w9 h9 => by
        clear hHeld
        have d0 := (h9.cell (p := ⟨blk, off + k * 9 + 7, none⟩) hz7).trans c7
        clear h9
        go_simp⟩) hHeld ?_
      try simp only [Act.put, List.setIfInBounds_toArray, List.set_cons_zero, List.set_cons_succ]
      refine wpAnyH_ready (rs := [6]) (by kernel_rfl) (by simp) ?_
      refine AllReadyH.cons (o := { dst := some 21, op := Go.Op.call { callee := Go.Callee.value (Go.Operand.func 38), args := #[Go.Operand.tmp 15, Go.Operand.tmp 20], argTypes := #[22, 3] }, type := 22, pos := "ref.go:344", after := #[{ on := 0, ground := Go.Ground.data }, { on := 5, ground := Go.Ground.data }], guard := none }) rfl (fun K hK => ?_) AllReadyH.nil
      go_simp
      go_at_call 38
      refine (refPut_r w.heap.size av Z cv up _ (by omega) (Nat.le_trans hbr.size hHeld.size) (owns_belowI HRow.out hHeld)).mono ?_
      rintro e w69 ⟨a7, d7, rfl, ho7, hb69⟩
      have HO7 := Lib.hid ho7
      clear ho7
      refine hK.out _ _ (hHeld.trans (hb69.mono hHeld.size)) (fun hHeld => ?_)
      clear hK K hb69
      try simp only [Act.put, List.setIfInBounds_toArray, List.set_cons_zero, List.set_cons_succ]
      try simp only [Act.put, List.setIfInBounds_toArray, List.set_cons_zero, List.set_cons_succ]
      refine wpAnyH_ready (rs := [12]) (by kernel_rfl) (by simp) ?_
      refine AllReadyH.cons (o := { dst := some 27, op := Go.Op.call { callee := Go.Callee.value (Go.Operand.func 38), args := #[Go.Operand.tmp 21, Go.Operand.tmp 26], argTypes := #[22, 3] }, type := 22, pos := "ref.go:344", after := #[{ on := 6, ground := Go.Ground.data }, { on := 11, ground := Go.Ground.data }, { on := 6, ground := Go.Ground.chain }], guard := none }) rfl (fun K hK => ?_) AllReadyH.nil
      go_simp
      go_at_call 38
      refine (refPut_r w.heap.size a7 (putH Z up) d7 dn _ (by have := putH_len Z up; omega) (Nat.le_trans hbr.size hHeld.size) HO7.out).mono ?_
      rintro e w129 ⟨a8, d8, rfl, ho8, hb129⟩
      have HO8 := Lib.hid ho8
      clear ho8 HO7
      refine hK.out _ _ (hHeld.trans (hb129.mono hHeld.size)) (fun hHeld => ?_)
      clear hK K hb129
      try simp only [Act.put, List.setIfInBounds_toArray, List.set_cons_zero, List.set_cons_succ]
      refine takeU (i := 13) (some 5) (.slice a8 (putH (putH Z up) dn).length d8) (by kernel_rfl) (by kernel_rfl) (by kernel_rfl) (by kernel_rfl) (by kernel_rfl) (fun _ => by kernel_rfl) (fun _ _ _ h => h) hHeld ?_
      refine wpAnyH_done (by kernel_rfl) ?_ _
      try simp only [Act.put, List.setIfInBounds_toArray, List.set_cons_zero, List.set_cons_succ]
      have HO9 : Hid ((w129.ownsRow w.heap.size 3 1 (.slice a8 (fH (hrS l k ++ [up, dn])).length d8) (fH (hrS l k ++ [up, dn])).length (clI (fH (hrS l k ++ [up, dn]))))) := Lib.hid (by rw [fH_two, HZe.out]; exact HO8.out)
      have HZ2 : Hid (putH (putH Z up) dn = fH (hrS l k ++ [up, dn])) := Lib.hid (by rw [fH_two, HZe.out])
      have hb9 := hbr.trans (hHeld.mono hbr.size)
      rw [HZ2.out]
      clear HO8 HZ2 hHeld hbr HRow c6 c7 hz6 hz7 HZe hZl
      go_wp2_with fail
      go_loopw [5, 7] (fun v i wr => ∃ (j : Nat) (av : Option Addr) (cv : Nat), j ≤ ct.length ∧ i = .int .i64 j ∧ v = .slice av (fH ((hrS l k ++ [up, dn]) ++ hrC ct j)).length cv ∧ Hid (wr.ownsRow w.heap.size 3 1 (.slice av (fH ((hrS l k ++ [up, dn]) ++ hrC ct j)).length cv) (fH ((hrS l k ++ [up, dn]) ++ hrC ct j)).length (clI (fH ((hrS l k ++ [up, dn]) ++ hrC ct j)))) ∧ Below w.heap.size w wr) (fun _ i _ => ct.length - (intOf i).toNat)
      case atStart => exact ⟨0, a8, d8, Nat.zero_le _, rfl, by simp [hrC], Lib.hid (by simpa [hrC] using HO9.out), hb9⟩
      case round =>
        obtain ⟨j, av, cv, hj, rfl, rfl, HRow, hbr⟩ := hrel
        have c8 := cell_below C8.out hbr
        by_cases hjl : j < ct.length
        · obtain rfl := HPA.out (by omega)
          obtain ⟨c0, c1⟩ := HPC.out j hjl
          replace c0 := cell_below c0 hbr
          replace c1 := cell_below c1 hbr
          have HSj : Hid (((hrS l k ++ [up, dn]) ++ hrC ct (j + 1)) = ((hrS l k ++ [up, dn]) ++ hrC ct j) ++ [(gp ct j).1, (gp ct j).2]) := Lib.hid (by rw [hrC]; simp only [List.append_assoc])
          clear HPA HPC HSx
          generalize (gp ct j).1 = p1 at *
          generalize (gp ct j).2 = p2 at *
          have hji : (j : Int) < (ct.length : Int) := by omega
          go_upto_region 9 with (fail)
          have hz8 := block_lt c8
          have hz0 := block_lt c0
          have hz1 := block_lt c1
          have hPl : ((hrS l k ++ [up, dn]) ++ hrC ct j).length ≤ 90000 := by rw [List.length_append, List.length_append, hrC_len]; simp; omega
          obtain ⟨Z, hZ⟩ : ∃ Z, fH ((hrS l k ++ [up, dn]) ++ hrC ct j) = Z := ⟨_, rfl⟩
          have hZl : Z.length ≤ 90000 := by have := fH_len ((hrS l k ++ [up, dn]) ++ hrC ct j); rw [hZ] at this; omega
          have HZe := Lib.hid hZ
          rw [hZ] at HRow ⊢
          clear hZ hPl
          replace hZl : Z.length ≤ 99000 := by omega
          refine wp_region_held_drew (S := fun w' => Below wr.heap.size wr w') (by kernel_rfl) ((Below.refl _ _).drew) (fun hHeld => ?_)
          refine takeU (i := 0) (some 38) (.slice av Z.length cv) (by kernel_rfl) (by kernel_rfl) (by kernel_rfl) (by kernel_rfl) (by kernel_rfl) (fun _ => by kernel_rfl) (fun _ _ _ h => h) hHeld ?_
          refine takeU (i := 1) (some 39) (.slice (some ⟨blk, off, none⟩) l.length cl) (by kernel_rfl) (by kernel_rfl) (by kernel_rfl) (by kernel_rfl) (by kernel_rfl) (fun _ => by kernel_rfl) (fun _ _ _ h => h) hHeld ?_
          refine takeU (i := 2) (some 40) (.int .i64 k) (by kernel_rfl) (by kernel_rfl) (by kernel_rfl) (by kernel_rfl) (by kernel_rfl) (fun _ => by kernel_rfl) (fun _ _ _ h => h) hHeld ?_
          refine wpAnyH_take (i := 3) (oi := { dst := some 41, op := Go.Op.indexAddr 25 (Go.Operand.tmp 39) (Go.Operand.tmp 40), type := 0, pos := "ref.go:346", after := #[{ on := 1, ground := Go.Ground.data }, { on := 2, ground := Go.Ground.data }], guard := none }) (v := .pointer (some ⟨blk, off + k * 9, none⟩)) rfl (by kernel_rfl) (by kernel_rfl) (by kernel_rfl) (fun _ _ _ h => h) (.inl ⟨by kernel_rfl, fun w9 h9 => by
            clear hHeld h9
            go_simp⟩) hHeld ?_
          refine takeU (i := 4) (some 42) (.pointer (some ⟨blk, off + k * 9 + 8, none⟩)) (by kernel_rfl) (by kernel_rfl) (by kernel_rfl) (by kernel_rfl) (by kernel_rfl) (fun _ => by kernel_rfl) (fun _ _ _ h => h) hHeld ?_
          refine wpAnyH_take (i := 5) (oi := { dst := some 43, op := Go.Op.load 56 (Go.Operand.tmp 42), type := 56, pos := "ref.go:346", after := #[{ on := 4, ground := Go.Ground.data }], guard := none }) (v := .slice (some ⟨pb, po, none⟩) ct.length cpk) rfl (by kernel_rfl) (by kernel_rfl) (by kernel_rfl) (fun _ _ _ h => h) (.inl ⟨by kernel_rfl, fun w9 h9 => by
            clear hHeld
            have d0 := (h9.cell (p := ⟨blk, off + k * 9 + 8, none⟩) hz8).trans c8
            clear h9
            go_simp⟩) hHeld ?_
          refine takeU (i := 6) (some 44) (.int .i64 j) (by kernel_rfl) (by kernel_rfl) (by kernel_rfl) (by kernel_rfl) (by kernel_rfl) (fun _ => by kernel_rfl) (fun _ _ _ h => h) hHeld ?_
          refine wpAnyH_take (i := 7) (oi := { dst := some 45, op := Go.Op.indexAddr 56 (Go.Operand.tmp 43) (Go.Operand.tmp 44), type := 0, pos := "ref.go:346", after := #[{ on := 5, ground := Go.Ground.data }, { on := 6, ground := Go.Ground.data }], guard := none }) (v := .pointer (some ⟨pb, po + j * 2, none⟩)) rfl (by kernel_rfl) (by kernel_rfl) (by kernel_rfl) (fun _ _ _ h => h) (.inl ⟨by kernel_rfl, fun w9 h9 => by
            clear hHeld h9
            go_simp⟩) hHeld ?_
          refine takeU (i := 8) (some 46) (.pointer (some ⟨pb, po + j * 2, none⟩)) (by kernel_rfl) (by kernel_rfl) (by kernel_rfl) (by kernel_rfl) (by kernel_rfl) (fun _ => by kernel_rfl) (fun _ _ _ h => h) hHeld ?_
          refine wpAnyH_take (i := 9) (oi := { dst := some 47, op := Go.Op.load 3 (Go.Operand.tmp 46), type := 3, pos := "ref.go:346", after := #[{ on := 8, ground := Go.Ground.data }], guard := none }) (v := .int .i64 p1) rfl (by kernel_rfl) (by kernel_rfl) (by kernel_rfl) (fun _ _ _ h => h) (.inl ⟨by kernel_rfl, fun w9 h9 => by
            clear hHeld
            have d0 := (h9.cell (p := ⟨pb, po + j * 2, none⟩) hz0).trans c0
            clear h9
            go_simp⟩) hHeld ?_
          refine takeU (i := 11) (some 49) (.slice (some ⟨blk, off, none⟩) l.length cl) (by kernel_rfl) (by kernel_rfl) (by kernel_rfl) (by kernel_rfl) (by kernel_rfl) (fun _ => by kernel_rfl) (fun _ _ _ h => h) hHeld ?_
          refine takeU (i := 12) (some 50) (.int .i64 k) (by kernel_rfl) (by kernel_rfl) (by kernel_rfl) (by kernel_rfl) (by kernel_rfl) (fun _ => by kernel_rfl) (fun _ _ _ h => h) hHeld ?_
          refine wpAnyH_take (i := 13) (oi := { dst := some 51, op := Go.Op.indexAddr 25 (Go.Operand.tmp 49) (Go.Operand.tmp 50), type := 0, pos := "ref.go:346", after := #[{ on := 11, ground := Go.Ground.data }, { on := 12, ground := Go.Ground.data }], guard := none }) (v := .pointer (some ⟨blk, off + k * 9, none⟩)) rfl (by kernel_rfl) (by kernel_rfl) (by kernel_rfl) (fun _ _ _ h => h) (.inl ⟨by kernel_rfl, fun w9 h9 => by
            clear hHeld h9
            go_simp⟩) hHeld ?_
          refine takeU (i := 14) (some 52) (.pointer (some ⟨blk, off + k * 9 + 8, none⟩)) (by kernel_rfl) (by kernel_rfl) (by kernel_rfl) (by kernel_rfl) (by kernel_rfl) (fun _ => by kernel_rfl) (fun _ _ _ h => h) hHeld ?_
          refine wpAnyH_take (i := 15) (oi := { dst := some 53, op := Go.Op.load 56 (Go.Operand.tmp 52), type := 56, pos := "ref.go:346", after := #[{ on := 14, ground := Go.Ground.data }], guard := none }) (v := .slice (some ⟨pb, po, none⟩) ct.length cpk) rfl (by kernel_rfl) (by kernel_rfl) (by kernel_rfl) (fun _ _ _ h => h) (.inl ⟨by kernel_rfl, fun w9 h9 => by
            clear hHeld
            have d0 := (h9.cell (p := ⟨blk, off + k * 9 + 8, none⟩) hz8).trans c8
            clear h9
            go_simp⟩) hHeld ?_
          refine takeU (i := 16) (some 54) (.int .i64 j) (by kernel_rfl) (by kernel_rfl) (by kernel_rfl) (by kernel_rfl) (by kernel_rfl) (fun _ => by kernel_rfl) (fun _ _ _ h => h) hHeld ?_
          refine wpAnyH_take (i := 17) (oi := { dst := some 55, op := Go.Op.indexAddr 56 (Go.Operand.tmp 53) (Go.Operand.tmp 54), type := 0, pos := "ref.go:346", after := #[{ on := 15, ground := Go.Ground.data }, { on := 16, ground := Go.Ground.data }], guard := none }) (v := .pointer (some ⟨pb, po + j * 2, none⟩)) rfl (by kernel_rfl) (by kernel_rfl) (by kernel_rfl) (fun _ _ _ h => h) (.inl ⟨by kernel_rfl, fun w9 h9 => by
            clear hHeld h9
            go_simp⟩) hHeld ?_
          refine takeU (i := 18) (some 56) (.pointer (some ⟨pb, po + j * 2 + 1, none⟩)) (by kernel_rfl) (by kernel_rfl) (by kernel_rfl) (by kernel_rfl) (by kernel_rfl) (fun _ => by kernel_rfl) (fun _ _ _ h => h) hHeld ?_
          refine wpAnyH_take (i := 19) (oi := { dst := some 57, op := Go.Op.load 3 (Go.Operand.tmp 56), type := 3, pos := "ref.go:346", after := #[{ on := 18, ground := Go.Ground.data }], guard := none }) (v := .int .i64 p2) rfl (by kernel_rfl) (by kernel_rfl) (by kernel_rfl) (fun _ _ _ h => h) (.inl ⟨by kernel_rfl, fun w9 h9 => by
            clear hHeld
            have d0 := (h9.cell (p := ⟨pb, po + j * 2 + 1, none⟩) hz1).trans c1
            clear h9
            go_simp⟩) hHeld ?_
          try simp only [Act.put, List.setIfInBounds_toArray, List.set_cons_zero, List.set_cons_succ]
          refine wpAnyH_ready (rs := [10]) (by kernel_rfl) (by simp) ?_
          refine AllReadyH.cons (o := { dst := some 48, op := Go.Op.call { callee := Go.Callee.value (Go.Operand.func 38), args := #[Go.Operand.tmp 38, Go.Operand.tmp 47], argTypes := #[22, 3] }, type := 22, pos := "ref.go:346", after := #[{ on := 0, ground := Go.Ground.data }, { on := 9, ground := Go.Ground.data }], guard := none }) rfl (fun K hK => ?_) AllReadyH.nil
          go_simp
          go_at_call 38
          refine (refPut_r w.heap.size av Z cv p1 _ (by omega) (Nat.le_trans hbr.size hHeld.size) (owns_belowI HRow.out hHeld)).mono ?_
          rintro e w109 ⟨a7, d7, rfl, ho7, hb109⟩
          have HO7 := Lib.hid ho7
          clear ho7
          refine hK.out _ _ (hHeld.trans (hb109.mono hHeld.size)) (fun hHeld => ?_)
          clear hK K hb109
          try simp only [Act.put, List.setIfInBounds_toArray, List.set_cons_zero, List.set_cons_succ]
          try simp only [Act.put, List.setIfInBounds_toArray, List.set_cons_zero, List.set_cons_succ]
          refine wpAnyH_ready (rs := [20]) (by kernel_rfl) (by simp) ?_
          refine AllReadyH.cons (o := { dst := some 58, op := Go.Op.call { callee := Go.Callee.value (Go.Operand.func 38), args := #[Go.Operand.tmp 48, Go.Operand.tmp 57], argTypes := #[22, 3] }, type := 22, pos := "ref.go:346", after := #[{ on := 10, ground := Go.Ground.data }, { on := 19, ground := Go.Ground.data }, { on := 10, ground := Go.Ground.chain }], guard := none }) rfl (fun K hK => ?_) AllReadyH.nil
          go_simp
          go_at_call 38
          refine (refPut_r w.heap.size a7 (putH Z p1) d7 p2 _ (by have := putH_len Z p1; omega) (Nat.le_trans hbr.size hHeld.size) HO7.out).mono ?_
          rintro e w209 ⟨a8, d8, rfl, ho8, hb209⟩
          have HO8 := Lib.hid ho8
          clear ho8 HO7
          refine hK.out _ _ (hHeld.trans (hb209.mono hHeld.size)) (fun hHeld => ?_)
          clear hK K hb209
          try simp only [Act.put, List.setIfInBounds_toArray, List.set_cons_zero, List.set_cons_succ]
          refine takeU (i := 21) (some 5) (.slice a8 (putH (putH Z p1) p2).length d8) (by kernel_rfl) (by kernel_rfl) (by kernel_rfl) (by kernel_rfl) (by kernel_rfl) (fun _ => by kernel_rfl) (fun _ _ _ h => h) hHeld ?_
          refine wpAnyH_done (by kernel_rfl) ?_ _
          try simp only [Act.put, List.setIfInBounds_toArray, List.set_cons_zero, List.set_cons_succ]
          have HZ2 : Hid (putH (putH Z p1) p2 = fH ((hrS l k ++ [up, dn]) ++ hrC ct (j + 1))) := Lib.hid (by rw [HSj.out, fH_two, HZe.out])
          have hb9 := hbr.trans (hHeld.mono hbr.size)
          go_wp2_with fail
          go_roundw
          case rel => exact ⟨j + 1, a8, d8, by omega, by go_num, by rw [← HZ2.out], Lib.hid (by rw [← HZ2.out]; exact HO8.out), hb9⟩
          case measure => simp [intOf]; omega
        · obtain rfl : j = ct.length := by omega
          go_wp2_with fail
          go_roundw
          case rel => exact ⟨k + 1, av, cv, by omega, by go_num, by rw [HSx.out], Lib.hid (by rw [HSx.out]; exact HRow.out), hbr⟩
          case measure => simp [intOf]; omega
    · obtain rfl : k = l.length := by omega
      have hsl := HSL.out l.length hk
      clear HC HL HV HSL
      go_wp2_with fail
      go_loopw [5, 8] (fun v i wr => ∃ (k : Nat) (av : Option Addr) (cv : Nat), k ≤ q.length ∧ i = .int .i64 k ∧ v = .slice av (fH (hrS l l.length ++ hrE q k)).length cv ∧ Hid (wr.ownsRow w.heap.size 3 1 (.slice av (fH (hrS l l.length ++ hrE q k)).length cv) (fH (hrS l l.length ++ hrE q k)).length (clI (fH (hrS l l.length ++ hrE q k)))) ∧ Below w.heap.size w wr) (fun _ i _ => q.length - (intOf i).toNat)
      case atStart => exact ⟨0, av, cv, Nat.zero_le _, rfl, by simp [hrE], Lib.hid (by simpa [hrE] using HRow.out), hbr⟩
      case round =>
        obtain ⟨k, av, cv, hk, rfl, rfl, HRow, hbr⟩ := hrel
        by_cases hlt : k < q.length
        · obtain rfl := HL2.out (by omega)
          obtain ⟨c0, c1, c2, c3, c4, c5, c6, c7⟩ := HC2.out k hlt
          replace c6 := cell_below c6 hbr
          replace c7 := cell_below c7 hbr
          have HSj : Hid ((hrS l l.length ++ hrE q (k + 1)) = (hrS l l.length ++ hrE q k) ++ [(ge q k).st, (ge q k).en]) := Lib.hid (by rw [hrE]; simp only [List.append_assoc])
          clear HC2 HL2 c0 c1 c2 c3 c4 c5
          generalize ge q k = y at *
          obtain ⟨st, hup⟩ : ∃ u, y.st = u := ⟨_, rfl⟩
          obtain ⟨en, hdn⟩ : ∃ u, y.en = u := ⟨_, rfl⟩
          rw [hup] at c6 HSj
          rw [hdn] at c7 HSj
          clear hup hdn
          have hki : (k : Int) < (q.length : Int) := by omega
          go_upto_region 13 with (fail)
          have hz6 := block_lt c6
          have hz7 := block_lt c7
          have hPl : (hrS l l.length ++ hrE q k).length ≤ 90000 := by rw [List.length_append, hrE_len]; omega
          obtain ⟨Z, hZ⟩ : ∃ Z, fH (hrS l l.length ++ hrE q k) = Z := ⟨_, rfl⟩
          have hZl : Z.length ≤ 90000 := by have := fH_len (hrS l l.length ++ hrE q k); rw [hZ] at this; omega
          have HZe := Lib.hid hZ
          rw [hZ] at HRow ⊢
          clear hZ hPl
          replace hZl : Z.length ≤ 99000 := by omega
          refine wp_region_held_drew (S := fun w' => Below wr.heap.size wr w') (by kernel_rfl) ((Below.refl _ _).drew) (fun hHeld => ?_)
          refine takeU (i := 0) (some 65) (.slice av Z.length cv) (by kernel_rfl) (by kernel_rfl) (by kernel_rfl) (by kernel_rfl) (by kernel_rfl) (fun _ => by kernel_rfl) (fun _ _ _ h => h) hHeld ?_
          refine takeU (i := 1) (some 66) (.slice (some ⟨blk2, off2, none⟩) q.length cq) (by kernel_rfl) (by kernel_rfl) (by kernel_rfl) (by kernel_rfl) (by kernel_rfl) (fun _ => by kernel_rfl) (fun _ _ _ h => h) hHeld ?_
          refine takeU (i := 2) (some 67) (.int .i64 k) (by kernel_rfl) (by kernel_rfl) (by kernel_rfl) (by kernel_rfl) (by kernel_rfl) (fun _ => by kernel_rfl) (fun _ _ _ h => h) hHeld ?_
          refine wpAnyH_take (i := 3) (oi := { dst := some 68, op := Go.Op.indexAddr 26 (Go.Operand.tmp 66) (Go.Operand.tmp 67), type := 0, pos := "ref.go:350", after := #[{ on := 1, ground := Go.Ground.data }, { on := 2, ground := Go.Ground.data }], guard := none }) (v := .pointer (some ⟨blk2, off2 + k * 8, none⟩)) rfl (by kernel_rfl) (by kernel_rfl) (by kernel_rfl) (fun _ _ _ h => h) (.inl ⟨by kernel_rfl, fun w9 h9 => by
            clear hHeld h9
            go_simp⟩) hHeld ?_
          refine takeU (i := 4) (some 69) (.pointer (some ⟨blk2, off2 + k * 8 + 6, none⟩)) (by kernel_rfl) (by kernel_rfl) (by kernel_rfl) (by kernel_rfl) (by kernel_rfl) (fun _ => by kernel_rfl) (fun _ _ _ h => h) hHeld ?_
          refine wpAnyH_take (i := 5) (oi := { dst := some 70, op := Go.Op.load 3 (Go.Operand.tmp 69), type := 3, pos := "ref.go:350", after := #[{ on := 4, ground := Go.Ground.data }], guard := none }) (v := .int .i64 st) rfl (by kernel_rfl) (by kernel_rfl) (by kernel_rfl) (fun _ _ _ h => h) (.inl ⟨by kernel_rfl, fun w9 h9 => by
            clear hHeld
            have d0 := (h9.cell (p := ⟨blk2, off2 + k * 8 + 6, none⟩) hz6).trans c6
            clear h9
            go_simp⟩) hHeld ?_
          refine takeU (i := 7) (some 72) (.slice (some ⟨blk2, off2, none⟩) q.length cq) (by kernel_rfl) (by kernel_rfl) (by kernel_rfl) (by kernel_rfl) (by kernel_rfl) (fun _ => by kernel_rfl) (fun _ _ _ h => h) hHeld ?_
          refine takeU (i := 8) (some 73) (.int .i64 k) (by kernel_rfl) (by kernel_rfl) (by kernel_rfl) (by kernel_rfl) (by kernel_rfl) (fun _ => by kernel_rfl) (fun _ _ _ h => h) hHeld ?_
          refine wpAnyH_take (i := 9) (oi := { dst := some 74, op := Go.Op.indexAddr 26 (Go.Operand.tmp 72) (Go.Operand.tmp 73), type := 0, pos := "ref.go:350", after := #[{ on := 7, ground := Go.Ground.data }, { on := 8, ground := Go.Ground.data }], guard := none }) (v := .pointer (some ⟨blk2, off2 + k * 8, none⟩)) rfl (by kernel_rfl) (by kernel_rfl) (by kernel_rfl) (fun _ _ _ h => h) (.inl ⟨by kernel_rfl, fun w9 h9 => by
            clear hHeld h9
            go_simp⟩) hHeld ?_
          refine takeU (i := 10) (some 75) (.pointer (some ⟨blk2, off2 + k * 8 + 7, none⟩)) (by kernel_rfl) (by kernel_rfl) (by kernel_rfl) (by kernel_rfl) (by kernel_rfl) (fun _ => by kernel_rfl) (fun _ _ _ h => h) hHeld ?_
          refine wpAnyH_take (i := 11) (oi := { dst := some 76, op := Go.Op.load 3 (Go.Operand.tmp 75), type := 3, pos := "ref.go:350", after := #[{ on := 10, ground := Go.Ground.data }], guard := none }) (v := .int .i64 en) rfl (by kernel_rfl) (by kernel_rfl) (by kernel_rfl) (fun _ _ _ h => h) (.inl ⟨by kernel_rfl, fun w9 h9 => by
            clear hHeld
            have d0 := (h9.cell (p := ⟨blk2, off2 + k * 8 + 7, none⟩) hz7).trans c7
            clear h9
            go_simp⟩) hHeld ?_
          try simp only [Act.put, List.setIfInBounds_toArray, List.set_cons_zero, List.set_cons_succ]
          refine wpAnyH_ready (rs := [6]) (by kernel_rfl) (by simp) ?_
          refine AllReadyH.cons (o := { dst := some 71, op := Go.Op.call { callee := Go.Callee.value (Go.Operand.func 38), args := #[Go.Operand.tmp 65, Go.Operand.tmp 70], argTypes := #[22, 3] }, type := 22, pos := "ref.go:350", after := #[{ on := 0, ground := Go.Ground.data }, { on := 5, ground := Go.Ground.data }], guard := none }) rfl (fun K hK => ?_) AllReadyH.nil
          go_simp
          go_at_call 38
          refine (refPut_r w.heap.size av Z cv st _ (by omega) (Nat.le_trans hbr.size hHeld.size) (owns_belowI HRow.out hHeld)).mono ?_
          rintro e w69 ⟨a7, d7, rfl, ho7, hb69⟩
          have HO7 := Lib.hid ho7
          clear ho7
          refine hK.out _ _ (hHeld.trans (hb69.mono hHeld.size)) (fun hHeld => ?_)
          clear hK K hb69
          try simp only [Act.put, List.setIfInBounds_toArray, List.set_cons_zero, List.set_cons_succ]
          try simp only [Act.put, List.setIfInBounds_toArray, List.set_cons_zero, List.set_cons_succ]
          refine wpAnyH_ready (rs := [12]) (by kernel_rfl) (by simp) ?_
          refine AllReadyH.cons (o := { dst := some 77, op := Go.Op.call { callee := Go.Callee.value (Go.Operand.func 38), args := #[Go.Operand.tmp 71, Go.Operand.tmp 76], argTypes := #[22, 3] }, type := 22, pos := "ref.go:350", after := #[{ on := 6, ground := Go.Ground.data }, { on := 11, ground := Go.Ground.data }, { on := 6, ground := Go.Ground.chain }], guard := none }) rfl (fun K hK => ?_) AllReadyH.nil
          go_simp
          go_at_call 38
          refine (refPut_r w.heap.size a7 (putH Z st) d7 en _ (by have := putH_len Z st; omega) (Nat.le_trans hbr.size hHeld.size) HO7.out).mono ?_
          rintro e w129 ⟨a8, d8, rfl, ho8, hb129⟩
          have HO8 := Lib.hid ho8
          clear ho8 HO7
          refine hK.out _ _ (hHeld.trans (hb129.mono hHeld.size)) (fun hHeld => ?_)
          clear hK K hb129
          try simp only [Act.put, List.setIfInBounds_toArray, List.set_cons_zero, List.set_cons_succ]
          refine takeU (i := 13) (some 5) (.slice a8 (putH (putH Z st) en).length d8) (by kernel_rfl) (by kernel_rfl) (by kernel_rfl) (by kernel_rfl) (by kernel_rfl) (fun _ => by kernel_rfl) (fun _ _ _ h => h) hHeld ?_
          refine wpAnyH_done (by kernel_rfl) ?_ _
          try simp only [Act.put, List.setIfInBounds_toArray, List.set_cons_zero, List.set_cons_succ]
          have HZ2 : Hid (putH (putH Z st) en = fH (hrS l l.length ++ hrE q (k + 1))) := Lib.hid (by rw [HSj.out, fH_two, HZe.out])
          have hb9 := hbr.trans (hHeld.mono hbr.size)
          go_wp2_with fail
          go_roundw
          case rel => exact ⟨k + 1, a8, d8, by omega, by go_num, by rw [← HZ2.out], Lib.hid (by rw [← HZ2.out]; exact HO8.out), hb9⟩
          case measure => simp [intOf]; omega
        · obtain rfl : k = q.length := by omega
          go_wp2_with fail
          go_ret
          exact ⟨av, cv, rfl, HRow.out, hbr⟩
end Go.Proofs.YtjoffnbpaebgjaaGreat
