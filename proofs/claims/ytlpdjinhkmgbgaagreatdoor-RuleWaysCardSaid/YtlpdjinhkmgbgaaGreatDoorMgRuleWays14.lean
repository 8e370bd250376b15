/-
  The program's History. By an AI agent.; The reference's put and Moments. By an AI agent.; The reference's Moments. By an AI agent.; The reference's History. By an AI agent.; Stretches, gaps and what was told, metre by metre and hour by hour (for the law RuleWays). By an AI agent.
-/
import Derived.Test.YtlpdjinhkmgbgaaGreatDoorMgRuleWays1
import Derived.Test.YtlpdjinhkmgbgaaGreatDoorMgRuleWays6
import Derived.Test.YtlpdjinhkmgbgaaGreatDoorMgRuleWays10
import Derived.Test.YtlpdjinhkmgbgaaGreatDoorMgRuleWays11
import Derived.Test.YtlpdjinhkmgbgaaGreatDoorMgRuleWays12
import Derived.Test.YtlpdjinhkmgbgaaGreatDoorMgRuleWays13
import Derived.Deep.RegionHeld3
import Derived.Deep.DeepCutAuto
import Derived.BigQuiet
import Derived.BigRegion
import Derived.StillTailTactics
import Derived.Deep.AppendLies
import Derived.Deep.RegionLawGrows

namespace Go.Proofs.YtlpdjinhkmgbgaaGreatDoor
set_option linter.unusedVariables false
set_option linter.unusedSimpArgs false
open Go.RowKit

set_option maxRecDepth 100000 in
set_option maxHeartbeats 4000000 in
theorem toldAt_r (L : Int) (a : Option Addr) (js : List Int) (ca : Nat) (aa : Option Addr) (l : List Sgn) (cl : Nat) (dir tp m hh : Int) (b1 b2 b3 b4 b5 : Nat) (hV : lstE L js l [] = 0) (h2 : topB tp = true) (h3 : btw m 0 (L - 1) = true) (w : World) (hI : IntsS w a js) (hA : SgnS w aa l)
    (c0 : w.cell? ⟨b1, 0, none⟩ = some (.int .i64 L)) (c1 : w.cell? ⟨b1, 1, none⟩ = some (.slice a js.length ca)) (c2 : w.cell? ⟨b2, 0, none⟩ = some (.slice aa l.length cl)) (c3 : w.cell? ⟨b3, 0, none⟩ = some (.int .i64 dir)) (c4 : w.cell? ⟨b4, 0, none⟩ = some (.int .i64 tp)) (c5 : w.cell? ⟨b5, 0, none⟩ = some (.int .i64 (begK L dir m))) :
    Calls Tryz.prog 53 (#[.int .i64 hh] ++ #[.pointer (some ⟨b1, 0, none⟩), .pointer (some ⟨b2, 0, none⟩), .pointer (some ⟨b3, 0, none⟩), .pointer (some ⟨b4, 0, none⟩), .pointer (some ⟨b5, 0, none⟩)]) w fun e w' => e = .returned (.int .i64 (hldV L js l hh dir tp m)) ∧ Below w.heap.size w w' := by
  obtain ⟨hLb, hJ, hC, hn⟩ := lst_good hV
  obtain ⟨hn1, hn2⟩ := sgn_nums (lst_sgns hV)
  have hm := btw_ge h3
  have HR := Lib.hid (fun W (hW : Below w.heap.size w W) => (rowOf_r L a js ca aa l cl hh dir hLb.1 hLb.2 hJ (fun j hj => by have := hC j hj; omega) hn W (hI.below hW) (hA.below hW)).mono fun e w' H => rowF_of hLb.1 hLb.2 hJ hC H)
  have htp : tp ≠ 0 := by have := top_or h2; omega
  have hbk := beg_bd (dir := dir) hLb.1 hLb.2 hm.1 (by omega)
  have HVal : Hid (∀ row, RowL L js dir hh l row → hldL tp (begK L dir m) row 0 = hldV L js l hh dir tp m) := Lib.hid fun row hr => hld_ins hn2 htp hbk.2 hr
  have hz1 := block_lt c0
  have hz2 := block_lt c2
  have hz3 := block_lt c3
  have hz4 := block_lt c4
  have hz5 := block_lt c5
  generalize hldV L js l hh dir tp m = V at *
  generalize begK L dir m = bk at *
  clear hI hA hV h2 h3 hm hn1 hn2 hJ hC hLb htp hbk hn
  go_enter Tryz.func53, Tryz.ntmps53
  go_upto_region 1 with (fail)
  refine wp_region_held_drew (S := fun w' => Below w.heap.size w w') (by kernel_rfl) ((Below.refl _ _).drew) (fun hHeld => ?_)
  refine wpAnyH_take (i := 0) (oi := { dst := some 8, op := Go.Op.load 24 (Go.Operand.tmp 1), type := 24, pos := "hours.go:44", after := #[], guard := none }) (v := .agg #[.int .i64 L, .slice a js.length ca]) rfl (by kernel_rfl) (by kernel_rfl) (by kernel_rfl) (fun _ _ _ h => h) (.inl ⟨by kernel_rfl, fun w9 h9 => by
    clear hHeld
    have d0 := (h9.cell (p := ⟨b1, 0, none⟩) hz1).trans c0
    have d1 := (h9.cell (p := ⟨b1, 1, none⟩) hz1).trans c1
    clear h9
    go_simp⟩) hHeld ?_
  refine wpAnyH_take (i := 1) (oi := { dst := some 9, op := Go.Op.load 25 (Go.Operand.tmp 2), type := 25, pos := "hours.go:44", after := #[], guard := none }) (v := .slice aa l.length cl) rfl (by kernel_rfl) (by kernel_rfl) (by kernel_rfl) (fun _ _ _ h => h) (.inl ⟨by kernel_rfl, fun w9 h9 => by
    clear hHeld
    have d0 := (h9.cell (p := ⟨b2, 0, none⟩) hz2).trans c2
    clear h9
    go_simp⟩) hHeld ?_
  refine takeU (i := 2) (some 10) (.int .i64 hh) (by kernel_rfl) (by kernel_rfl) (by kernel_rfl) (by kernel_rfl) (by kernel_rfl) (fun _ => by kernel_rfl) (fun _ _ _ h => h) hHeld ?_
  refine wpAnyH_take (i := 3) (oi := { dst := some 11, op := Go.Op.load 3 (Go.Operand.tmp 3), type := 3, pos := "hours.go:44", after := #[], guard := none }) (v := .int .i64 dir) rfl (by kernel_rfl) (by kernel_rfl) (by kernel_rfl) (fun _ _ _ h => h) (.inl ⟨by kernel_rfl, fun w9 h9 => by
    clear hHeld
    have d0 := (h9.cell (p := ⟨b3, 0, none⟩) hz3).trans c3
    clear h9
    go_simp⟩) hHeld ?_
  refine wpAnyH_take (i := 5) (oi := { dst := some 13, op := Go.Op.load 3 (Go.Operand.tmp 4), type := 3, pos := "hours.go:44", after := #[], guard := none }) (v := .int .i64 tp) rfl (by kernel_rfl) (by kernel_rfl) (by kernel_rfl) (fun _ _ _ h => h) (.inl ⟨by kernel_rfl, fun w9 h9 => by
    clear hHeld
    have d0 := (h9.cell (p := ⟨b4, 0, none⟩) hz4).trans c4
    clear h9
    go_simp⟩) hHeld ?_
  refine wpAnyH_take (i := 6) (oi := { dst := some 14, op := Go.Op.load 3 (Go.Operand.tmp 5), type := 3, pos := "hours.go:44", after := #[], guard := none }) (v := .int .i64 bk) rfl (by kernel_rfl) (by kernel_rfl) (by kernel_rfl) (fun _ _ _ h => h) (.inl ⟨by kernel_rfl, fun w9 h9 => by
    clear hHeld
    have d0 := (h9.cell (p := ⟨b5, 0, none⟩) hz5).trans c5
    clear h9
    go_simp⟩) hHeld ?_
  try simp only [Act.put, List.setIfInBounds_toArray, List.set_cons_zero, List.set_cons_succ]
  refine wpAnyH_ready (rs := [4]) (by kernel_rfl) (by simp) ?_
  refine AllReadyH.cons (o := { dst := some 12, op := Go.Op.call { callee := Go.Callee.value (Go.Operand.func 50), args := #[Go.Operand.tmp 8, Go.Operand.tmp 9, Go.Operand.tmp 10, Go.Operand.tmp 11], argTypes := #[24, 25, 3, 3] }, type := 99, pos := "hours.go:44", after := #[{ on := 0, ground := Go.Ground.data }, { on := 1, ground := Go.Ground.data }, { on := 2, ground := Go.Ground.data }, { on := 3, ground := Go.Ground.data }], guard := none }) rfl (fun K hK => ?_) AllReadyH.nil
  go_simp
  go_at_call 50
  refine (HR.out _ hHeld).mono ?_
  rintro e w49 ⟨row, ar, cr, hRL, hrl, hbd, rfl, hP, hb49⟩
  have HP := Lib.hid hP
  have HRL := Lib.hid hRL
  clear hP hRL hbd hrl
  refine hK.out _ _ (hHeld.trans (hb49.mono hHeld.size)) (fun hHeld => ?_)
  clear hK K hb49
  try simp only [Act.put, List.setIfInBounds_toArray, List.set_cons_zero, List.set_cons_succ]
  try simp only [Act.put, List.setIfInBounds_toArray, List.set_cons_zero, List.set_cons_succ]
  refine wpAnyH_ready (rs := [7]) (by kernel_rfl) (by simp) ?_
  refine AllReadyH.cons (o := { dst := some 15, op := Go.Op.call { callee := Go.Callee.value (Go.Operand.func 49), args := #[Go.Operand.tmp 12, Go.Operand.tmp 13, Go.Operand.tmp 14], argTypes := #[99, 3, 3] }, type := 3, pos := "hours.go:44", after := #[{ on := 4, ground := Go.Ground.data }, { on := 5, ground := Go.Ground.data }, { on := 6, ground := Go.Ground.data }, { on := 4, ground := Go.Ground.chain }], guard := none }) rfl (fun K hK => ?_) AllReadyH.nil
  go_simp
  go_at_call 49
  refine (holdsAt_r ar row cr tp bk _ HP.out).mono ?_
  rintro e w79 ⟨rfl, hb79⟩
  refine hK.out _ _ (hHeld.trans (hb79.mono hHeld.size)) (fun hHeld => ?_)
  clear hK K hb79
  try simp only [Act.put, List.setIfInBounds_toArray, List.set_cons_zero, List.set_cons_succ]
  refine takeU (i := 8) (some 7) (.int .i64 (hldL tp bk row 0)) (by kernel_rfl) (by kernel_rfl) (by kernel_rfl) (by kernel_rfl) (by kernel_rfl) (fun _ => by kernel_rfl) (fun _ _ _ h => h) hHeld ?_
  refine wpAnyH_done (by kernel_rfl) ?_ _
  try simp only [Act.put, List.setIfInBounds_toArray, List.set_cons_zero, List.set_cons_succ]
  have HVv := Lib.hid (HVal.out row HRL.out)
  go_wp2_with fail
  go_ret
  exact ⟨by rw [HVv.out] <;> rfl, hHeld⟩
set_option maxRecDepth 100000 in
set_option maxHeartbeats 4000000 in
theorem partsH_r (a : Option Addr) (cuts : List Int) (ca : Nat) (lb : Array Value) (f : Int → Int) (w : World) (hA : IntsS w a cuts) (hne : cuts ≠ []) (hn : cuts.length ≤ 1000000)
    (hf : ∀ m W, m ∈ cuts → Below w.heap.size w W → Calls Tryz.prog 53 (#[.int .i64 m] ++ lb) W fun e w' => e = .returned (.int .i64 (f m)) ∧ Below W.heap.size W w') :
    Calls Tryz.prog 54 #[.slice a cuts.length ca, .func (.func 53) #[] lb] w (PrtE w (ascL cuts) f) := by
  obtain ⟨hlen, -, blk, off, hadr, hc⟩ := hA
  obtain rfl := hadr hne
  have HV := Lib.hid (fun W => values_in (some ⟨blk, off, none⟩) cuts.length ca W)
  have hbk : blk < w.heap.size := block_lt (hc 0 (by cases cuts with | nil => exact absurd rfl hne | cons x l => simp))
  have HS := Lib.hid (sorted_in w.heap.size blk off ca cuts (by omega) (w.alloc (.cells #[.slice (some ⟨blk, off, none⟩) cuts.length ca] 22)) (by simp) (by simp; omega) (by simp [go_sem]) (fun j hj => by
    rw [((Below.refl w.heap.size w).alloc (Nat.le_refl _) _).cell (p := ⟨blk, off + j, none⟩) hbk, hc j hj]; simp [gi]))
  have HC := Lib.hid (fun W a c (h : W.ownsRow (w.heap.size + 1) 3 1 (.slice a cuts.length c) cuts.length (clI (srt cuts))) => compact_own (w.heap.size + 1) c a (srt cuts) W (by rw [srt_len]; exact h) (by rw [srt_len]; omega))
  have HF := Lib.hid hf
  have HZ : Hid (0 < (ascL cuts).length ∧ (ascL cuts).length ≤ cuts.length ∧ ∀ k, k < (ascL cuts).length → gi (ascL cuts) k ∈ cuts) := Lib.hid ⟨asc_pos hne, asc_len cuts, fun k hk => asc_mem hk⟩
  have HL : Hid (Lib.compact (srt cuts) = ascL cuts) := Lib.hid rfl
  rw [HL.out, srt_len] at HC
  generalize ascL cuts = z at *
  obtain ⟨n0, hi, hz0, hz1, hz2⟩ := info_parts partInfo
  clear hf hc hadr HL hlen
  go_enter Tryz.func54, Tryz.ntmps54
  go_wp2_with (first | (go_at_call 75; refine (HV.out _).mono ?_; rintro e w7 ⟨rfl, rfl⟩) | (go_at_call 74; refine HS.out.mono ?_; rintro e w8 ⟨a8, c8, rfl, hr8, hb8⟩; have HC8 := Lib.hid (HC.out _ _ _ (by simpa using hr8)); have hz8 := hb8.size) | (go_at_call 73; refine HC8.out.mono ?_; rintro e w9 ⟨rfl, hr9, hb9⟩))
  have hbo : Below w.heap.size w w9 := ((Below.refl w.heap.size w).alloc (Nat.le_refl _) _).trans ((hb8.mono (by simp)).trans ((hb9 (by simp at hz8; omega)).mono (by omega)))
  have HOwn := Lib.hid hr9
  clear hr9 hb9 hb8 hr8 HC HC8 HS HV hz8
  have HCz : Hid (∀ k, k < z.length → ∃ g, a8 = some ⟨g, 0, none⟩ ∧ w9.cell? ⟨g, k, none⟩ = some (.int .i64 (gi z k))) := Lib.hid fun k hk => by
    have h := HOwn.out
    rcases h.2 with ⟨h1, h2⟩ | ⟨g2, c2, cur, h1, _⟩
    · omega
    · obtain ⟨rfl, rfl⟩ : a8 = some ⟨g2, 0, none⟩ ∧ c8 = c2 := by simpa using h1
      refine ⟨g2, rfl, ?_⟩
      rw [World.ownsRow.cellAt h k (by omega)]
      exact clI_get z (by omega)
  clear HOwn
  obtain ⟨hzp, hzl, -⟩ := HZ.out
  obtain ⟨wo, rfl⟩ : ∃ wo : World, wo = w9 := ⟨_, rfl⟩
  go_wp2_with fail
  go_loopw [6, 7] (fun q i wr => ∃ k : Nat, 0 < k ∧ k ≤ z.length ∧ i = .int .i64 k ∧ (∃ a c, q = .slice a (prtK z f k).length c) ∧ Hid (wr.ownsRow wo.heap.size 106 3 q (prtK z f k).length (cl3 (prtK z f k))) ∧ Below wo.heap.size wo wr) (fun _ i _ => z.length - (intOf i).toNat)
  case atStart => exact ⟨1, by omega, by omega, rfl, ⟨none, 0, rfl⟩, Lib.hid ⟨rfl, .inl ⟨rfl, rfl⟩⟩, Below.refl _ _⟩
  case round =>
    obtain ⟨k, hk0, hk, rfl, ⟨av, cv, rfl⟩, HRow, hbr⟩ := hrel
    by_cases hlt : k < z.length
    · have hkl := prtK_len z f k
      obtain ⟨t, hti⟩ : ∃ t : Nat, (k : Int) - 1 = (t : Int) := ⟨k - 1, by omega⟩
      have htz : t < z.length := by omega
      have htw : IntKind.i64.wrap ((k : Int) - 1) = (t : Int) := by rw [hti]; exact IntWalk.i64_in _ (by omega)
      obtain ⟨g, rfl, c0⟩ := HCz.out t htz
      obtain ⟨g', hg', c1⟩ := HCz.out k hlt
      obtain rfl : g = g' := by simpa using hg'
      have c0 := cell_below c0 hbr
      have c1 := cell_below c1 hbr
      have hmx := HZ.out.2.2 t htz
      have hbw := hbo.trans (hbr.mono hbo.size)
      have HN : Hid (prtK z f (k + 1) = prt1 (prtK z f k) (gi z t) (gi z k) (f (gi z t))) := Lib.hid (by rw [prtK, if_neg (by omega), show k - 1 = t by omega])
      have HFx := Lib.hid (fun W (hW : Below w.heap.size w W) => HF.out (gi z t) W hmx hW)
      clear hg' hmx HCz HF HZ
      generalize f (gi z t) = v at *
      generalize gi z t = x at *
      generalize gi z k = y at *
      obtain ⟨S, hS⟩ : ∃ S, prtK z f k = S := ⟨_, rfl⟩
      rw [hS] at HN HRow hkl ⊢
      clear hS
      have hk64 : (k : Int) < (z.length : Int) := by omega
      go_wp2_with fail
      go_quiet (fail)
      have hbA := below_drewN hbr nq
      have hbB := below_drewN hbw nq
      have HRow := Lib.hid (owns_belowI HRow.out (below_drewN (Below.refl wr.heap.size wr) nq))
      generalize wr.drewN nq = wA at hbA hbB HRow ⊢
      clear c0 c1
      go_wp2_with fail
      refine (HFx.out _ hbB).mono ?_
      rintro e w7 ⟨rfl, hb7⟩
      have hbA := hbA.trans (hb7.mono hbA.size)
      have HRow := Lib.hid (owns_belowI HRow.out hb7)
      clear hbB hb7 HFx
      generalize w7 = wA at hbA HRow ⊢
      by_cases h0 : S.length = 0
      · have hS0 := List.eq_nil_of_length_eq_zero h0
        subst hS0
        have HAP : Hid (prtK z f (k + 1) = [(x, y, v)]) := Lib.hid (by rw [HN.out]; rfl)
        clear HN
        have HAP : Hid (0 + 1 = (prtK z f (k + 1)).length ∧ ([] : List Value) ++ [.int .i64 x, .int .i64 y, .int .i64 v] = cl3 (prtK z f (k + 1))) := Lib.hid (by rw [HAP.out]; exact ⟨rfl, rfl⟩)
        have HRow : Hid (wA.ownsRow wo.heap.size 106 3 (.slice av 0 cv) 0 []) := HRow
        clear h0
        have hown := Lib.hid (HRow.out.alloc (.cells #[.int .i64 x, .int .i64 y, .int .i64 v] 106))
        have hbs := hbA.size
        go_wp2_with (first | (at_builtin; go_loud (refine wpList_append_lies _ rfl _ _ 102 rfl wo.heap.size 106 n0 _ 3 24 Tryz.underlying102 hi hz0 hz1 hz2 rfl (by decide) (.slice _ 0 cv) 0 _ (by rfl) hown.out ⟨wA.heap.size, 0, none⟩ 1 1 [.int .i64 x, .int .i64 y, .int .i64 v] (by rfl) (by rfl) ?d1 ?d2 (by decide) ?d3 ?d4 ?d5 _ rfl ?_)))
        case d1 =>
          refine World.news_of_block (cs := #[.int .i64 x, .int .i64 y, .int .i64 v]) (t := 106) (fr := (0, 0)) ?_
          exact heap_alloc_new _ _
        case d2 => simp [Value.oneCell']
        case d3 => unfold maxLen; omega
        case d4 => omega
        case d5 => first | (simp; omega) | simp | omega
        intro g6 c6 w6 hown6 hgrow6 hat6 hlt6
        have hb6 : Below wo.heap.size wo w6 := ((hbA.alloc hbs _).grown hgrow6 (by first | (simp; omega) | simp | omega) (fun z hz => owns_blockI hown.out hz))

        go_wp2_with fail
        go_roundw
        case rel => exact ⟨k + 1, by omega, by omega, by go_num, ⟨_, c6, by rw [← HAP.out.1]⟩, Lib.hid (by rw [← HAP.out.1, ← HAP.out.2]; exact hown6), hb6⟩
        case measure => simp [intOf]; omega
      · obtain ⟨u, hu⟩ : ∃ u, S.length = u + 1 := ⟨S.length - 1, by omega⟩
        have hui : (S.length : Int) - 1 = (u : Int) := by omega
        have hu0 : (0 : Int) ≤ (u : Int) := by omega
        have hu2 : (u : Int) < (S.length : Int) := by omega
        have huw : IntKind.i64.wrap ((S.length : Int) - 1) = (u : Int) := by rw [hui]; exact IntWalk.i64_in _ (by omega)
        obtain ⟨gj, hgj⟩ : ∃ gj, av = some ⟨gj, 0, none⟩ := by
          rcases HRow.out.2 with ⟨h1, h2⟩ | ⟨g2, c2, cur, h1, _⟩
          · omega
          · exact ⟨g2, by simpa using (Value.slice.inj h1).1⟩
        subst hgj
        have cy := World.ownsRow.cellAt HRow.out (u * 3 + 2) (by omega)
        rw [(cl3_c S u (by omega)).2.2] at cy
        have cx := World.ownsRow.cellAt HRow.out (u * 3 + 1) (by omega)
        rw [(cl3_c S u (by omega)).2.1] at cx
        have fx := World.ownsRow.frozenAt HRow.out (u * 3 + 1)
        have hgl : wo.heap.size ≤ gj := by
          rcases HRow.out.2 with ⟨h1, h2⟩ | ⟨g2, c2, cur, h1, h2, _⟩
          · omega
          · have : gj = g2 := by simpa using (Value.slice.inj h1).1
            omega
        have HJ : Hid (prt1 S x y v = if (gt3 S u).2.2 = v then S.set u ((gt3 S u).1, y, v) else S ++ [(x, y, v)]) := Lib.hid (by
          unfold prt1
          rw [show S.length - 1 = u by omega]
          by_cases hx : (gt3 S u).2.2 = v
          · rw [if_pos ⟨by omega, hx⟩, if_pos hx]
          · rw [if_neg (fun h => hx h.2), if_neg hx])
        have HSE := Lib.hid (cl3_set S u y (by omega))
        by_cases hx : (gt3 S u).2.2 = v
        · have hJ := HJ.out
          rw [if_pos hx] at hJ
          have HNn : Hid (prtK z f (k + 1) = S.set u ((gt3 S u).1, y, (gt3 S u).2.2)) := Lib.hid (by rw [HN.out, hJ, hx])
          clear hJ HJ HN
          have HST : Hid (∀ W : World, W.ownsRow wo.heap.size 106 3 (.slice (some ⟨gj, 0, none⟩) S.length cv) S.length (cl3 S) → (W.setCell ⟨gj, u * 3 + 1, none⟩ (.int .i64 y)).ownsRow wo.heap.size 106 3 (.slice (some ⟨gj, 0, none⟩) (prtK z f (k + 1)).length cv) (prtK z f (k + 1)).length (cl3 (prtK z f (k + 1)))) := Lib.hid fun W h => by
            rw [HNn.out, List.length_set, ← HSE.out]
            exact (World.ownsRow.stored h (u * 3 + 1) (.int .i64 y)).1
          have HLn : Hid ((prtK z f (k + 1)).length = S.length) := Lib.hid (by rw [HNn.out, List.length_set])
          clear HNn HSE hu
          generalize (gt3 S u).2.2 = q at *
          generalize (gt3 S u).2.1 = q1 at *
          subst hx
          go_wp2_with fail
          go_roundw
          case rel => exact ⟨k + 1, by omega, by omega, by go_num, ⟨_, cv, by rw [HLn.out]⟩, Lib.hid (by have := HST.out _ HRow.out; rwa [HLn.out] at this ⊢), hbA.setCell (p := ⟨gj, u * 3 + 1, none⟩) hgl _⟩
          case measure => simp [intOf]; omega
        · have hJ := HJ.out
          rw [if_neg hx] at hJ
          have HAP : Hid (S.length + 1 = (prtK z f (k + 1)).length ∧ cl3 S ++ [.int .i64 x, .int .i64 y, .int .i64 v] = cl3 (prtK z f (k + 1))) := Lib.hid (by rw [HN.out, hJ, cl3_app]; exact ⟨by simp, rfl⟩)
          clear hJ HJ HN hu cx fx HSE
          generalize (gt3 S u).2.2 = q at *
          have hqv : (q == v) = false := beq_false_of_ne hx
          have hown := Lib.hid (HRow.out.alloc (.cells #[.int .i64 x, .int .i64 y, .int .i64 v] 106))
          have hbs := hbA.size
          go_wp2_with (first | (at_builtin; go_loud (refine wpList_append_lies _ rfl _ _ 102 rfl wo.heap.size 106 n0 _ 3 24 Tryz.underlying102 hi hz0 hz1 hz2 rfl (by decide) (.slice _ S.length cv) S.length _ (by rfl) hown.out ⟨wA.heap.size, 0, none⟩ 1 1 [.int .i64 x, .int .i64 y, .int .i64 v] (by rfl) (by rfl) ?d1 ?d2 (by decide) ?d3 ?d4 ?d5 _ rfl ?_)))
          case d1 =>
            refine World.news_of_block (cs := #[.int .i64 x, .int .i64 y, .int .i64 v]) (t := 106) (fr := (0, 0)) ?_
            exact heap_alloc_new _ _
          case d2 => simp [Value.oneCell']
          case d3 => unfold maxLen; omega
          case d4 => omega
          case d5 => first | (simp; omega) | simp | omega
          intro g6 c6 w6 hown6 hgrow6 hat6 hlt6
          have hb6 : Below wo.heap.size wo w6 := ((hbA.alloc hbs _).grown hgrow6 (by first | (simp; omega) | simp | omega) (fun z hz => owns_blockI hown.out hz))

          go_wp2_with fail
          go_roundw
          case rel => exact ⟨k + 1, by omega, by omega, by go_num, ⟨_, c6, by rw [← HAP.out.1]⟩, Lib.hid (by rw [← HAP.out.1, ← HAP.out.2]; exact hown6), hb6⟩
          case measure => simp [intOf]; omega
    · obtain rfl : k = z.length := by omega
      have hbw := hbo.trans (hbr.mono hbo.size)
      have HEnd : Hid (PrtE w z f (.returned (.slice av (prtK z f z.length).length cv)) wr) := Lib.hid ⟨av, cv, rfl, owns_baseI HRow.out hbo.size, hbw⟩
      clear HRow
      go_wp2_with fail
      go_ret
      exact HEnd.out
set_option maxRecDepth 100000 in
set_option maxHeartbeats 1000000 in
theorem History_bad (L : Int) (a : Option Addr) (js : List Int) (ca : Nat) (aa : Option Addr) (l : List Sgn) (cl : Nat) (dir tp m : Int) (hV : lstE L js l [] ≠ 0) (w : World) (hI : IntsS w a js) (hA : SgnS w aa l) :
    Calls Tryz.prog 23 #[.agg #[.int .i64 L, .slice a js.length ca], .slice aa l.length cl, .int .i64 dir, .int .i64 tp, .int .i64 m] w fun e w' => e = .returned (.tuple #[.slice none 0 0, .int .i64 (lstE L js l [])]) ∧ Below w.heap.size w w' := by
  have H1 := Lib.hid (fun W (hW : Below w.heap.size w W) => listsError_r L a js ca aa l cl none [] 0 W (hI.below hW) (hA.below hW) (ed_nilR W))
  clear hI hA
  generalize lstE L js l [] = E at *
  have d1 : (E != 0) = true := by simp [hV]
  clear hV
  go_enter Tryz.func23, Tryz.ntmps23
  go_upto_region 1 with (fail)
  obtain ⟨wB, hwB⟩ : ∃ wB, ((((w.alloc (.cells #[.int .i64 L, .slice a js.length ca] 24)).alloc (.cells #[.slice aa l.length cl] 25)).alloc (.cells #[.int .i64 dir] 3)).alloc (.cells #[.int .i64 tp] 3)) = wB := ⟨_, rfl⟩
  have hb : Below w.heap.size w wB := by rw [← hwB]; exact ((((Below.refl _ _).alloc (Nat.le_refl _) _).alloc (by simp) _).alloc (by simp; omega) _).alloc (by simp; omega) _
  have l0 : wB.cell? ⟨w.heap.size, 0, none⟩ = some (.int .i64 L) := by rw [← hwB]; simp [go_sem]
  have l1 : wB.cell? ⟨w.heap.size, 1, none⟩ = some (.slice a js.length ca) := by rw [← hwB]; simp [go_sem]
  have y2 : wB.cell? ⟨w.heap.size + 1, 0, none⟩ = some (.slice aa l.length cl) := by rw [← hwB]; simp [go_sem]
  have y3 : wB.cell? ⟨w.heap.size + 1 + 1, 0, none⟩ = some (.int .i64 dir) := by rw [← hwB]; simp [go_sem]
  have y4 : wB.cell? ⟨w.heap.size + 1 + 1 + 1, 0, none⟩ = some (.int .i64 tp) := by rw [← hwB]; simp [go_sem]
  rw [hwB]
  clear hwB
  go_wp2_with (go_at_call 27; refine (H1.out _ hb).mono ?_; rintro e w1 ⟨rfl, hb1⟩)
  go_ret2
  exact ⟨rfl, hb.trans (hb1.mono hb.size)⟩
set_option maxRecDepth 100000 in
set_option maxHeartbeats 1000000 in
theorem History_arg (L : Int) (a : Option Addr) (js : List Int) (ca : Nat) (aa : Option Addr) (l : List Sgn) (cl : Nat) (dir tp m : Int) (hV : lstE L js l [] = 0) (hx : ((dirB dir) && (topB tp) && (btw m 0 (L - 1))) = false) (w : World) (hI : IntsS w a js) (hA : SgnS w aa l) :
    Calls Tryz.prog 23 #[.agg #[.int .i64 L, .slice a js.length ca], .slice aa l.length cl, .int .i64 dir, .int .i64 tp, .int .i64 m] w fun e w' => e = .returned (.tuple #[.slice none 0 0, .int .i64 2]) ∧ Below w.heap.size w w' := by
  have hLb := (lst_good hV).1
  have H1 := Lib.hid (fun W (hW : Below w.heap.size w W) => by
    have := listsError_r L a js ca aa l cl none [] 0 W (hI.below hW) (hA.below hW) (ed_nilR W)
    rw [hV] at this
    exact this)
  have K0 := Lib.hid (fun W => isDir_r dir W)
  have K1 := Lib.hid (fun W => isTopic_r tp W)
  have K2 := Lib.hid (fun W => isMetre_r L a js.length ca m hLb.1 hLb.2 W)
  clear hI hA hV hLb
  generalize dirB dir = b0 at *
  generalize topB tp = b1 at *
  generalize btw m 0 (L - 1) = b2 at *
  cases b0 with
  | false =>
    clear hx
    go_enter Tryz.func23, Tryz.ntmps23
    go_upto_region 1 with (fail)
    obtain ⟨wB, hwB⟩ : ∃ wB, ((((w.alloc (.cells #[.int .i64 L, .slice a js.length ca] 24)).alloc (.cells #[.slice aa l.length cl] 25)).alloc (.cells #[.int .i64 dir] 3)).alloc (.cells #[.int .i64 tp] 3)) = wB := ⟨_, rfl⟩
    have hb : Below w.heap.size w wB := by rw [← hwB]; exact ((((Below.refl _ _).alloc (Nat.le_refl _) _).alloc (by simp) _).alloc (by simp; omega) _).alloc (by simp; omega) _
    have l0 : wB.cell? ⟨w.heap.size, 0, none⟩ = some (.int .i64 L) := by rw [← hwB]; simp [go_sem]
    have l1 : wB.cell? ⟨w.heap.size, 1, none⟩ = some (.slice a js.length ca) := by rw [← hwB]; simp [go_sem]
    have y2 : wB.cell? ⟨w.heap.size + 1, 0, none⟩ = some (.slice aa l.length cl) := by rw [← hwB]; simp [go_sem]
    have y3 : wB.cell? ⟨w.heap.size + 1 + 1, 0, none⟩ = some (.int .i64 dir) := by rw [← hwB]; simp [go_sem]
    have y4 : wB.cell? ⟨w.heap.size + 1 + 1 + 1, 0, none⟩ = some (.int .i64 tp) := by rw [← hwB]; simp [go_sem]
    rw [hwB]
    clear hwB
    go_wp2_with (first | (go_at_call 27; refine (H1.out _ hb).mono ?_; rintro e w1 ⟨rfl, hb1⟩; replace hb := hb.trans (hb1.mono hb.size); replace l0 := cell_below l0 hb1; replace l1 := cell_below l1 hb1; replace y2 := cell_below y2 hb1; replace y3 := cell_below y3 hb1; replace y4 := cell_below y4 hb1; clear hb1) | (go_at_call 45; refine (K0.out _).mono ?_; rintro e w2 ⟨rfl, rfl⟩) | (go_at_call 46; refine (K1.out _).mono ?_; rintro e w2 ⟨rfl, rfl⟩) | (go_at_call 48; refine (K2.out _).mono ?_; rintro e w2 ⟨rfl, hb2⟩; replace hb := hb.trans (hb2.mono hb.size); replace l0 := cell_below l0 hb2; replace l1 := cell_below l1 hb2; replace y2 := cell_below y2 hb2; replace y3 := cell_below y3 hb2; replace y4 := cell_below y4 hb2; clear hb2))
    go_ret2
    exact ⟨rfl, hb⟩
  | true =>
    cases b1 with
    | false =>
      clear hx
      go_enter Tryz.func23, Tryz.ntmps23
      go_upto_region 1 with (fail)
      obtain ⟨wB, hwB⟩ : ∃ wB, ((((w.alloc (.cells #[.int .i64 L, .slice a js.length ca] 24)).alloc (.cells #[.slice aa l.length cl] 25)).alloc (.cells #[.int .i64 dir] 3)).alloc (.cells #[.int .i64 tp] 3)) = wB := ⟨_, rfl⟩
      have hb : Below w.heap.size w wB := by rw [← hwB]; exact ((((Below.refl _ _).alloc (Nat.le_refl _) _).alloc (by simp) _).alloc (by simp; omega) _).alloc (by simp; omega) _
      have l0 : wB.cell? ⟨w.heap.size, 0, none⟩ = some (.int .i64 L) := by rw [← hwB]; simp [go_sem]
      have l1 : wB.cell? ⟨w.heap.size, 1, none⟩ = some (.slice a js.length ca) := by rw [← hwB]; simp [go_sem]
      have y2 : wB.cell? ⟨w.heap.size + 1, 0, none⟩ = some (.slice aa l.length cl) := by rw [← hwB]; simp [go_sem]
      have y3 : wB.cell? ⟨w.heap.size + 1 + 1, 0, none⟩ = some (.int .i64 dir) := by rw [← hwB]; simp [go_sem]
      have y4 : wB.cell? ⟨w.heap.size + 1 + 1 + 1, 0, none⟩ = some (.int .i64 tp) := by rw [← hwB]; simp [go_sem]
      rw [hwB]
      clear hwB
      go_wp2_with (first | (go_at_call 27; refine (H1.out _ hb).mono ?_; rintro e w1 ⟨rfl, hb1⟩; replace hb := hb.trans (hb1.mono hb.size); replace l0 := cell_below l0 hb1; replace l1 := cell_below l1 hb1; replace y2 := cell_below y2 hb1; replace y3 := cell_below y3 hb1; replace y4 := cell_below y4 hb1; clear hb1) | (go_at_call 45; refine (K0.out _).mono ?_; rintro e w2 ⟨rfl, rfl⟩) | (go_at_call 46; refine (K1.out _).mono ?_; rintro e w2 ⟨rfl, rfl⟩) | (go_at_call 48; refine (K2.out _).mono ?_; rintro e w2 ⟨rfl, hb2⟩; replace hb := hb.trans (hb2.mono hb.size); replace l0 := cell_below l0 hb2; replace l1 := cell_below l1 hb2; replace y2 := cell_below y2 hb2; replace y3 := cell_below y3 hb2; replace y4 := cell_below y4 hb2; clear hb2))
      go_ret2
      exact ⟨rfl, hb⟩
    | true =>
      cases b2 with
      | false =>
        clear hx
        go_enter Tryz.func23, Tryz.ntmps23
        go_upto_region 1 with (fail)
        obtain ⟨wB, hwB⟩ : ∃ wB, ((((w.alloc (.cells #[.int .i64 L, .slice a js.length ca] 24)).alloc (.cells #[.slice aa l.length cl] 25)).alloc (.cells #[.int .i64 dir] 3)).alloc (.cells #[.int .i64 tp] 3)) = wB := ⟨_, rfl⟩
        have hb : Below w.heap.size w wB := by rw [← hwB]; exact ((((Below.refl _ _).alloc (Nat.le_refl _) _).alloc (by simp) _).alloc (by simp; omega) _).alloc (by simp; omega) _
        have l0 : wB.cell? ⟨w.heap.size, 0, none⟩ = some (.int .i64 L) := by rw [← hwB]; simp [go_sem]
        have l1 : wB.cell? ⟨w.heap.size, 1, none⟩ = some (.slice a js.length ca) := by rw [← hwB]; simp [go_sem]
        have y2 : wB.cell? ⟨w.heap.size + 1, 0, none⟩ = some (.slice aa l.length cl) := by rw [← hwB]; simp [go_sem]
        have y3 : wB.cell? ⟨w.heap.size + 1 + 1, 0, none⟩ = some (.int .i64 dir) := by rw [← hwB]; simp [go_sem]
        have y4 : wB.cell? ⟨w.heap.size + 1 + 1 + 1, 0, none⟩ = some (.int .i64 tp) := by rw [← hwB]; simp [go_sem]
        rw [hwB]
        clear hwB
        go_wp2_with (first | (go_at_call 27; refine (H1.out _ hb).mono ?_; rintro e w1 ⟨rfl, hb1⟩; replace hb := hb.trans (hb1.mono hb.size); replace l0 := cell_below l0 hb1; replace l1 := cell_below l1 hb1; replace y2 := cell_below y2 hb1; replace y3 := cell_below y3 hb1; replace y4 := cell_below y4 hb1; clear hb1) | (go_at_call 45; refine (K0.out _).mono ?_; rintro e w2 ⟨rfl, rfl⟩) | (go_at_call 46; refine (K1.out _).mono ?_; rintro e w2 ⟨rfl, rfl⟩) | (go_at_call 48; refine (K2.out _).mono ?_; rintro e w2 ⟨rfl, hb2⟩; replace hb := hb.trans (hb2.mono hb.size); replace l0 := cell_below l0 hb2; replace l1 := cell_below l1 hb2; replace y2 := cell_below y2 hb2; replace y3 := cell_below y3 hb2; replace y4 := cell_below y4 hb2; clear hb2))
        go_ret2
        exact ⟨rfl, hb⟩
      | true =>
        cases hx
theorem toldInfo : (Tryz.prog.info? 61).map (fun i => (i.zero, i.size, i.bytes)) = some (some (.agg #[.int .i64 0, .int .i64 0, .int .i64 0]), 3, 24) := by kernel_rfl
/-- What a metre was told: the hours at which it changes, and what holds from them on. -/
def hisL (L : Int) (js : List Int) (l : List Sgn) (dir tp m : Int) : List Tri := prtK (ascL (momL l [] ++ [0, 10000001])) (fun h => hldV L js l h dir tp m) (ascL (momL l [] ++ [0, 10000001])).length
set_option maxRecDepth 100000 in
set_option maxHeartbeats 4000000 in
theorem History_good (L : Int) (a : Option Addr) (js : List Int) (ca : Nat) (aa : Option Addr) (l : List Sgn) (cl : Nat) (dir tp m : Int) (hV : lstE L js l [] = 0) (h0 : dirB dir = true) (h1 : topB tp = true) (h2 : btw m 0 (L - 1) = true) (w : World) (hI : IntsS w a js) (hA : SgnS w aa l) :
    Calls Tryz.prog 23 #[.agg #[.int .i64 L, .slice a js.length ca], .slice aa l.length cl, .int .i64 dir, .int .i64 tp, .int .i64 m] w (TriA (hisL L js l dir tp m) 0 w) := by
  obtain ⟨hLb, hJ, hC, hn⟩ := lst_good hV
  obtain ⟨m1, m2, m3, m4⟩ := mom_good (q := []) (lst_sgns hV) (lst_edcs hV)
  have hml := mom_len m1 m2 m3
  have hm := btw_ge h2
  have HMB : Hid (∀ j, j < (momL l [] ++ [0, 10000001]).length → I64 (gi (momL l [] ++ [0, 10000001]) j)) := Lib.hid fun j hj => by
    have hj := gi_mem hj
    rw [List.mem_append] at hj
    unfold I64
    rcases hj with hj | hj
    · have := mom_in (fun x hx => (m4 x hx).1) hj
      omega
    · simp only [List.mem_cons, List.not_mem_nil, or_false] at hj
      omega
  have H1 := Lib.hid (fun W (hW : Below w.heap.size w W) => by
    have := listsError_r L a js ca aa l cl none [] 0 W (hI.below hW) (hA.below hW) (ed_nilR W)
    rw [hV] at this
    exact this)
  have K0 := Lib.hid (fun W => h0 ▸ isDir_r dir W)
  have K1 := Lib.hid (fun W => h1 ▸ isTopic_r tp W)
  have K2 := Lib.hid (fun W => h2 ▸ isMetre_r L a js.length ca m hLb.1 hLb.2 W)
  have HBg := Lib.hid (fun W => beginOf_r L a js.length ca dir m hLb.1 hLb.2 (by omega) (by omega) W)
  have HMo := Lib.hid (fun W (hW : Below w.heap.size w W) => moments_r aa l cl none [] 0 m1 m2 m3 m4 W (hA.below hW) (ed_nilR W))
  have HTo := Lib.hid (fun b1 b2 b3 b4 b5 hh W (hW : Below w.heap.size w W) g0 g1 g2 g3 g4 g5 => toldAt_r L a js ca aa l cl dir tp m hh b1 b2 b3 b4 b5 hV h1 h2 W (hI.below hW) (hA.below hW) g0 g1 g2 g3 g4 g5)
  have HRes : Hid (hisL L js l dir tp m = prtK (ascL (momL l [] ++ [0, 10000001])) (fun h => hldV L js l h dir tp m) (ascL (momL l [] ++ [0, 10000001])).length) := Lib.hid rfl
  obtain ⟨n0, hi, hz0, hz1, hz2⟩ := info_parts infoInt
  generalize begK L dir m = bk at *
  clear hI hA hV h0 h1 h2 hm hJ hC hLb hn m1 m2 m3 m4
  go_enter Tryz.func23, Tryz.ntmps23
  go_upto_region 1 with (fail)
  obtain ⟨wB, hwB⟩ : ∃ wB, ((((w.alloc (.cells #[.int .i64 L, .slice a js.length ca] 24)).alloc (.cells #[.slice aa l.length cl] 25)).alloc (.cells #[.int .i64 dir] 3)).alloc (.cells #[.int .i64 tp] 3)) = wB := ⟨_, rfl⟩
  have hb : Below w.heap.size w wB := by rw [← hwB]; exact ((((Below.refl _ _).alloc (Nat.le_refl _) _).alloc (by simp) _).alloc (by simp; omega) _).alloc (by simp; omega) _
  have hsz : w.heap.size + 3 < wB.heap.size := by rw [← hwB]; simp
  have l0 : wB.cell? ⟨w.heap.size, 0, none⟩ = some (.int .i64 L) := by rw [← hwB]; simp [go_sem]
  have l1 : wB.cell? ⟨w.heap.size, 1, none⟩ = some (.slice a js.length ca) := by rw [← hwB]; simp [go_sem]
  have y2 : wB.cell? ⟨w.heap.size + 1, 0, none⟩ = some (.slice aa l.length cl) := by rw [← hwB]; simp [go_sem]
  have y3 : wB.cell? ⟨w.heap.size + 1 + 1, 0, none⟩ = some (.int .i64 dir) := by rw [← hwB]; simp [go_sem]
  have y4 : wB.cell? ⟨w.heap.size + 1 + 1 + 1, 0, none⟩ = some (.int .i64 tp) := by rw [← hwB]; simp [go_sem]
  rw [hwB]
  clear hwB
  go_upto_region 7 with (first | (go_at_call 27; refine (H1.out _ hb).mono ?_; rintro e w1 ⟨rfl, hb1⟩; replace hb := hb.trans (hb1.mono hb.size); replace l0 := cell_below l0 hb1; replace l1 := cell_below l1 hb1; replace y2 := cell_below y2 hb1; replace y3 := cell_below y3 hb1; replace y4 := cell_below y4 hb1; clear hb1) | (go_at_call 45; refine (K0.out _).mono ?_; rintro e w2 ⟨rfl, rfl⟩) | (go_at_call 46; refine (K1.out _).mono ?_; rintro e w2 ⟨rfl, rfl⟩) | (go_at_call 48; refine (K2.out _).mono ?_; rintro e w2 ⟨rfl, hb2⟩; replace hb := hb.trans (hb2.mono hb.size); replace l0 := cell_below l0 hb2; replace l1 := cell_below l1 hb2; replace y2 := cell_below y2 hb2; replace y3 := cell_below y3 hb2; replace y4 := cell_below y4 hb2; clear hb2) | (go_at_call 51; refine (HBg.out _).mono ?_; rintro e w2 ⟨rfl, hb2⟩; replace hb := hb.trans (hb2.mono hb.size); replace l0 := cell_below l0 hb2; replace l1 := cell_below l1 hb2; replace y2 := cell_below y2 hb2; replace y3 := cell_below y3 hb2; replace y4 := cell_below y4 hb2; clear hb2))
  obtain ⟨wK, hwK⟩ : ∃ wK, w2.alloc (.cells #[.int .i64 bk] 3) = wK := ⟨_, rfl⟩
  have hbK : Below w2.heap.size w2 wK := by rw [← hwK]; exact (Below.refl _ _).alloc (Nat.le_refl _) _
  have y5 : wK.cell? ⟨w2.heap.size, 0, none⟩ = some (.int .i64 bk) := by rw [← hwK]; simp [go_sem]
  rw [hwK]
  clear hwK H1 K0 K1 K2 HBg hsz
  replace l0 := cell_below l0 hbK
  replace l1 := cell_below l1 hbK
  replace y2 := cell_below y2 hbK
  replace y3 := cell_below y3 hbK
  replace y4 := cell_below y4 hbK
  have HB := Lib.hid (hb.trans (hbK.mono hb.size))
  have HTK := Lib.hid (fun hh W (hW : Below wK.heap.size wK W) => HTo.out w.heap.size (w.heap.size + 1) (w.heap.size + 1 + 1) (w.heap.size + 1 + 1 + 1) w2.heap.size hh W (HB.out.trans (hW.mono HB.out.size)) (cell_below l0 hW) (cell_below l1 hW) (cell_below y2 hW) (cell_below y3 hW) (cell_below y4 hW) (cell_below y5 hW))
  have Y2 := Lib.hid y2
  clear HTo l0 l1 y3 y4 y5 hb hbK
  generalize momL l [] = Z at *
  have hZl : Z.length ≤ 2300 := hml
  clear hml
  go_wp2_with (first
    | (go_at_call 55; refine (HMo.out _ HB.out).mono ?_; rintro e w4 ⟨a4, c4, rfl, ho4, hb4⟩; have hown := Lib.hid (ho4.alloc (.cells #[.int .i64 0, .int .i64 10000001] 3)); have hbs := hb4.size; clear ho4)
    | (at_builtin; go_loud (refine wpList_append_lies _ rfl _ _ 22 rfl wK.heap.size 3 n0 _ 1 8 Tryz.underlying22 hi hz0 hz1 hz2 rfl (by decide) (.slice a4 Z.length c4) Z.length _ (by rfl) hown.out ⟨w4.heap.size, 0, none⟩ 2 2 [.int .i64 0, .int .i64 10000001] (by rfl) (by rfl) ?d1 ?d2 (by decide) ?d3 ?d4 ?d5 _ rfl ?_)))
  case d1 =>
    refine World.news_of_block (cs := #[.int .i64 0, .int .i64 10000001]) (t := 3) (fr := (0, 0)) ?_
    exact heap_alloc_new _ _
  case d2 => simp [Value.oneCell']
  case d3 => unfold maxLen; omega
  case d4 => omega
  case d5 => first | (simp; omega) | simp | omega
  intro g6 c6 w6 hown6 hgrow6 hat6 hlt6
  have hb6 : Below wK.heap.size wK w6 := (hb4.alloc hbs _).grown hgrow6 (by first | (simp; omega) | simp | omega) (fun z hz => owns_blockI hown.out hz)
  have hcI : IntsS w6 (some ⟨g6, 0, none⟩) (Z ++ [0, 10000001]) := by
    refine ints_own (base := wK.heap.size) (c := c6) (T := 3) ?_ (by simp; omega) HMB.out
    have e1 : (Z ++ [(0 : Int), 10000001]).length = Z.length + 2 := by simp
    have e2 : clI (Z ++ [(0 : Int), 10000001]) = clI Z ++ [.int .i64 0, .int .i64 10000001] := by unfold clI; simp
    rw [e1, e2]
    exact hown6
  have HCI := Lib.hid hcI
  have HLN : Hid (Z.length + 2 = (Z ++ [(0 : Int), 10000001]).length) := Lib.hid (by simp)
  have HCL : Hid ((Z ++ [(0 : Int), 10000001]).length ≤ 2302) := Lib.hid (by simp; omega)
  have HNE : Hid ((Z ++ [(0 : Int), 10000001]) ≠ []) := Lib.hid (by simp)
  rw [HLN.out]
  clear hown hgrow6 hat6 hlt6 hown6 hcI hb4 hbs HMo
  generalize Z ++ [(0 : Int), 10000001] = CU at *
  have HP := Lib.hid (partsH_r (some ⟨g6, 0, none⟩) CU c6 #[.pointer (some ⟨w.heap.size, 0, none⟩), .pointer (some ⟨w.heap.size + 1, 0, none⟩), .pointer (some ⟨w.heap.size + 1 + 1, 0, none⟩), .pointer (some ⟨w.heap.size + 1 + 1 + 1, 0, none⟩), .pointer (some ⟨w2.heap.size, 0, none⟩)] (fun h => hldV L js l h dir tp m) w6 HCI.out HNE.out (by have := HCL.out; omega) (fun hh W _ hW => HTK.out hh W (hb6.trans (hW.mono hb6.size))))
  have HLen : Hid ((prtK (ascL CU) (fun h => hldV L js l h dir tp m) (ascL CU).length).length ≤ CU.length) := Lib.hid (Nat.le_trans (prtK_len _ _ _) (asc_len CU))
  have HU : Hid (∀ W e w', PrtE W (ascL CU) (fun h => hldV L js l h dir tp m) e w' → ∃ b c, e = .returned (.slice b (prtK (ascL CU) (fun h => hldV L js l h dir tp m) (ascL CU).length).length c) ∧ w'.ownsRow W.heap.size 106 3 (.slice b (prtK (ascL CU) (fun h => hldV L js l h dir tp m) (ascL CU).length).length c) (prtK (ascL CU) (fun h => hldV L js l h dir tp m) (ascL CU).length).length (cl3 (prtK (ascL CU) (fun h => hldV L js l h dir tp m) (ascL CU).length)) ∧ Below W.heap.size W w') := Lib.hid fun W e w' h => h
  go_wp2_with (go_at_call 54; refine HP.out.mono ?_; rintro e w7 hw7; obtain ⟨b, c, rfl, hr7, hb7⟩ := HU.out _ _ _ hw7)
  generalize prtK (ascL CU) (fun h => hldV L js l h dir tp m) (ascL CU).length = P at *
  have hbo : Below w.heap.size w w7 := HB.out.trans ((hb6.trans (hb7.mono hb6.size)).mono HB.out.size)
  have HOwn := Lib.hid hr7
  have HCz : Hid (∀ k, k < P.length → ∃ g, b = some ⟨g, 0, none⟩ ∧ w7.cell? ⟨g, k * 3, none⟩ = some (.int .i64 (gt3 P k).1) ∧ w7.cell? ⟨g, k * 3 + 1, none⟩ = some (.int .i64 (gt3 P k).2.1) ∧ w7.cell? ⟨g, k * 3 + 2, none⟩ = some (.int .i64 (gt3 P k).2.2)) := Lib.hid fun k hk => by
    have h := HOwn.out
    rcases h.2 with ⟨h1, h2⟩ | ⟨g2, c2, cur, h1, _⟩
    · omega
    · obtain ⟨rfl, rfl⟩ : b = some ⟨g2, 0, none⟩ ∧ c = c2 := by simpa using h1
      have hh := cl3_c P k hk
      refine ⟨g2, rfl, ?_, ?_, ?_⟩
      · rw [World.ownsRow.cellAt h (k * 3) (by omega)]; exact hh.1
      · rw [World.ownsRow.cellAt h (k * 3 + 1) (by omega)]; exact hh.2.1
      · rw [World.ownsRow.cellAt h (k * 3 + 2) (by omega)]; exact hh.2.2
  have hPl : P.length ≤ 2302 := Nat.le_trans HLen.out HCL.out
  clear HOwn hr7 hb7 hw7 HU HP hb6 HTK HCI HLN HCL HNE HLen HMB Y2 y2
  obtain ⟨wo, rfl⟩ : ∃ wo : World, wo = w7 := ⟨_, rfl⟩
  obtain ⟨n1, hi1, hy0, hy1, hy2⟩ := info_parts toldInfo
  have HTS : Hid (∀ k, k < P.length → cl3 (P.take (k + 1)) = cl3 (P.take k) ++ [.int .i64 (gt3 P k).1, .int .i64 (gt3 P k).2.1, .int .i64 (gt3 P k).2.2]) := Lib.hid fun k hk => by
    rw [List.take_add_one, List.getElem?_eq_getElem hk]
    have : gt3 P k = P[k] := by unfold gt3; simp [hk]
    rw [this]
    exact cl3_app _ _
  go_wp2_with fail
  go_loopw [15, 50] (fun z i wr => ∃ k : Nat, k ≤ P.length ∧ i = .int .i64 k ∧ (∃ a c, z = .slice a k c) ∧ Hid (wr.ownsRow wo.heap.size 61 3 z k (cl3 (P.take k))) ∧ Below wo.heap.size wo wr) (fun _ i _ => P.length - (intOf i).toNat)
  case atStart => exact ⟨0, Nat.zero_le _, rfl, ⟨none, 0, rfl⟩, Lib.hid ⟨rfl, .inl ⟨rfl, rfl⟩⟩, Below.refl _ _⟩
  case round =>
    obtain ⟨k, hk, rfl, ⟨av, cv, rfl⟩, HRow, hbr⟩ := hrel
    by_cases hlt : k < P.length
    · obtain ⟨g, rfl, c0, c1, c2⟩ := HCz.out k hlt
      have c0 := cell_below c0 hbr
      have c1 := cell_below c1 hbr
      have c2 := cell_below c2 hbr
      have HN := Lib.hid (HTS.out k hlt)
      clear HCz HTS HRes
      generalize (gt3 P k).1 = x at *
      generalize (gt3 P k).2.1 = y at *
      generalize (gt3 P k).2.2 = v at *
      obtain ⟨M, hM⟩ : ∃ M, P.take k = M := ⟨_, rfl⟩
      have hMl : M.length = k := by rw [← hM]; simp; omega
      have HMl := Lib.hid hMl
      rw [hM] at HN HRow
      rw [← hMl] at HRow c0 c1 c2 ⊢
      clear hM
      have hk64 : (M.length : Int) < (P.length : Int) := by omega
      have hkk : M.length < P.length := by omega
      clear hMl hk hlt
      have hsz := hbr.size
      have hbA : Below wo.heap.size wo (wr.alloc (.cells #[.int .i64 x, .int .i64 y, .int .i64 v] 106)) := hbr.alloc hsz _
      have HRow := Lib.hid (HRow.out.alloc (.cells #[.int .i64 x, .int .i64 y, .int .i64 v] 106))
      have s0 : (wr.alloc (.cells #[.int .i64 x, .int .i64 y, .int .i64 v] 106)).cell? ⟨wr.heap.size, 0, none⟩ = some (.int .i64 x) := by simp [go_sem]
      have s1 : (wr.alloc (.cells #[.int .i64 x, .int .i64 y, .int .i64 v] 106)).cell? ⟨wr.heap.size, 1, none⟩ = some (.int .i64 y) := by simp [go_sem]
      have s2 : (wr.alloc (.cells #[.int .i64 x, .int .i64 y, .int .i64 v] 106)).cell? ⟨wr.heap.size, 2, none⟩ = some (.int .i64 v) := by simp [go_sem]
      obtain ⟨wA, hwA⟩ : ∃ wA, wr.alloc (.cells #[.int .i64 x, .int .i64 y, .int .i64 v] 106) = wA := ⟨_, rfl⟩
      rw [hwA] at s0 s1 s2 HRow hbA
      have hown := Lib.hid (HRow.out.alloc (.cells #[.int .i64 x, .int .i64 y, .int .i64 v] 61))
      have hbs := hbA.size
      go_wp2_with (first | (at_builtin; go_loud (refine wpList_append_lies _ rfl _ _ 57 rfl wo.heap.size 61 n1 _ 3 24 Tryz.underlying57 hi1 hy0 hy1 hy2 rfl (by decide) (.slice _ M.length cv) M.length _ (by rfl) hown.out ⟨wA.heap.size, 0, none⟩ 1 1 [.int .i64 x, .int .i64 y, .int .i64 v] (by rfl) (by rfl) ?d1 ?d2 (by decide) ?d3 ?d4 ?d5 _ rfl ?_)))
      case d1 =>
        refine World.news_of_block (cs := #[.int .i64 x, .int .i64 y, .int .i64 v]) (t := 61) (fr := (0, 0)) ?_
        exact heap_alloc_new _ _
      case d2 => simp [Value.oneCell']
      case d3 => unfold maxLen; omega
      case d4 => omega
      case d5 => first | (simp; omega) | simp | omega
      intro g6 c6 w6 hown6 hgrow6 hat6 hlt6
      have hb6 : Below wo.heap.size wo w6 := ((hbA.alloc hbs _).grown hgrow6 (by first | (simp; omega) | simp | omega) (fun z hz => owns_blockI hown.out hz))
      go_wp2_with fail
      go_roundw
      case rel => exact ⟨M.length + 1, by omega, by go_num, ⟨_, c6, rfl⟩, Lib.hid (by rw [show M.length + 1 = k + 1 by rw [HMl.out]] at hown6 ⊢; rw [HN.out]; exact hown6), hb6⟩
      case measure => simp [intOf]; omega
    · obtain rfl : k = P.length := by omega
      have hbw := hbo.trans (hbr.mono hbo.size)
      have HEnd : Hid (TriA P 0 w (.returned (.tuple #[.slice av P.length cv, .int .i64 0])) wr) := Lib.hid ⟨av, cv, rfl, tri_own (by have := HRow.out; rwa [List.take_length] at this) (by omega), hbw⟩
      clear HRow
      go_wp2_with fail
      go_ret2
      rw [HRes.out]
      exact HEnd.out
set_option maxRecDepth 100000 in
set_option maxHeartbeats 4000000 in
theorem History_any (L : Int) (a : Option Addr) (js : List Int) (ca : Nat) (aa : Option Addr) (l : List Sgn) (cl : Nat) (dir tp m : Int) (b9 r : Bool) (hr : r = (dirB dir && topB tp && btw m 0 (L - 1))) (w : World) (hI : IntsS w a js) (hA : SgnS w aa l) :
    Calls Tryz.prog 23 #[.agg #[.int .i64 L, .slice a js.length ca], .slice aa l.length cl, .int .i64 dir, .int .i64 tp, .int .i64 m] w (TriA (if whyK (lineB L js) true (sgnsB L js l) false b9 r = 0 then hisL L js l dir tp m else []) (whyK (lineB L js) true (sgnsB L js l) false b9 r) w) := by
  obtain ⟨k1, k2⟩ := lst_s L js l true b9 r
  by_cases hV : lstE L js l [] = 0
  · rw [k2 hV]
    cases hx : r with
    | false =>
      rw [if_pos rfl, if_neg (by decide)]
      refine (History_arg L a js ca aa l cl dir tp m hV (by rw [← hr]; exact hx) w hI hA).mono ?_
      rintro e w' ⟨rfl, hb⟩
      exact ⟨none, 0, rfl, tri_nil _, hb⟩
    | true =>
      rw [if_neg (show ¬ (true = false) by decide), if_pos rfl]
      rw [hx] at hr
      have hr := hr.symm
      simp only [Bool.and_eq_true] at hr
      exact History_good L a js ca aa l cl dir tp m hV hr.1.1 hr.1.2 hr.2 w hI hA
  · rw [k1 hV, if_neg hV]
    refine (History_bad L a js ca aa l cl dir tp m hV w hI hA).mono ?_
    rintro e w' ⟨rfl, hb⟩
    exact ⟨none, 0, rfl, tri_nil _, hb⟩
end Go.Proofs.YtlpdjinhkmgbgaaGreatDoor

namespace Go.Proofs.YtlpdjinhkmgbgaaGreatDoor
set_option linter.unusedVariables false
set_option linter.unusedSimpArgs false
open Go.RowKit

theorem cI_len (s : List Int) : (clI s).length = s.length * 1 := by unfold clI; simp
theorem cI_take (s : List Int) (k : Nat) : (clI s).take (k * 1) = clI (s.take k) := by unfold clI; simp
theorem cI_drop (s : List Int) (k : Nat) : (clI s).drop (k * 1) = clI (s.drop k) := by unfold clI; simp
theorem cI_app (s t : List Int) : clI (s ++ t) = clI s ++ clI t := by unfold clI; simp
theorem cI_one (s : List Int) : ∀ x, x ∈ clI s → x.oneCell' = true := fun x hx => by
  unfold clI at hx
  obtain ⟨y, -, rfl⟩ := List.mem_map.1 hx
  rfl
theorem cI_at (s : List Int) {k : Nat} (h : k < s.length) : (clI s)[k]? = some (.int .i64 (gi s k)) := by
  unfold clI
  rw [List.getElem?_map, List.getElem?_eq_getElem h, gi_at _ h]
  rfl
/-- What put returns: an own row. -/
def PutE (b0 : Nat) (Z : List Int) (w : World) (e : Ending) (w' : World) : Prop := ∃ a c, e = .returned (.slice a Z.length c) ∧ w'.ownsRow b0 3 1 (.slice a Z.length c) Z.length (clI Z) ∧ Below w.heap.size w w'
/-- Does the place go on down? -/
def cndH (h : Int) (out : List Int) (j : Nat) : Bool := decide (0 < j) && decide (h < gi out (j - 1))
theorem plcH_true {h : Int} {out : List Int} {j : Nat} (e : cndH h out j = true) : 0 < j ∧ plcH h out j = plcH h out (j - 1) := by
  unfold cndH at e
  rw [Bool.and_eq_true, decide_eq_true_eq, decide_eq_true_eq] at e
  obtain ⟨t, rfl⟩ : ∃ t, j = t + 1 := ⟨j - 1, by omega⟩
  rw [Nat.add_sub_cancel] at e ⊢
  exact ⟨e.1, plcH_yes e.2⟩
theorem plcH_false {h : Int} {out : List Int} {j : Nat} (e : cndH h out j = false) : plcH h out j = j := by
  unfold cndH at e
  cases j with
  | zero => rfl
  | succ t =>
    rw [decide_eq_true (by omega), Bool.true_and, decide_eq_false_iff_not, Nat.add_sub_cancel] at e
    exact plcH_no e
end Go.Proofs.YtlpdjinhkmgbgaaGreatDoor

namespace Go.Proofs.YtlpdjinhkmgbgaaGreatDoor
set_option linter.unusedVariables false
set_option linter.unusedSimpArgs false
open Go.RowKit

/-- Hours put one after the other. -/
def fH (P : List Int) : List Int := P.foldl putH []
theorem fH_snoc (P : List Int) (x : Int) : fH (P ++ [x]) = putH (fH P) x := by unfold fH; rw [List.foldl_append]; rfl
theorem fH_len (P : List Int) : (fH P).length ≤ P.length := by have := fold_len P []; unfold fH; simpa using this
theorem fH_two (P : List Int) (x y : Int) : fH (P ++ [x, y]) = putH (putH (fH P) x) y := by
  rw [show P ++ [x, y] = (P ++ [x]) ++ [y] by simp, fH_snoc, fH_snoc]
end Go.Proofs.YtlpdjinhkmgbgaaGreatDoor

namespace Go.Proofs.YtlpdjinhkmgbgaaGreatDoor
set_option linter.unusedVariables false
set_option linter.unusedSimpArgs false
open Go.RowKit

/-- The hours at which a metre is asked. -/
def hrsL (l : List Sgn) : List Int := putH (momL l []) 0
theorem hrs_asc (l : List Sgn) : (hrsL l).Pairwise (· < ·) := putH_asc (mom_asc l [])
theorem hrs_mem {l : List Sgn} {x : Int} : x ∈ hrsL l ↔ x ∈ momL l [] ∨ x = 0 := by
  unfold hrsL
  rw [putH_mem]
  constructor
  · rintro (h | ⟨h, -⟩)
    · exact .inl h
    · exact .inr h
  · rintro (h | h)
    · exact .inl h
    · exact .inr ⟨h, by omega⟩
theorem hrs_max {l : List Sgn} {x : Int} (h : x ∈ hrsL l) : x ≤ 10000000 := by
  rcases hrs_mem.1 h with h | h
  · exact (mom_mem.1 h).2
  · omega
theorem hrs_all (l : List Sgn) : ascL (momL l [] ++ [0, 10000001]) = hrsL l ++ [10000001] := by
  refine asc_unique (asc_pw _) ?_ fun x => ?_
  · refine List.pairwise_append.2 ⟨hrs_asc l, by simp, fun x hx y hy => ?_⟩
    have := hrs_max hx
    simp only [List.mem_singleton] at hy
    omega
  · rw [asc_iff, List.mem_append, List.mem_append, hrs_mem]
    simp only [List.mem_cons, List.not_mem_nil, or_false]
    constructor
    · rintro (h | h | h)
      · exact .inl (.inl h)
      · exact .inl (.inr h)
      · exact .inr h
    · rintro ((h | h) | h)
      · exact .inl h
      · exact .inr (.inl h)
      · exact .inr (.inr h)
theorem gi_left {l : List Int} (x : Int) {i : Nat} (h : i < l.length) : gi (l ++ [x]) i = gi l i := by
  rw [gi_at _ (by simp; omega), gi_at _ h, List.getElem_append_left h]
theorem gi_last (l : List Int) (x : Int) : gi (l ++ [x]) l.length = x := by
  rw [gi_at _ (by simp)]
  simp
theorem hrs_pos (l : List Sgn) : 0 < (hrsL l).length := List.length_pos_of_mem (hrs_mem.2 (.inr rfl))
theorem prtK_next (z : List Int) (f : Int → Int) (i : Nat) : prtK z f (i + 1 + 1) = prt1 (prtK z f (i + 1)) (gi z i) (gi z (i + 1)) (f (gi z i)) := by
  rw [prtK, if_neg (by omega), Nat.add_sub_cancel]
end Go.Proofs.YtlpdjinhkmgbgaaGreatDoor

namespace Go.Proofs.YtlpdjinhkmgbgaaGreatDoor
set_option linter.unusedVariables false
set_option linter.unusedSimpArgs false
set_option linter.unusedSectionVars false
open Go.RowKit

section
variable {V : Type} [DecidableEq V] [Inhabited V]
/-- Where the first i stretches end. -/
def endK (l : List (Int × Int × V)) (i : Nat) : Int := if i = 0 then 0 else (gtV l (i - 1)).2.1
/-- A stretch behind one that ends at a and holds u. -/
def StpQ (sk : V → Bool) (f : Int → V) (a : Int) (i : Nat) (u : V) (q : Int × Int × V) : Prop :=
  a ≤ q.1 ∧ q.1 < q.2.1 ∧ sk q.2.2 = false ∧ (0 < i → q.1 = a → q.2.2 ≠ u) ∧ (∀ m : Int, a ≤ m → m < q.1 → sk (f m) = true) ∧ (∀ m : Int, q.1 ≤ m → m < q.2.1 → f m = q.2.2)
def GoodV (sk : V → Bool) (f : Int → V) (l : List (Int × Int × V)) : Prop := ∀ i, i < l.length → StpQ sk f (endK l i) i (gtV l (i - 1)).2.2 (gtV l i)
theorem gtV_left (pre : List (Int × Int × V)) (q : Int × Int × V) {i : Nat} (h : i < pre.length) : gtV (pre ++ [q]) i = gtV pre i := by
  unfold gtV; rw [List.getD_eq_getElem?_getD, List.getD_eq_getElem?_getD, List.getElem?_append_left h]
theorem gtV_end (pre : List (Int × Int × V)) (q : Int × Int × V) : gtV (pre ++ [q]) pre.length = q := by
  unfold gtV; simp
theorem endK_left (pre : List (Int × Int × V)) (q : Int × Int × V) {i : Nat} (h : i ≤ pre.length) : endK (pre ++ [q]) i = endK pre i := by
  unfold endK
  by_cases h0 : i = 0
  · rw [if_pos h0, if_pos h0]
  · rw [if_neg h0, if_neg h0, gtV_left _ _ (by omega)]
theorem endK_end (pre : List (Int × Int × V)) (q : Int × Int × V) : endK (pre ++ [q]) (pre ++ [q]).length = q.2.1 := by
  unfold endK
  rw [if_neg (by simp), show (pre ++ [q]).length - 1 = pre.length by simp, gtV_end]
theorem endK_succ (l : List (Int × Int × V)) (i : Nat) : endK l (i + 1) = (gtV l i).2.1 := by
  unfold endK
  rw [if_neg (by omega), Nat.add_sub_cancel]
theorem good_snoc {sk : V → Bool} {f : Int → V} {pre : List (Int × Int × V)} {q : Int × Int × V} : GoodV sk f (pre ++ [q]) ↔ GoodV sk f pre ∧ StpQ sk f (endK pre pre.length) pre.length (gtV pre (pre.length - 1)).2.2 q := by
  have hu : ∀ i, 0 < i → i ≤ pre.length → gtV (pre ++ [q]) (i - 1) = gtV pre (i - 1) := fun i h0 h => gtV_left _ _ (by omega)
  have hs : ∀ {i : Nat} {a : Int} {u u' : V} {p : Int × Int × V}, (0 < i → u = u') → (StpQ sk f a i u p ↔ StpQ sk f a i u' p) := fun {i a u u' p} h => by
    unfold StpQ
    constructor
    · rintro ⟨h1, h2, h3, h4, h5, h6⟩
      exact ⟨h1, h2, h3, fun a0 a1 => by rw [← h a0]; exact h4 a0 a1, h5, h6⟩
    · rintro ⟨h1, h2, h3, h4, h5, h6⟩
      exact ⟨h1, h2, h3, fun a0 a1 => by rw [h a0]; exact h4 a0 a1, h5, h6⟩
  constructor
  · intro h
    refine ⟨fun i hi => ?_, ?_⟩
    · have := h i (by simp; omega)
      rw [endK_left _ _ (by omega), gtV_left _ _ hi] at this
      exact (hs (fun h0 => by rw [hu i h0 (by omega)])).1 this
    · have := h pre.length (by simp)
      rw [endK_left _ _ (Nat.le_refl _), gtV_end] at this
      exact (hs (fun h0 => by rw [hu _ h0 (Nat.le_refl _)])).1 this
  · rintro ⟨h1, h2⟩ i hi
    rw [List.length_append, List.length_singleton] at hi
    by_cases hp : i < pre.length
    · rw [endK_left _ _ (by omega), gtV_left _ _ hp]
      exact (hs (fun h0 => by rw [hu i h0 (by omega)])).2 (h1 i hp)
    · obtain rfl : i = pre.length := by omega
      rw [endK_left _ _ (Nat.le_refl _), gtV_end]
      exact (hs (fun h0 => by rw [hu _ h0 (Nat.le_refl _)])).2 h2
/-- The stretches metre by metre: in order, maximal, and nothing is left out. -/
theorem str_ok (sk : V → Bool) (f : Int → V) : ∀ n : Nat, GoodV sk f (strV sk f n) ∧ 0 ≤ endK (strV sk f n) (strV sk f n).length ∧ endK (strV sk f n) (strV sk f n).length ≤ n ∧ (∀ m : Int, endK (strV sk f n) (strV sk f n).length ≤ m → m < n → sk (f m) = true)
  | 0 => by
    refine ⟨fun i hi => absurd hi (Nat.not_lt_zero i), ?_, ?_, fun m h1 h2 => ?_⟩
    · show (0 : Int) ≤ 0; omega
    · show (0 : Int) ≤ 0; omega
    · have h1 : (0 : Int) ≤ m := h1
      have h2 : m < (0 : Int) := h2
      omega
  | n + 1 => by
    obtain ⟨g1, g2, g3, g4⟩ := str_ok sk f n
    rw [strV]
    generalize strV sk f n = S at *
    unfold st1V
    by_cases hv : sk (f n) = true
    · rw [if_pos hv]
      refine ⟨g1, g2, by omega, fun m h1 h2 => ?_⟩
      by_cases e : m < n
      · exact g4 m h1 e
      · obtain rfl : m = n := by omega
        exact hv
    · rw [if_neg hv]
      have hv0 : sk (f n) = false := by simpa using hv
      by_cases hc : 0 < S.length ∧ (gtV S (S.length - 1)).2.1 = n ∧ (gtV S (S.length - 1)).2.2 = f n
      · rw [if_pos hc]
        obtain ⟨c0, c1, c2⟩ := hc
        rcases List.eq_nil_or_concat S with rfl | ⟨pre, q, rfl⟩
        · simp at c0
        · rw [List.concat_eq_append] at *
          rw [gtV_snoc] at c1 c2 ⊢
          rw [set_snoc]
          rw [endK_end] at g2 g3 g4 ⊢
          obtain ⟨k1, a1, a2, a3, a4, a5, a6⟩ := good_snoc.1 g1
          refine ⟨good_snoc.2 ⟨k1, a1, ?_, ?_, ?_, a5, ?_⟩, ?_, ?_, ?_⟩
          · show q.1 < (n : Int) + 1; omega
          · exact hv0
          · intro h0 h1; show f n ≠ _; rw [← c2]; exact a4 h0 h1
          · intro m h1 h2
            show f m = f n
            have h2 : m < (n : Int) + 1 := h2
            by_cases e : m < n
            · rw [← c2]; exact a6 m h1 (by omega)
            · obtain rfl : m = n := by omega
              rfl
          · show 0 ≤ (n : Int) + 1; omega
          · show (n : Int) + 1 ≤ ((n + 1 : Nat) : Int); omega
          · intro m h1 h2
            have h1 : (n : Int) + 1 ≤ m := h1
            omega
      · rw [if_neg hc]
        rw [endK_end]
        refine ⟨good_snoc.2 ⟨g1, g3, ?_, hv0, ?_, ?_, ?_⟩, ?_, ?_, ?_⟩
        · show (n : Int) < n + 1; omega
        · intro h0 h1 h2
          have h1 : (n : Int) = endK S S.length := h1
          have h2 : f n = (gtV S (S.length - 1)).2.2 := h2
          refine hc ⟨h0, ?_, h2.symm⟩
          unfold endK at h1
          rw [if_neg (by omega)] at h1
          exact h1.symm
        · intro m h1 h2
          exact g4 m h1 h2
        · intro m h1 h2
          have h1 : (n : Int) ≤ m := h1
          have h2 : m < (n : Int) + 1 := h2
          obtain rfl : m = n := by omega
          rfl
        · show 0 ≤ (n : Int) + 1; omega
        · show (n : Int) + 1 ≤ ((n + 1 : Nat) : Int); omega
        · intro m h1 h2
          have h1 : (n : Int) + 1 ≤ m := h1
          omega
theorem end_mono {sk : V → Bool} {f : Int → V} {l : List (Int × Int × V)} (h : GoodV sk f l) : ∀ j, j ≤ l.length → ∀ i, i ≤ j → endK l i ≤ endK l j
  | 0, _, i, hi => by
    obtain rfl : i = 0 := by omega
    exact Int.le_refl _
  | j + 1, hj, i, hi => by
    by_cases e : i = j + 1
    · subst e; exact Int.le_refl _
    · have h1 := end_mono h j (by omega) i (by omega)
      obtain ⟨a1, a2, _⟩ := h j (by omega)
      rw [endK_succ]
      omega
theorem end_nonneg {sk : V → Bool} {f : Int → V} {l : List (Int × Int × V)} (h : GoodV sk f l) {j : Nat} (hj : j ≤ l.length) : 0 ≤ endK l j := by
  have := end_mono h j hj 0 (Nat.zero_le _)
  exact this
/-- The bounds of one stretch. -/
theorem str_bd {sk : V → Bool} {f : Int → V} {n i : Nat} (hi : i < (strV sk f n).length) : 0 ≤ endK (strV sk f n) i ∧ 0 ≤ (gtV (strV sk f n) i).1 ∧ (gtV (strV sk f n) i).2.1 ≤ n := by
  obtain ⟨g1, g2, g3, g4⟩ := str_ok sk f n
  have h1 := end_nonneg g1 (j := i) (by omega)
  have h2 := end_mono g1 _ (Nat.le_refl _) (i + 1) hi
  rw [endK_succ] at h2
  obtain ⟨a1, _⟩ := g1 i hi
  omega
theorem str_mem_bd {sk : V → Bool} {f : Int → V} {n : Nat} {p : Int × Int × V} (hp : p ∈ strV sk f n) : 0 ≤ p.1 ∧ p.1 < p.2.1 ∧ p.2.1 ≤ n := by
  obtain ⟨i, hi, e⟩ := List.getElem_of_mem hp
  have e2 : gtV (strV sk f n) i = p := by unfold gtV; simp [hi, e]
  obtain ⟨b1, b2, b3⟩ := str_bd hi
  obtain ⟨a1, a2, _⟩ := (str_ok sk f n).1 i hi
  rw [e2] at a2 b2 b3
  exact ⟨b2, a2, b3⟩
end
/-- What is laid on the metres ahead of B, the others nought. -/
def uptF (f : Int → Int) (B m : Int) : Int := if m < B then f m else 0
theorem uptL_same {f : Int → Int} {N : Nat} {a b : Int} (hab : a ≤ b) (h : ∀ m : Int, a ≤ m → m < b → f m = 0) : valK (uptF f a) N = valK (uptF f b) N := by
  unfold valK
  refine List.map_congr_left fun i _ => ?_
  unfold uptF
  by_cases h1 : (i : Int) < a
  · rw [if_pos h1, if_pos (by omega)]
  · rw [if_neg h1]
    by_cases h2 : (i : Int) < b
    · rw [if_pos h2, h _ (by omega) h2]
    · rw [if_neg h2]
theorem valK_at (f : Int → Int) {N j : Nat} (hj : j < N) : (valK f N)[j]? = some (f j) := by
  unfold valK; rw [List.getElem?_map, List.getElem?_range hj]; rfl
theorem uptL_set {f : Int → Int} {N m : Nat} (hm : m < N) : (valK (uptF f m) N).set m (f m) = valK (uptF f ((m : Int) + 1)) N := by
  refine List.ext_getElem? fun j => ?_
  by_cases hj : j < N
  · rw [valK_at _ hj, List.getElem?_set]
    by_cases e : m = j
    · subst e
      rw [if_pos rfl, if_pos (by rw [valK_len]; exact hm)]
      unfold uptF
      rw [if_pos (by omega)]
    · rw [if_neg e, valK_at _ hj]
      unfold uptF
      by_cases h1 : (j : Int) < m
      · rw [if_pos h1, if_pos (by omega)]
      · rw [if_neg h1, if_neg (by omega)]
  · rw [List.getElem?_eq_none (by rw [List.length_set, valK_len]; omega), List.getElem?_eq_none (by rw [valK_len]; omega)]
theorem uptL_all {f : Int → Int} {N : Nat} {b : Int} (h : ∀ m : Int, b ≤ m → m < N → f m = 0) : valK (uptF f b) N = valK f N := by
  unfold valK
  refine List.map_congr_left fun i hi => ?_
  have hi := List.mem_range.1 hi
  unfold uptF
  by_cases h1 : (i : Int) < b
  · rw [if_pos h1]
  · rw [if_neg h1, h _ (by omega) (by omega)]
theorem uptL_none (f : Int → Int) (N : Nat) : valK (uptF f 0) N = List.replicate N 0 := by
  refine List.ext_getElem? fun j => ?_
  by_cases hj : j < N
  · rw [valK_at _ hj, List.getElem?_replicate, if_pos hj]
    unfold uptF
    rw [if_neg (by omega)]
  · rw [List.getElem?_eq_none (by rw [valK_len]; omega), List.getElem?_eq_none (by simp; omega)]
theorem clI_set (l : List Int) (j : Nat) (v : Int) : (clI l).set j (.int .i64 v) = clI (l.set j v) := by
  unfold clI; rw [List.map_set]
theorem clI_rep (N : Nat) : clI (List.replicate N 0) = List.replicate N (.int .i64 0) := by
  unfold clI; rw [List.map_replicate]
/-- The gaps of one way. -/
def ownB (T D : Int) (p : Gp6) : Bool := p.1 == T && p.2.1 == D
def ownS (L : Int) (js : List Int) (l : List Sgn) (q : List Edc) (h T D : Int) : List Qud := strV skG (bothF L js l q h T D) L.toNat
theorem gapW_own (L : Int) (js : List Int) (l : List Sgn) (q : List Edc) (h tp dir T D : Int) : ((gapW L js l q h tp dir).filter (ownB T D)).map (·.2.2) = if tp = T ∧ dir = D then ownS L js l q h T D else [] := by
  unfold gapW ownS
  by_cases e : tp = T ∧ dir = D
  · obtain ⟨rfl, rfl⟩ := e
    rw [if_pos ⟨rfl, rfl⟩, List.filter_eq_self.2 (fun p hp => by
      obtain ⟨x, -, rfl⟩ := List.mem_map.1 hp
      unfold ownB; simp), List.map_map]
    exact List.map_id'' (fun _ => rfl) _
  · rw [if_neg e, List.filter_eq_nil_iff.2 (fun p hp => by
      obtain ⟨x, -, rfl⟩ := List.mem_map.1 hp
      unfold ownB
      simp only [Bool.and_eq_true, beq_iff_eq]
      exact e)]
    rfl
theorem gap_own_all {L : Int} {js : List Int} {l : List Sgn} {q : List Edc} {h T D : Int} (hT : topB T = true) (hD : dirB D = true) : ((gapK L js l q h 4).filter (ownB T D)).map (·.2.2) = ownS L js l q h T D := by
  have hT : T = 1 ∨ T = 2 := by unfold topB at hT; simpa using hT
  have hD : D = 1 ∨ D = -1 := by unfold dirB at hD; simpa using hD
  rw [gapK, gapK, gapK, gapK, gapK]
  simp only [List.filter_append, List.map_append, gapW_own, tpK, drK, List.filter_nil, List.map_nil, List.nil_append]
  rcases hT with rfl | rfl <;> rcases hD with rfl | rfl <;> simp
theorem gap_bd {L : Int} {js : List Int} {l : List Sgn} {q : List Edc} {h : Int} (hL : 0 ≤ L) {p : Gp6} : ∀ {k}, p ∈ gapK L js l q h k → 0 ≤ p.2.2.1 ∧ p.2.2.1 < p.2.2.2.1 ∧ p.2.2.2.1 ≤ L
  | 0, hp => by cases hp
  | k + 1, hp => by
    rw [gapK, List.mem_append] at hp
    rcases hp with hp | hp
    · exact gap_bd hL hp
    · unfold gapW at hp
      obtain ⟨x, hx, rfl⟩ := List.mem_map.1 hp
      obtain ⟨b1, b2, b3⟩ := str_mem_bd hx
      exact ⟨b1, b2, by show x.2.1 ≤ L; omega⟩
/-- How many of the first i gaps are of one way. -/
def ownN (T D : Int) (G : List Gp6) (i : Nat) : Nat := ((G.take i).filter (ownB T D)).length
theorem gg6_get {G : List Gp6} {i : Nat} (hi : i < G.length) : gg6 G i = G[i] := by unfold gg6; simp [hi]
theorem ownN_yes {T D : Int} {G : List Gp6} {i : Nat} (hi : i < G.length) (h : ownB T D (gg6 G i) = true) : ownN T D G (i + 1) = ownN T D G i + 1 ∧ ownN T D G i < ((G.filter (ownB T D)).map (·.2.2)).length ∧ gtV ((G.filter (ownB T D)).map (·.2.2)) (ownN T D G i) = (gg6 G i).2.2 := by
  rw [gg6_get hi] at *
  have e : G = G.take i ++ G[i] :: G.drop (i + 1) := by simp
  have e2 : G.filter (ownB T D) = (G.take i).filter (ownB T D) ++ G[i] :: (G.drop (i + 1)).filter (ownB T D) := by
    conv => lhs; rw [e]
    rw [List.filter_append, List.filter_cons, if_pos h]
  refine ⟨?_, ?_, ?_⟩
  · unfold ownN
    rw [List.take_add_one, List.getElem?_eq_getElem hi, Option.toList_some, List.filter_append, List.length_append, List.filter_cons, if_pos h]
    rfl
  · rw [e2]; unfold ownN; simp
  · rw [e2]
    unfold ownN gtV
    rw [List.getD_eq_getElem?_getD, List.getElem?_map, List.getElem?_append_right (Nat.le_refl _), Nat.sub_self]
    rfl
theorem ownN_no {T D : Int} {G : List Gp6} {i : Nat} (hi : i < G.length) (h : ownB T D (gg6 G i) = false) : ownN T D G (i + 1) = ownN T D G i := by
  rw [gg6_get hi] at h
  unfold ownN
  rw [List.take_add_one, List.getElem?_eq_getElem hi, Option.toList_some, List.filter_append, List.length_append, List.filter_cons, if_neg (by rw [h]; simp)]
  rfl
theorem ownN_zero (T D : Int) (G : List Gp6) : ownN T D G 0 = 0 := rfl
theorem ownN_all (T D : Int) (G : List Gp6) : ownN T D G G.length = ((G.filter (ownB T D)).map (·.2.2)).length := by
  unfold ownN; rw [List.take_length, List.length_map]
/-- Truth values of a function on n metres. -/
def blK (p : Int → Bool) (n : Nat) : List Bool := (List.range n).map fun i => p (i : Nat)
def clB (l : List Bool) : List Value := l.map .bool
theorem blK_len (p : Int → Bool) (n : Nat) : (blK p n).length = n := by unfold blK; simp
theorem blK_at (p : Int → Bool) {N j : Nat} (hj : j < N) : (blK p N)[j]? = some (p j) := by
  unfold blK; rw [List.getElem?_map, List.getElem?_range hj]; rfl
theorem clB_at (p : Int → Bool) {N j : Nat} (hj : j < N) : (clB (blK p N))[j]? = some (.bool (p j)) := by
  unfold clB; rw [List.getElem?_map, blK_at p hj]; rfl
def uptB (p : Int → Bool) (B m : Int) : Bool := decide (m < B) && p m
theorem uptB_same {p : Int → Bool} {N : Nat} {a b : Int} (hab : a ≤ b) (h : ∀ m : Int, a ≤ m → m < b → p m = false) : blK (uptB p a) N = blK (uptB p b) N := by
  unfold blK
  refine List.map_congr_left fun i _ => ?_
  unfold uptB
  by_cases h1 : (i : Int) < a
  · rw [decide_eq_true h1, decide_eq_true (by omega)]
  · rw [decide_eq_false h1]
    by_cases h2 : (i : Int) < b
    · rw [decide_eq_true h2, h _ (by omega) h2]; rfl
    · rw [decide_eq_false h2]
theorem uptB_set {p : Int → Bool} {N m : Nat} (hm : m < N) (hp : p m = true) : (clB (blK (uptB p m) N)).set m (.bool true) = clB (blK (uptB p ((m : Int) + 1)) N) := by
  unfold clB
  rw [← List.map_set]
  refine congrArg _ (List.ext_getElem? fun j => ?_)
  by_cases hj : j < N
  · rw [blK_at _ hj, List.getElem?_set]
    by_cases e : m = j
    · subst e
      rw [if_pos rfl, if_pos (by rw [blK_len]; exact hm)]
      unfold uptB
      rw [decide_eq_true (by omega), hp]; rfl
    · rw [if_neg e, blK_at _ hj]
      unfold uptB
      by_cases h1 : (j : Int) < m
      · rw [decide_eq_true h1, decide_eq_true (by omega)]
      · rw [decide_eq_false h1, decide_eq_false (by omega)]
  · rw [List.getElem?_eq_none (by rw [List.length_set, blK_len]; omega), List.getElem?_eq_none (by rw [blK_len]; omega)]
theorem uptB_all {p : Int → Bool} {N : Nat} {b : Int} (h : ∀ m : Int, b ≤ m → m < N → p m = false) : blK (uptB p b) N = blK p N := by
  unfold blK
  refine List.map_congr_left fun i hi => ?_
  have hi := List.mem_range.1 hi
  unfold uptB
  by_cases h1 : (i : Int) < b
  · rw [decide_eq_true h1]; rfl
  · rw [decide_eq_false h1, h _ (by omega) (by omega)]; rfl
theorem uptB_none (p : Int → Bool) (N : Nat) : clB (blK (uptB p 0) N) = List.replicate N (.bool false) := by
  refine List.ext_getElem? fun j => ?_
  by_cases hj : j < N
  · rw [clB_at _ hj, List.getElem?_replicate, if_pos hj]
    unfold uptB
    rw [decide_eq_false (by omega)]; rfl
  · rw [List.getElem?_eq_none (by unfold clB; rw [List.length_map, blK_len]; omega), List.getElem?_eq_none (by simp; omega)]
/-- What was told hour by hour. -/
theorem his_str {L : Int} {js : List Int} {l : List Sgn} {dir tp m : Int} (hV : lstE L js l [] = 0) (T : Int) (hT : T = 10000001) : hisL L js l dir tp m = strV (fun _ => false) (fun h => hldV L js l h dir tp m) T.toNat := by
  have hb : ∀ x, x ∈ hrs l [] → 0 ≤ x := fun x hx => (hrs_in (lst_sgns hV) (lst_edcs hV) hx).1
  have hin : ∀ c, c ∈ momL l [] ++ [0, 10000001] → 0 ≤ c ∧ c ≤ T := fun c hc => by
    rcases List.mem_append.1 hc with hc | hc
    · have := mom_in hb hc; omega
    · have : c = 0 ∨ c = 10000001 := by simpa using hc
      omega
  obtain ⟨e1, e2, e3⟩ := asc_ends (cuts := momL l [] ++ [0, 10000001]) (A := 0) (B := T) (by simp) (by rw [hT]; simp) hin
  have hA := asc_pw (momL l [] ++ [0, 10000001])
  have := parts_all (sk := fun _ => false) (f := fun h => hldV L js l h dir tp m) hA e1 e2 e3 (fun k hk i h1 h2 => by
    have hk0 : gi (ascL (momL l [] ++ [0, 10000001])) (k + 1) ≤ T := (hin _ ((asc_iff _ _).1 (gi_mem hk))).2
    have hg0 : 0 ≤ gi (ascL (momL l [] ++ [0, 10000001])) k := (hin _ ((asc_iff _ _).1 (gi_mem (by omega)))).1
    have := asc_lt (momL l [] ++ [0, 10000001]) (Nat.lt_succ_self k) hk
    refine (hld_hour (l := l) (q := []) (h := i) (g := gi (ascL (momL l [] ++ [0, 10000001])) k) (sameH_of (by omega) (by omega) (fun c hc => ?_)) L js dir tp m)
    obtain ⟨x, hx, ex⟩ := List.getElem_of_mem ((asc_iff (momL l [] ++ [0, 10000001]) c).2 (List.mem_append_left _ hc))
    have ex2 : gi (ascL (momL l [] ++ [0, 10000001])) x = c := by rw [gi_at _ hx]; exact ex
    constructor
    · intro hci
      by_cases hxk : x ≤ k
      · rcases Nat.lt_or_eq_of_le hxk with hlt | heq
        · have := asc_lt (momL l [] ++ [0, 10000001]) hlt (by omega)
          omega
        · rw [← ex2, heq]; exact Int.le_refl _
      · exfalso
        have : gi (ascL (momL l [] ++ [0, 10000001])) (k + 1) ≤ c := by
          rcases Nat.lt_or_eq_of_le (show k + 1 ≤ x by omega) with hlt | heq
          · have := asc_lt (momL l [] ++ [0, 10000001]) hlt hx
            omega
          · rw [← ex2, heq]; exact Int.le_refl _
        omega
    · intro hcg
      omega)
  unfold hisL
  rw [prtK_V, ← this]
  unfold fltV
  exact (List.filter_eq_self.2 (fun p hp => rfl)).symm
/-- What was told is from hour to hour, to the last one. -/
theorem his_ok {L : Int} {js : List Int} {l : List Sgn} {dir tp m : Int} (hV : lstE L js l [] = 0) :
    (∀ i, i < (hisL L js l dir tp m).length → (gtV (hisL L js l dir tp m) i).1 = endK (hisL L js l dir tp m) i ∧ endK (hisL L js l dir tp m) i < (gtV (hisL L js l dir tp m) i).2.1 ∧ (∀ h : Int, endK (hisL L js l dir tp m) i ≤ h → h < (gtV (hisL L js l dir tp m) i).2.1 → hldV L js l h dir tp m = (gtV (hisL L js l dir tp m) i).2.2)) ∧ endK (hisL L js l dir tp m) (hisL L js l dir tp m).length = 10000001 := by
  obtain ⟨T, hT⟩ : ∃ T : Int, T = 10000001 := ⟨_, rfl⟩
  rw [his_str hV T hT]
  obtain ⟨g1, g2, g3, g4⟩ := str_ok (fun _ => false) (fun h => hldV L js l h dir tp m) T.toNat
  refine ⟨fun i hi => ?_, ?_⟩
  · obtain ⟨a1, a2, a3, a4, a5, a6⟩ := g1 i hi
    have e : (gtV (strV (fun _ => false) (fun h => hldV L js l h dir tp m) T.toNat) i).1 = endK (strV (fun _ => false) (fun h => hldV L js l h dir tp m) T.toNat) i := by
      by_cases hh : endK (strV (fun _ => false) (fun h => hldV L js l h dir tp m) T.toNat) i < (gtV (strV (fun _ => false) (fun h => hldV L js l h dir tp m) T.toNat) i).1
      · have := a5 _ (Int.le_refl _) hh
        cases this
      · omega
    rw [e] at a2 a6
    exact ⟨e, a2, a6⟩
  · by_cases hh : endK (strV (fun _ => false) (fun h => hldV L js l h dir tp m) T.toNat) (strV (fun _ => false) (fun h => hldV L js l h dir tp m) T.toNat).length < T.toNat
    · have := g4 _ (Int.le_refl _) hh
      cases this
    · omega
end Go.Proofs.YtlpdjinhkmgbgaaGreatDoor
