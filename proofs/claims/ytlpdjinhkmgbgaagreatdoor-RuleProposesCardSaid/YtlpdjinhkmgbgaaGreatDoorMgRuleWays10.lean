/-
  wanted and Wanted; Held at any arguments. By an AI agent.; Lists of signs made of others: what speaks, what is covered, what plays no part. By an AI agent.; Rows of one's own side by side: append of one element to one of them leaves the others. By an AI agent.; Rows of signs as values: cells, append; Holds at such a row. By an AI agent.; Parts of pairs of package rule, and what Compare asks of them. By an AI agent.
-/
import Derived.Test.YtlpdjinhkmgbgaaGreatDoorMgRuleWays6
import Derived.Test.YtlpdjinhkmgbgaaGreatDoorMgRuleWays7
import Derived.Test.YtlpdjinhkmgbgaaGreatDoorMgRuleWays8
import Derived.Test.YtlpdjinhkmgbgaaGreatDoorMgRuleWays9
import Derived.Deep.RegionHeld3
import Derived.Deep.AppendLies
import Derived.BigQuiet
import Derived.BigRegion
import Derived.Below
import Derived.Deep.DeepCutAuto
import Derived.StillTailTactics

namespace Go.Proofs.YtlpdjinhkmgbgaaGreatDoor
set_option linter.unusedVariables false
set_option linter.unusedSimpArgs false
open Go.RowKit

set_option maxRecDepth 100000 in
set_option maxHeartbeats 1000000 in
theorem wanted1_r (ae : Option Addr) (q : List Edc) (cq eb hb wb : Nat) (h tp dir m : Int) (w : World) (hE : EdS w ae q)
    (c0 : w.cell? ⟨eb, 0, none⟩ = some (.slice ae q.length cq)) (c1 : w.cell? ⟨hb, 0, none⟩ = some (.int .i64 h)) (c2 : w.cell? ⟨wb, 0, none⟩ = some (.int .i64 tp)) (c3 : w.cell? ⟨wb, 1, none⟩ = some (.int .i64 dir)) :
    Calls Tryz.prog 72 (#[.int .i64 m] ++ #[.pointer (some ⟨eb, 0, none⟩), .pointer (some ⟨hb, 0, none⟩), .pointer (some ⟨wb, 0, none⟩)]) w fun e w' => e = .returned (.int .i64 (mustV q h tp dir m)) ∧ Below w.heap.size w w' := by
  change Calls Tryz.prog 72 #[.int .i64 m, .pointer (some ⟨eb, 0, none⟩), .pointer (some ⟨hb, 0, none⟩), .pointer (some ⟨wb, 0, none⟩)] w _
  have HM := Lib.hid (mustAt_r ae q cq h tp dir m w hE)
  clear hE
  go_enter Tryz.func72, Tryz.ntmps72
  go_wp2_with (go_at_call 52; refine HM.out.mono ?_; rintro e w3 ⟨rfl, hb3⟩)
  go_ret
  exact ⟨rfl, hb3⟩
set_option maxRecDepth 100000 in
set_option maxHeartbeats 4000000 in
theorem partsW_r (a : Option Addr) (cuts : List Int) (ca : Nat) (lb : Array Value) (f : Int → Int) (w : World) (hA : IntsS w a cuts) (hne : cuts ≠ []) (hn : cuts.length ≤ 1000000)
    (hf : ∀ m W, m ∈ cuts → Below w.heap.size w W → Calls Tryz.prog 72 (#[.int .i64 m] ++ lb) W fun e w' => e = .returned (.int .i64 (f m)) ∧ Below W.heap.size W w') :
    Calls Tryz.prog 54 #[.slice a cuts.length ca, .func (.func 72) #[] lb] w (PrtE w (ascL cuts) f) := by
  obtain ⟨hlen, -, blk, off, hadr, hc⟩ := hA
  obtain rfl := hadr hne
  have HV := Lib.hid (fun W => values_in (some ⟨blk, off, none⟩) cuts.length ca W)
  have hbk : blk < w.heap.size := block_lt (hc 0 (by cases cuts with | nil => exact absurd rfl hne | cons x l => simp))
  have HS := Lib.hid (sorted_in w.heap.size blk off ca cuts (by omega) (w.alloc (.cells #[.slice (some ⟨blk, off, none⟩) cuts.length ca] 22)) (by simp) (by simp; omega) (by simp [go_sem]) (fun j hj => by
    rw [((Below.refl w.heap.size w).alloc (Nat.le_refl _) _).cell (p := ⟨blk, off + j, none⟩) hbk, hc j hj]; simp [gi]))
  have HC := Lib.hid (fun W a c (h : W.ownsRow (w.heap.size + 1) 3 1 (.slice a cuts.length c) cuts.length (clI (srt cuts))) => compact_own (w.heap.size + 1) c a (srt cuts) W (by rw [srt_len]; exact h) (by rw [srt_len]; omega))
  have HF := Lib.hid hf
  have HZ : Hid (0 < (ascL cuts).length ∧ (ascL cuts).length ≤ cuts.length ∧ ∀ k, k < (ascL cuts).length → gi (ascL cuts) k ∈ cuts) := Lib.hid ⟨asc_pos hne, asc_len cuts, fun k hk => asc_mem hk⟩
  have HL : Hid (Lib.compact (srt cuts) = ascL cuts) := Lib.hid rfl
  rw [HL.out, srt_len] at HC
  generalize ascL cuts = z at *
  obtain ⟨n0, hi, hz0, hz1, hz2⟩ := info_parts partInfo
  clear hf hc hadr HL hlen
  go_enter Tryz.func54, Tryz.ntmps54
  go_wp2_with (first | (go_at_call 75; refine (HV.out _).mono ?_; rintro e w7 ⟨rfl, rfl⟩) | (go_at_call 74; refine HS.out.mono ?_; rintro e w8 ⟨a8, c8, rfl, hr8, hb8⟩; have HC8 := Lib.hid (HC.out _ _ _ (by simpa using hr8)); have hz8 := hb8.size) | (go_at_call 73; refine HC8.out.mono ?_; rintro e w9 ⟨rfl, hr9, hb9⟩))
  have hbo : Below w.heap.size w w9 := ((Below.refl w.heap.size w).alloc (Nat.le_refl _) _).trans ((hb8.mono (by simp)).trans ((hb9 (by simp at hz8; omega)).mono (by omega)))
  have HOwn := Lib.hid hr9
  clear hr9 hb9 hb8 hr8 HC HC8 HS HV hz8
  have HCz : Hid (∀ k, k < z.length → ∃ g, a8 = some ⟨g, 0, none⟩ ∧ w9.cell? ⟨g, k, none⟩ = some (.int .i64 (gi z k))) := Lib.hid fun k hk => by
    have h := HOwn.out
    rcases h.2 with ⟨h1, h2⟩ | ⟨g2, c2, cur, h1, _⟩
    · omega
    · obtain ⟨rfl, rfl⟩ : a8 = some ⟨g2, 0, none⟩ ∧ c8 = c2 := by simpa using h1
      refine ⟨g2, rfl, ?_⟩
      rw [World.ownsRow.cellAt h k (by omega)]
      exact clI_get z (by omega)
  clear HOwn
  obtain ⟨hzp, hzl, -⟩ := HZ.out
  obtain ⟨wo, rfl⟩ : ∃ wo : World, wo = w9 := ⟨_, rfl⟩
  go_wp2_with fail
  go_loopw [6, 7] (fun q i wr => ∃ k : Nat, 0 < k ∧ k ≤ z.length ∧ i = .int .i64 k ∧ (∃ a c, q = .slice a (prtK z f k).length c) ∧ Hid (wr.ownsRow wo.heap.size 106 3 q (prtK z f k).length (cl3 (prtK z f k))) ∧ Below wo.heap.size wo wr) (fun _ i _ => z.length - (intOf i).toNat)
  case atStart => exact ⟨1, by omega, by omega, rfl, ⟨none, 0, rfl⟩, Lib.hid ⟨rfl, .inl ⟨rfl, rfl⟩⟩, Below.refl _ _⟩
  case round =>
    obtain ⟨k, hk0, hk, rfl, ⟨av, cv, rfl⟩, HRow, hbr⟩ := hrel
    by_cases hlt : k < z.length
    · have hkl := prtK_len z f k
      obtain ⟨t, hti⟩ : ∃ t : Nat, (k : Int) - 1 = (t : Int) := ⟨k - 1, by omega⟩
      have htz : t < z.length := by omega
      have htw : IntKind.i64.wrap ((k : Int) - 1) = (t : Int) := by rw [hti]; exact IntWalk.i64_in _ (by omega)
      obtain ⟨g, rfl, c0⟩ := HCz.out t htz
      obtain ⟨g', hg', c1⟩ := HCz.out k hlt
      obtain rfl : g = g' := by simpa using hg'
      have c0 := cell_below c0 hbr
      have c1 := cell_below c1 hbr
      have hmx := HZ.out.2.2 t htz
      have hbw := hbo.trans (hbr.mono hbo.size)
      have HN : Hid (prtK z f (k + 1) = prt1 (prtK z f k) (gi z t) (gi z k) (f (gi z t))) := Lib.hid (by rw [prtK, if_neg (by omega), show k - 1 = t by omega])
      have HFx := Lib.hid (fun W (hW : Below w.heap.size w W) => HF.out (gi z t) W hmx hW)
      clear hg' hmx HCz HF HZ
      generalize f (gi z t) = v at *
      generalize gi z t = x at *
      generalize gi z k = y at *
      obtain ⟨S, hS⟩ : ∃ S, prtK z f k = S := ⟨_, rfl⟩
      rw [hS] at HN HRow hkl ⊢
      clear hS
      have hk64 : (k : Int) < (z.length : Int) := by omega
      go_wp2_with fail
      go_quiet (fail)
      have hbA := below_drewN hbr nq
      have hbB := below_drewN hbw nq
      have HRow := Lib.hid (owns_belowI HRow.out (below_drewN (Below.refl wr.heap.size wr) nq))
      generalize wr.drewN nq = wA at hbA hbB HRow ⊢
      clear c0 c1
      go_wp2_with fail
      refine (HFx.out _ hbB).mono ?_
      rintro e w7 ⟨rfl, hb7⟩
      have hbA := hbA.trans (hb7.mono hbA.size)
      have HRow := Lib.hid (owns_belowI HRow.out hb7)
      clear hbB hb7 HFx
      generalize w7 = wA at hbA HRow ⊢
      by_cases h0 : S.length = 0
      · have hS0 := List.eq_nil_of_length_eq_zero h0
        subst hS0
        have HAP : Hid (prtK z f (k + 1) = [(x, y, v)]) := Lib.hid (by rw [HN.out]; rfl)
        clear HN
        have HAP : Hid (0 + 1 = (prtK z f (k + 1)).length ∧ ([] : List Value) ++ [.int .i64 x, .int .i64 y, .int .i64 v] = cl3 (prtK z f (k + 1))) := Lib.hid (by rw [HAP.out]; exact ⟨rfl, rfl⟩)
        have HRow : Hid (wA.ownsRow wo.heap.size 106 3 (.slice av 0 cv) 0 []) := HRow
        clear h0
        have hown := Lib.hid (HRow.out.alloc (.cells #[.int .i64 x, .int .i64 y, .int .i64 v] 106))
        have hbs := hbA.size
        go_wp2_with (first | (at_builtin; go_loud (refine wpList_append_lies _ rfl _ _ 102 rfl wo.heap.size 106 n0 _ 3 24 Tryz.underlying102 hi hz0 hz1 hz2 rfl (by decide) (.slice _ 0 cv) 0 _ (by rfl) hown.out ⟨wA.heap.size, 0, none⟩ 1 1 [.int .i64 x, .int .i64 y, .int .i64 v] (by rfl) (by rfl) ?d1 ?d2 (by decide) ?d3 ?d4 ?d5 _ rfl ?_)))
        case d1 =>
          refine World.news_of_block (cs := #[.int .i64 x, .int .i64 y, .int .i64 v]) (t := 106) (fr := (0, 0)) ?_
          exact heap_alloc_new _ _
        case d2 => simp [Value.oneCell']
        case d3 => unfold maxLen; omega
        case d4 => omega
        case d5 => first | (simp; omega) | simp | omega
        intro g6 c6 w6 hown6 hgrow6 hat6 hlt6
        have hb6 : Below wo.heap.size wo w6 := ((hbA.alloc hbs _).grown hgrow6 (by first | (simp; omega) | simp | omega) (fun z hz => owns_blockI hown.out hz))

        go_wp2_with fail
        go_roundw
        case rel => exact ⟨k + 1, by omega, by omega, by go_num, ⟨_, c6, by rw [← HAP.out.1]⟩, Lib.hid (by rw [← HAP.out.1, ← HAP.out.2]; exact hown6), hb6⟩
        case measure => simp [intOf]; omega
      · obtain ⟨u, hu⟩ : ∃ u, S.length = u + 1 := ⟨S.length - 1, by omega⟩
        have hui : (S.length : Int) - 1 = (u : Int) := by omega
        have hu0 : (0 : Int) ≤ (u : Int) := by omega
        have hu2 : (u : Int) < (S.length : Int) := by omega
        have huw : IntKind.i64.wrap ((S.length : Int) - 1) = (u : Int) := by rw [hui]; exact IntWalk.i64_in _ (by omega)
        obtain ⟨gj, hgj⟩ : ∃ gj, av = some ⟨gj, 0, none⟩ := by
          rcases HRow.out.2 with ⟨h1, h2⟩ | ⟨g2, c2, cur, h1, _⟩
          · omega
          · exact ⟨g2, by simpa using (Value.slice.inj h1).1⟩
        subst hgj
        have cy := World.ownsRow.cellAt HRow.out (u * 3 + 2) (by omega)
        rw [(cl3_c S u (by omega)).2.2] at cy
        have cx := World.ownsRow.cellAt HRow.out (u * 3 + 1) (by omega)
        rw [(cl3_c S u (by omega)).2.1] at cx
        have fx := World.ownsRow.frozenAt HRow.out (u * 3 + 1)
        have hgl : wo.heap.size ≤ gj := by
          rcases HRow.out.2 with ⟨h1, h2⟩ | ⟨g2, c2, cur, h1, h2, _⟩
          · omega
          · have : gj = g2 := by simpa using (Value.slice.inj h1).1
            omega
        have HJ : Hid (prt1 S x y v = if (gt3 S u).2.2 = v then S.set u ((gt3 S u).1, y, v) else S ++ [(x, y, v)]) := Lib.hid (by
          unfold prt1
          rw [show S.length - 1 = u by omega]
          by_cases hx : (gt3 S u).2.2 = v
          · rw [if_pos ⟨by omega, hx⟩, if_pos hx]
          · rw [if_neg (fun h => hx h.2), if_neg hx])
        have HSE := Lib.hid (cl3_set S u y (by omega))
        by_cases hx : (gt3 S u).2.2 = v
        · have hJ := HJ.out
          rw [if_pos hx] at hJ
          have HNn : Hid (prtK z f (k + 1) = S.set u ((gt3 S u).1, y, (gt3 S u).2.2)) := Lib.hid (by rw [HN.out, hJ, hx])
          clear hJ HJ HN
          have HST : Hid (∀ W : World, W.ownsRow wo.heap.size 106 3 (.slice (some ⟨gj, 0, none⟩) S.length cv) S.length (cl3 S) → (W.setCell ⟨gj, u * 3 + 1, none⟩ (.int .i64 y)).ownsRow wo.heap.size 106 3 (.slice (some ⟨gj, 0, none⟩) (prtK z f (k + 1)).length cv) (prtK z f (k + 1)).length (cl3 (prtK z f (k + 1)))) := Lib.hid fun W h => by
            rw [HNn.out, List.length_set, ← HSE.out]
            exact (World.ownsRow.stored h (u * 3 + 1) (.int .i64 y)).1
          have HLn : Hid ((prtK z f (k + 1)).length = S.length) := Lib.hid (by rw [HNn.out, List.length_set])
          clear HNn HSE hu
          generalize (gt3 S u).2.2 = q at *
          generalize (gt3 S u).2.1 = q1 at *
          subst hx
          go_wp2_with fail
          go_roundw
          case rel => exact ⟨k + 1, by omega, by omega, by go_num, ⟨_, cv, by rw [HLn.out]⟩, Lib.hid (by have := HST.out _ HRow.out; rwa [HLn.out] at this ⊢), hbA.setCell (p := ⟨gj, u * 3 + 1, none⟩) hgl _⟩
          case measure => simp [intOf]; omega
        · have hJ := HJ.out
          rw [if_neg hx] at hJ
          have HAP : Hid (S.length + 1 = (prtK z f (k + 1)).length ∧ cl3 S ++ [.int .i64 x, .int .i64 y, .int .i64 v] = cl3 (prtK z f (k + 1))) := Lib.hid (by rw [HN.out, hJ, cl3_app]; exact ⟨by simp, rfl⟩)
          clear hJ HJ HN hu cx fx HSE
          generalize (gt3 S u).2.2 = q at *
          have hqv : (q == v) = false := beq_false_of_ne hx
          have hown := Lib.hid (HRow.out.alloc (.cells #[.int .i64 x, .int .i64 y, .int .i64 v] 106))
          have hbs := hbA.size
          go_wp2_with (first | (at_builtin; go_loud (refine wpList_append_lies _ rfl _ _ 102 rfl wo.heap.size 106 n0 _ 3 24 Tryz.underlying102 hi hz0 hz1 hz2 rfl (by decide) (.slice _ S.length cv) S.length _ (by rfl) hown.out ⟨wA.heap.size, 0, none⟩ 1 1 [.int .i64 x, .int .i64 y, .int .i64 v] (by rfl) (by rfl) ?d1 ?d2 (by decide) ?d3 ?d4 ?d5 _ rfl ?_)))
          case d1 =>
            refine World.news_of_block (cs := #[.int .i64 x, .int .i64 y, .int .i64 v]) (t := 106) (fr := (0, 0)) ?_
            exact heap_alloc_new _ _
          case d2 => simp [Value.oneCell']
          case d3 => unfold maxLen; omega
          case d4 => omega
          case d5 => first | (simp; omega) | simp | omega
          intro g6 c6 w6 hown6 hgrow6 hat6 hlt6
          have hb6 : Below wo.heap.size wo w6 := ((hbA.alloc hbs _).grown hgrow6 (by first | (simp; omega) | simp | omega) (fun z hz => owns_blockI hown.out hz))

          go_wp2_with fail
          go_roundw
          case rel => exact ⟨k + 1, by omega, by omega, by go_num, ⟨_, c6, by rw [← HAP.out.1]⟩, Lib.hid (by rw [← HAP.out.1, ← HAP.out.2]; exact hown6), hb6⟩
          case measure => simp [intOf]; omega
    · obtain rfl : k = z.length := by omega
      have hbw := hbo.trans (hbr.mono hbo.size)
      have HEnd : Hid (PrtE w z f (.returned (.slice av (prtK z f z.length).length cv)) wr) := Lib.hid ⟨av, cv, rfl, owns_baseI HRow.out hbo.size, hbw⟩
      clear HRow
      go_wp2_with fail
      go_ret
      exact HEnd.out
set_option maxRecDepth 100000 in
set_option maxHeartbeats 4000000 in
theorem heldW_r (a : Option Addr) (cuts : List Int) (ca : Nat) (lb : Array Value) (f : Int → Int) (w : World) (hA : IntsS w a cuts) (hne : cuts ≠ []) (hn : cuts.length ≤ 1000000)
    (hf : ∀ m W, m ∈ cuts → Below w.heap.size w W → Calls Tryz.prog 72 (#[.int .i64 m] ++ lb) W fun e w' => e = .returned (.int .i64 (f m)) ∧ Below W.heap.size W w') :
    Calls Tryz.prog 47 #[.agg #[.func (.func 72) #[] lb, .slice a cuts.length ca]] w (HldE w (heldL (prtK (ascL cuts) f (ascL cuts).length))) := by
  have HP := Lib.hid (fun W (hW : Below w.heap.size w W) => partsW_r a cuts ca lb f W (hA.below hW) hne hn (fun m W' hm hb => hf m W' hm (below_onR hW hb)))
  have HLen : Hid ((prtK (ascL cuts) f (ascL cuts).length).length ≤ cuts.length) := Lib.hid (Nat.le_trans (prtK_len _ _ _) (asc_len cuts))
  obtain ⟨n0, hi, hz0, hz1, hz2⟩ := info_parts heldInfo
  have HU : Hid (∀ W e w', PrtE W (ascL cuts) f e w' → ∃ b c, e = .returned (.slice b (prtK (ascL cuts) f (ascL cuts).length).length c) ∧ w'.ownsRow W.heap.size 106 3 (.slice b (prtK (ascL cuts) f (ascL cuts).length).length c) (prtK (ascL cuts) f (ascL cuts).length).length (cl3 (prtK (ascL cuts) f (ascL cuts).length)) ∧ Below W.heap.size W w') := Lib.hid fun W e w' h => h
  clear hf hA
  go_enter Tryz.func47, Tryz.ntmps47
  go_wp2_with (go_at_call 54; refine (HP.out _ ((Below.refl w.heap.size w).alloc (Nat.le_refl _) _)).mono ?_; rintro e w7 hw7; obtain ⟨b, c, rfl, hr7, hb7⟩ := HU.out _ _ _ hw7)
  generalize prtK (ascL cuts) f (ascL cuts).length = P at *
  have hbo : Below w.heap.size w w7 := below_onR ((Below.refl w.heap.size w).alloc (Nat.le_refl _) _) hb7
  have HOwn := Lib.hid hr7
  have HCz : Hid (∀ k, k < P.length → ∃ g, b = some ⟨g, 0, none⟩ ∧ w7.cell? ⟨g, k * 3, none⟩ = some (.int .i64 (gt3 P k).1) ∧ w7.cell? ⟨g, k * 3 + 1, none⟩ = some (.int .i64 (gt3 P k).2.1) ∧ w7.cell? ⟨g, k * 3 + 2, none⟩ = some (.int .i64 (gt3 P k).2.2)) := Lib.hid fun k hk => by
    have h := HOwn.out
    rcases h.2 with ⟨h1, h2⟩ | ⟨g2, c2, cur, h1, _⟩
    · omega
    · obtain ⟨rfl, rfl⟩ : b = some ⟨g2, 0, none⟩ ∧ c = c2 := by simpa using h1
      have hh := cl3_c P k hk
      refine ⟨g2, rfl, ?_, ?_, ?_⟩
      · rw [World.ownsRow.cellAt h (k * 3) (by omega)]; exact hh.1
      · rw [World.ownsRow.cellAt h (k * 3 + 1) (by omega)]; exact hh.2.1
      · rw [World.ownsRow.cellAt h (k * 3 + 2) (by omega)]; exact hh.2.2
  clear HOwn hr7 hb7 hw7 HU HP
  obtain ⟨wo, rfl⟩ : ∃ wo : World, wo = w7 := ⟨_, rfl⟩
  have hPl := HLen.out
  go_wp2_with fail
  go_loopw [3, 12] (fun q i wr => ∃ k : Nat, k ≤ P.length ∧ i = .int .i64 k ∧ (∃ a c, q = .slice a (heldL (P.take k)).length c) ∧ Hid (wr.ownsRow wo.heap.size 70 3 q (heldL (P.take k)).length (cl3 (heldL (P.take k)))) ∧ Below wo.heap.size wo wr) (fun _ i _ => P.length - (intOf i).toNat)
  case atStart => exact ⟨0, Nat.zero_le _, rfl, ⟨none, 0, rfl⟩, Lib.hid ⟨rfl, .inl ⟨rfl, rfl⟩⟩, Below.refl _ _⟩
  case round =>
    obtain ⟨k, hk, rfl, ⟨av, cv, rfl⟩, HRow, hbr⟩ := hrel
    have hMl : (heldL (P.take k)).length ≤ k := heldL_len (by simp; omega)
    by_cases hlt : k < P.length
    · obtain ⟨g, rfl, c0, c1, c2⟩ := HCz.out k hlt
      have c0 := cell_below c0 hbr
      have c1 := cell_below c1 hbr
      have c2 := cell_below c2 hbr
      have HN : Hid (heldL (P.take (k + 1)) = if (gt3 P k).2.2 = 0 then heldL (P.take k) else heldL (P.take k) ++ [((gt3 P k).1, (gt3 P k).2.1, (gt3 P k).2.2)]) := Lib.hid (heldL_succ P hlt)
      clear HCz
      generalize (gt3 P k).1 = x at *
      generalize (gt3 P k).2.1 = y at *
      generalize (gt3 P k).2.2 = v at *
      obtain ⟨M, hM⟩ : ∃ M, heldL (P.take k) = M := ⟨_, rfl⟩
      rw [hM] at HN HRow hMl ⊢
      clear hM
      have hk64 : (k : Int) < (P.length : Int) := by omega
      have hsz := hbr.size
      have hbA : Below wo.heap.size wo (wr.alloc (.cells #[.int .i64 x, .int .i64 y, .int .i64 v] 106)) := hbr.alloc hsz _
      have HRow := Lib.hid (HRow.out.alloc (.cells #[.int .i64 x, .int .i64 y, .int .i64 v] 106))
      have s0 : (wr.alloc (.cells #[.int .i64 x, .int .i64 y, .int .i64 v] 106)).cell? ⟨wr.heap.size, 0, none⟩ = some (.int .i64 x) := by simp [go_sem]
      have s1 : (wr.alloc (.cells #[.int .i64 x, .int .i64 y, .int .i64 v] 106)).cell? ⟨wr.heap.size, 1, none⟩ = some (.int .i64 y) := by simp [go_sem]
      have s2 : (wr.alloc (.cells #[.int .i64 x, .int .i64 y, .int .i64 v] 106)).cell? ⟨wr.heap.size, 2, none⟩ = some (.int .i64 v) := by simp [go_sem]
      by_cases hv : v = 0
      · have hN := HN.out
        rw [if_pos hv] at hN
        have HNn := Lib.hid hN
        clear hN HN s0 s1 s2
        subst hv
        go_wp2_with fail
        go_roundw
        case rel => exact ⟨k + 1, by omega, by go_num, ⟨_, cv, by rw [HNn.out]⟩, Lib.hid (by rw [HNn.out]; exact HRow.out), hbA⟩
        case measure => simp [intOf]; omega
      · have hN := HN.out
        rw [if_neg hv] at hN
        have HAP : Hid (M.length + 1 = (heldL (P.take (k + 1))).length ∧ cl3 M ++ [.int .i64 x, .int .i64 y, .int .i64 v] = cl3 (heldL (P.take (k + 1)))) := Lib.hid (by rw [hN, cl3_app]; exact ⟨by simp, rfl⟩)
        clear hN HN
        have hv2 : (v == 0) = false := beq_false_of_ne hv
        obtain ⟨wA, hwA⟩ : ∃ wA, wr.alloc (.cells #[.int .i64 x, .int .i64 y, .int .i64 v] 106) = wA := ⟨_, rfl⟩
        rw [hwA] at s0 s1 s2 HRow hbA
        have hown := Lib.hid (HRow.out.alloc (.cells #[.int .i64 x, .int .i64 y, .int .i64 v] 70))
        have hbs := hbA.size
        go_wp2_with (first | (at_builtin; go_loud (refine wpList_append_lies _ rfl _ _ 44 rfl wo.heap.size 70 n0 _ 3 24 Tryz.underlying44 hi hz0 hz1 hz2 rfl (by decide) (.slice _ M.length cv) M.length _ (by rfl) hown.out ⟨wA.heap.size, 0, none⟩ 1 1 [.int .i64 x, .int .i64 y, .int .i64 v] (by rfl) (by rfl) ?d1 ?d2 (by decide) ?d3 ?d4 ?d5 _ rfl ?_)))
        case d1 =>
          refine World.news_of_block (cs := #[.int .i64 x, .int .i64 y, .int .i64 v]) (t := 70) (fr := (0, 0)) ?_
          exact heap_alloc_new _ _
        case d2 => simp [Value.oneCell']
        case d3 => unfold maxLen; omega
        case d4 => omega
        case d5 => first | (simp; omega) | simp | omega
        intro g6 c6 w6 hown6 hgrow6 hat6 hlt6
        have hb6 : Below wo.heap.size wo w6 := ((hbA.alloc hbs _).grown hgrow6 (by first | (simp; omega) | simp | omega) (fun z hz => owns_blockI hown.out hz))

        go_wp2_with fail
        go_roundw
        case rel => exact ⟨k + 1, by omega, by go_num, ⟨_, c6, by rw [← HAP.out.1]⟩, Lib.hid (by rw [← HAP.out.1, ← HAP.out.2]; exact hown6), hb6⟩
        case measure => simp [intOf]; omega
    · obtain rfl : k = P.length := by omega
      have hbw := hbo.trans (hbr.mono hbo.size)
      have HEnd : Hid (HldE w (heldL P) (.returned (.slice av (heldL (P.take P.length)).length cv)) wr) := Lib.hid ⟨av, cv, by rw [List.take_length], by have := owns_baseI HRow.out hbo.size; rwa [List.take_length] at this, hbw⟩
      clear HRow
      go_wp2_with fail
      go_ret
      exact HEnd.out
theorem cutsW_pair (L : Int) (q : List Edc) (k : Nat) : clI (cutsW L q (k + 1)) = clI (cutsW L q k) ++ [.int .i64 (ge q k).fr, .int .i64 (ge q k).tt] := by rw [cutsW]; simp [clI]
theorem cutsW_ne (L : Int) (q : List Edc) (k : Nat) : cutsW L q k ≠ [] := fun e => by
  have := cutsW_len L q k
  rw [e] at this
  simp at this
  omega
theorem edcs_len {L : Int} {js : List Int} {q : List Edc} (h : edcsB L js q = true) : q.length ≤ 50 := by
  unfold edcsB at h
  simp only [Bool.and_eq_true, decide_eq_true_eq] at h
  exact h.1.1.2
/-- A course of edicts comes back. -/
def WantE (L : Int) (ae : Option Addr) (q : List Edc) (cq : Nat) (h tp dir : Int) (w : World) (e : Ending) (w' : World) : Prop :=
  ∃ (eb hb wb : Nat) (aq : Option Addr) (cq2 : Nat), w'.cell? ⟨eb, 0, none⟩ = some (.slice ae q.length cq) ∧ w'.cell? ⟨hb, 0, none⟩ = some (.int .i64 h) ∧ w'.cell? ⟨wb, 0, none⟩ = some (.int .i64 tp) ∧ w'.cell? ⟨wb, 1, none⟩ = some (.int .i64 dir) ∧
    e = .returned (.agg #[.func (.func 72) #[] #[.pointer (some ⟨eb, 0, none⟩), .pointer (some ⟨hb, 0, none⟩), .pointer (some ⟨wb, 0, none⟩)], .slice aq (cutsW L q q.length).length cq2]) ∧ IntsS w' aq (cutsW L q q.length) ∧ Below w.heap.size w w'
set_option maxRecDepth 100000 in
set_option maxHeartbeats 2000000 in
theorem wanted_r (L : Int) (a : Option Addr) (n ca : Nat) (ae : Option Addr) (q : List Edc) (cq : Nat) (h tp dir : Int) (hn : q.length ≤ 1000) (hq : ∀ j, j < q.length → -1000000 ≤ (ge q j).fr ∧ (ge q j).fr ≤ 1000000 ∧ -1000000 ≤ (ge q j).tt ∧ (ge q j).tt ≤ 1000000) (hL : -1000000 ≤ L ∧ L ≤ 1000000) (w : World) (hE : EdS w ae q) :
    Calls Tryz.prog 30 #[.agg #[.int .i64 L, .slice a n ca], .slice ae q.length cq, .int .i64 h, .agg #[.int .i64 tp, .int .i64 dir]] w (WantE L ae q cq h tp dir w) := by
  obtain ⟨-, blk, off, hadr, hc⟩ := hE
  have HC := Lib.hid hc
  have HA : Hid (0 < q.length → ae = some ⟨blk, off, none⟩) := Lib.hid fun h => hadr (List.ne_nil_of_length_pos h)
  have HQ := Lib.hid hq
  have HBL := Lib.hid hL
  obtain ⟨n0, hi, hz0, hz1, hz2⟩ := info_parts infoInt
  clear hc hadr hq hL
  go_enter Tryz.func30, Tryz.ntmps30
  go_upto_region 1 with (fail)
  obtain ⟨wX, hwX⟩ : ∃ wX, ((((w.alloc (.cells #[.int .i64 L, .slice a n ca] 24)).alloc (.cells #[.slice ae q.length cq] 26)).alloc (.cells #[.int .i64 h] 3)).alloc (.cells #[.int .i64 tp, .int .i64 dir] 73)).alloc (.cells #[.nilFunc, .slice none 0 0] 77) = wX := ⟨_, rfl⟩
  have hb : Below w.heap.size w wX := by rw [← hwX]; exact (((((Below.refl _ _).alloc (Nat.le_refl _) _).alloc (by simp) _).alloc (by simp; omega) _).alloc (by simp; omega) _).alloc (by simp; omega) _
  have hsz : w.heap.size + 4 < wX.heap.size := by rw [← hwX]; simp
  have l0 : wX.cell? ⟨w.heap.size, 0, none⟩ = some (.int .i64 L) := by rw [← hwX]; simp [go_sem]
  have e0 : wX.cell? ⟨w.heap.size + 1, 0, none⟩ = some (.slice ae q.length cq) := by rw [← hwX]; simp [go_sem]
  have h0 : wX.cell? ⟨w.heap.size + 1 + 1, 0, none⟩ = some (.int .i64 h) := by rw [← hwX]; simp [go_sem]
  have y0 : wX.cell? ⟨w.heap.size + 1 + 1 + 1, 0, none⟩ = some (.int .i64 tp) := by rw [← hwX]; simp [go_sem]
  have y1 : wX.cell? ⟨w.heap.size + 1 + 1 + 1, 1, none⟩ = some (.int .i64 dir) := by rw [← hwX]; simp [go_sem]
  have r0 : wX.cell? ⟨w.heap.size + 1 + 1 + 1 + 1, 0, none⟩ = some (.nilFunc) := by rw [← hwX]; simp [go_sem]
  have r1 : wX.cell? ⟨w.heap.size + 1 + 1 + 1 + 1, 1, none⟩ = some (.slice none 0 0) := by rw [← hwX]; simp [go_sem]
  have f0 : wX.frozen? ⟨w.heap.size + 1 + 1 + 1 + 1, 0, none⟩ = false := by rw [← hwX]; simp [go_sem]
  have f1 : wX.frozen? ⟨w.heap.size + 1 + 1 + 1 + 1, 1, none⟩ = false := by rw [← hwX]; simp [go_sem]
  rw [hwX]
  clear hwX
  have L0 := Lib.hid l0
  have E0 := Lib.hid e0
  have H0 := Lib.hid h0
  have Y0 := Lib.hid y0
  have Y1 := Lib.hid y1
  have R0 := Lib.hid r0
  have R1 := Lib.hid r1
  have F0 := Lib.hid f0
  have F1 := Lib.hid f1
  have HB := Lib.hid hb
  have hlen2 := Lib.hid (cutsW_len L q)
  clear f0 f1 r0 r1 hb y0 y1 h0
  have hown0 : Hid ((wX.alloc (.cells #[.int .i64 0, .int .i64 L] 3)).ownsRow wX.heap.size 3 1 (.slice (some ⟨wX.heap.size, 0, none⟩) (cutsW L q 0).length 2) (cutsW L q 0).length (clI (cutsW L q 0))) := Lib.hid (by
    exact ⟨rfl, .inr ⟨wX.heap.size, 2, #[.int .i64 0, .int .i64 L], rfl, Nat.le_refl _, heap_alloc_new _ _, Nat.le_refl 2, by decide, rfl, rfl⟩⟩)
  go_upto_region 2 with (fail)
  obtain ⟨wY, hwY⟩ : ∃ wY, wX.alloc (.cells #[.int .i64 0, .int .i64 L] 3) = wY := ⟨_, rfl⟩
  have hby : Below wX.heap.size wX wY := by rw [← hwY]; exact (Below.refl _ _).alloc (Nat.le_refl _) _
  rw [hwY] at hown0 ⊢
  clear hwY
  replace e0 := cell_below e0 hby
  have HBX0 := Lib.hid hby
  clear hby
  go_wp2_with fail
  clear l0 e0
  go_loopw [9, 17] (fun z i9 wr => ∃ k : Nat, k ≤ q.length ∧ i9 = .int .i64 k ∧ (∃ a c, z = .slice a (cutsW L q k).length c) ∧ Hid (wr.ownsRow wX.heap.size 3 1 z (cutsW L q k).length (clI (cutsW L q k))) ∧ Below wX.heap.size wX wr) (fun _ i9 _ => q.length - (intOf i9).toNat)
  case atStart => exact ⟨0, Nat.zero_le _, rfl, ⟨_, _, rfl⟩, hown0, HBX0.out⟩
  case round =>
    clear hown0
    obtain ⟨k, hk, rfl, ⟨av, cv, rfl⟩, HRow, hbr⟩ := hrel
    by_cases hlt : k < q.length
    · obtain rfl := HA.out (by omega)
      obtain ⟨c0, c1, c2, c3, c4, c5, c6, c7⟩ := HC.out k hlt
      have c0 := cell_below c0 (HB.out.trans (hbr.mono HB.out.size))
      have c1 := cell_below c1 (HB.out.trans (hbr.mono HB.out.size))
      have c2 := cell_below c2 (HB.out.trans (hbr.mono HB.out.size))
      have c3 := cell_below c3 (HB.out.trans (hbr.mono HB.out.size))
      have c4 := cell_below c4 (HB.out.trans (hbr.mono HB.out.size))
      have c5 := cell_below c5 (HB.out.trans (hbr.mono HB.out.size))
      have c6 := cell_below c6 (HB.out.trans (hbr.mono HB.out.size))
      have c7 := cell_below c7 (HB.out.trans (hbr.mono HB.out.size))
      have HPair : Hid (clI (cutsW L q (k + 1)) = clI (cutsW L q k) ++ [.int .i64 (ge q k).fr, .int .i64 (ge q k).tt] ∧ (cutsW L q (k + 1)).length = (cutsW L q k).length + 2) := Lib.hid ⟨cutsW_pair L q k, by rw [hlen2.out, hlen2.out]; omega⟩
      have hll := hlen2.out k
      have hcl : (cutsW L q k).length ≤ 10000 := by omega
      have hsr := hbr.size
      clear HC HA HQ hll
      obtain ⟨x, hx⟩ : ∃ x, ge q k = x := ⟨_, rfl⟩
      rw [hx] at HPair c0 c1 c2 c3 c4 c5 c6 c7
      clear hx
      obtain ⟨CQ, hCQ⟩ : ∃ CQ, cutsW L q k = CQ := ⟨_, rfl⟩
      rw [hCQ] at HRow HPair hcl ⊢
      clear hCQ
      have hown := Lib.hid ((HRow.out.alloc (.cells #[.int .i64 x.n, .int .i64 x.tp, .int .i64 x.v, .int .i64 x.d, .int .i64 x.fr, .int .i64 x.tt, .int .i64 x.st, .int .i64 x.en] 126)).alloc (.cells #[.int .i64 x.fr, .int .i64 x.tt] 3))
      have hbq : Below wX.heap.size wX ((wr.alloc (.cells #[.int .i64 x.n, .int .i64 x.tp, .int .i64 x.v, .int .i64 x.d, .int .i64 x.fr, .int .i64 x.tt, .int .i64 x.st, .int .i64 x.en] 126)).alloc (.cells #[.int .i64 x.fr, .int .i64 x.tt] 3)) := (hbr.alloc hsr _).alloc (by simp; omega) _
      clear HRow
      go_wp2_with (first | (at_builtin; go_loud (refine wpList_append_lies _ rfl _ _ 22 rfl wX.heap.size 3 n0 _ 1 8 Tryz.underlying22 hi hz0 hz1 hz2 rfl (by decide) (.slice av CQ.length cv) CQ.length _ (by rfl) hown.out ⟨wr.heap.size + 1, 0, none⟩ 2 2 [.int .i64 x.fr, .int .i64 x.tt] (by rfl) (by rfl) ?d1 ?d2 (by decide) ?d3 ?d4 ?d5 _ rfl ?_)))
      case d1 =>
        refine World.news_of_block (cs := #[.int .i64 x.fr, .int .i64 x.tt]) (t := 3) (fr := (0, 0)) ?_
        have := heap_alloc_new (wr.alloc (.cells #[.int .i64 x.n, .int .i64 x.tp, .int .i64 x.v, .int .i64 x.d, .int .i64 x.fr, .int .i64 x.tt, .int .i64 x.st, .int .i64 x.en] 126)) (.cells #[.int .i64 x.fr, .int .i64 x.tt] 3)
        simpa using this
      case d2 => simp [Value.oneCell']
      case d3 => unfold maxLen; omega
      case d4 => omega
      case d5 => first | (simp; omega) | simp | omega
      intro g6 c6 w6 hown6 hgrow6 hat6 hlt6
      have hb6 : Below wX.heap.size wX w6 := hbq.grown hgrow6 (by first | (simp; omega) | simp | omega) (fun z hz => owns_blockI hown.out hz)
      have HRow6 := Lib.hid hown6
      clear hown6 hown hbq hgrow6 hat6 hlt6
      go_wp2_with fail
      go_roundw
      case rel => exact ⟨k + 1, by omega, by go_num, ⟨some ⟨g6, 0, none⟩, c6, by rw [HPair.out.2]⟩, Lib.hid (by rw [HPair.out.1, HPair.out.2]; exact HRow6.out), hb6⟩
      case measure => simp [intOf]; omega
    · obtain rfl : k = q.length := by omega
      have hbw := HB.out.trans (hbr.mono HB.out.size)
      have r0 := cell_below R0.out hbr
      have r1 := cell_below R1.out hbr
      have f0 := (hbr.frozen (p := ⟨w.heap.size + 1 + 1 + 1 + 1, 0, none⟩) (block_lt R0.out)).trans F0.out
      have f1 := (hbr.frozen (p := ⟨w.heap.size + 1 + 1 + 1 + 1, 1, none⟩) (block_lt R0.out)).trans F1.out
      have E9 := Lib.hid (cell_below E0.out hbr)
      have H9 := Lib.hid (cell_below H0.out hbr)
      have Y9 := Lib.hid (cell_below Y0.out hbr)
      have Y8 := Lib.hid (cell_below Y1.out hbr)
      have HFar : Hid (∀ v0 v1 b, b ≠ w.heap.size + 1 + 1 + 1 + 1 → ((wr.setCell ⟨w.heap.size + 1 + 1 + 1 + 1, 0, none⟩ v0).setCell ⟨w.heap.size + 1 + 1 + 1 + 1, 1, none⟩ v1).heap[b]? = wr.heap[b]?) := Lib.hid fun v0 v1 b hb => (Below.heap_setCell _ _ _ _ (by simpa using hb)).trans (Below.heap_setCell _ _ _ _ (by simpa using hb))
      have HBf : Hid (∀ v0 v1, Below w.heap.size w ((wr.setCell ⟨w.heap.size + 1 + 1 + 1 + 1, 0, none⟩ v0).setCell ⟨w.heap.size + 1 + 1 + 1 + 1, 1, none⟩ v1)) := Lib.hid fun v0 v1 => (hbw.setCell (p := ⟨w.heap.size + 1 + 1 + 1 + 1, 0, none⟩) (by simp; omega) _).setCell (p := ⟨w.heap.size + 1 + 1 + 1 + 1, 1, none⟩) (by simp; omega) _
      have hlc := hlen2.out q.length
      have HLc := Lib.hid hlc
      have hsr := hbr.size
      clear hbr hbw hlc HC HA
      go_wp2_with fail
      refine bodyPost_ret (v := .agg #[.func (.func 72) #[] #[.pointer (some ⟨w.heap.size + 1, 0, none⟩), .pointer (some ⟨w.heap.size + 1 + 1, 0, none⟩), .pointer (some ⟨w.heap.size + 1 + 1 + 1, 0, none⟩)], .slice av (cutsW L q q.length).length cv]) (by simp [results, Tryz.results30, go_sem, r0, r1]) rfl ?_
      have tr : ∀ v0 v1 b o v, b ≠ w.heap.size + 1 + 1 + 1 + 1 → wr.cell? ⟨b, o, none⟩ = some v → ((wr.setCell ⟨w.heap.size + 1 + 1 + 1 + 1, 0, none⟩ v0).setCell ⟨w.heap.size + 1 + 1 + 1 + 1, 1, none⟩ v1).cell? ⟨b, o, none⟩ = some v := fun v0 v1 b o v hb hc => (World.cell?_of_block (w := wr) (a := ⟨b, o, none⟩) (HFar.out v0 v1 b hb)).trans hc
      refine ⟨w.heap.size + 1, w.heap.size + 1 + 1, w.heap.size + 1 + 1 + 1, av, cv, tr _ _ _ _ _ (by omega) E9.out, tr _ _ _ _ _ (by omega) H9.out, tr _ _ _ _ _ (by omega) Y9.out, tr _ _ _ _ _ (by omega) Y8.out, rfl, ?_, HBf.out _ _⟩
      refine ⟨by rw [HLc.out]; omega, fun i hi => ?_, ?_⟩
      · have hm := gi_mem hi
        rcases (cutsW_mem q.length (Nat.le_refl _) _).1 hm with e | e | ⟨j, hj, e | e⟩
        · rw [e]; exact ⟨by omega, by omega⟩
        · rw [e]; have := HBL.out; unfold I64; omega
        · rw [e]; have := HQ.out j hj; unfold I64; omega
        · rw [e]; have := HQ.out j hj; unfold I64; omega
      · rcases HRow.out.2 with ⟨h1, h2⟩ | ⟨g2, c2, cur, h1, hg2, hb2, _⟩
        · exact absurd h2 (by rw [HLc.out]; omega)
        · obtain ⟨rfl, rfl⟩ : av = some ⟨g2, 0, none⟩ ∧ cv = c2 := by simpa using h1
          refine ⟨g2, 0, fun _ => rfl, fun i hi => ?_⟩
          rw [Nat.zero_add]
          refine tr _ _ _ _ _ (by omega) ?_
          rw [World.ownsRow.cellAt HRow.out i (by omega)]; exact clI_get _ hi
set_option maxRecDepth 100000 in
set_option maxHeartbeats 1000000 in
theorem Held_bad (L : Int) (a : Option Addr) (js : List Int) (ca : Nat) (aa : Option Addr) (l : List Sgn) (cl : Nat) (h dir tp : Int) (hV : lstE L js l [] ≠ 0) (w : World) (hI : IntsS w a js) (hA : SgnS w aa l) :
    Calls Tryz.prog 18 #[.agg #[.int .i64 L, .slice a js.length ca], .slice aa l.length cl, .int .i64 h, .int .i64 dir, .int .i64 tp] w fun e w' => e = .returned (.tuple #[.slice none 0 0, .int .i64 (lstE L js l [])]) ∧ Below w.heap.size w w' := by
  have H1 := Lib.hid (fun W (hW : Below w.heap.size w W) => listsError_r L a js ca aa l cl none [] 0 W (hI.below hW) (hA.below hW) (ed_nilR W))
  clear hI hA
  generalize lstE L js l [] = E at *
  have d1 : (E != 0) = true := by simp [hV]
  clear hV
  go_enter Tryz.func18, Tryz.ntmps18
  go_wp2_with fail
  obtain ⟨wB, hwB⟩ : ∃ wB, w.alloc (.cells #[.int .i64 L, .slice a js.length ca] 24) = wB := ⟨_, rfl⟩
  have hb : Below w.heap.size w wB := by rw [← hwB]; exact (Below.refl _ _).alloc (Nat.le_refl _) _
  have l0 : wB.cell? ⟨w.heap.size, 0, none⟩ = some (.int .i64 L) := by rw [← hwB]; simp [go_sem]
  have l1 : wB.cell? ⟨w.heap.size, 1, none⟩ = some (.slice a js.length ca) := by rw [← hwB]; simp [go_sem]
  rw [hwB]
  clear hwB
  go_wp2_with (go_at_call 27; refine (H1.out _ hb).mono ?_; rintro e w1 ⟨rfl, hb1⟩)
  go_ret2
  exact ⟨rfl, hb.trans (hb1.mono hb.size)⟩
set_option maxRecDepth 100000 in
set_option maxHeartbeats 1000000 in
theorem Held_arg (L : Int) (a : Option Addr) (js : List Int) (ca : Nat) (aa : Option Addr) (l : List Sgn) (cl : Nat) (h dir tp : Int) (hV : lstE L js l [] = 0) (hx : ((btw h 0 10000000) && (dirB dir) && (topB tp)) = false) (w : World) (hI : IntsS w a js) (hA : SgnS w aa l) :
    Calls Tryz.prog 18 #[.agg #[.int .i64 L, .slice a js.length ca], .slice aa l.length cl, .int .i64 h, .int .i64 dir, .int .i64 tp] w fun e w' => e = .returned (.tuple #[.slice none 0 0, .int .i64 2]) ∧ Below w.heap.size w w' := by
  have hLb := (lst_good hV).1
  have H1 := Lib.hid (fun W (hW : Below w.heap.size w W) => by
    have := listsError_r L a js ca aa l cl none [] 0 W (hI.below hW) (hA.below hW) (ed_nilR W)
    rw [hV] at this
    exact this)
  have K0 := Lib.hid (fun W => isHour_r h W)
  have K1 := Lib.hid (fun W => isDir_r dir W)
  have K2 := Lib.hid (fun W => isTopic_r tp W)
  clear hI hA hV hLb
  generalize btw h 0 10000000 = b0 at *
  generalize dirB dir = b1 at *
  generalize topB tp = b2 at *
  cases b0 with
  | false =>
    clear hx
    go_enter Tryz.func18, Tryz.ntmps18
    go_wp2_with fail
    obtain ⟨wB, hwB⟩ : ∃ wB, w.alloc (.cells #[.int .i64 L, .slice a js.length ca] 24) = wB := ⟨_, rfl⟩
    have hb : Below w.heap.size w wB := by rw [← hwB]; exact (Below.refl _ _).alloc (Nat.le_refl _) _
    have l0 : wB.cell? ⟨w.heap.size, 0, none⟩ = some (.int .i64 L) := by rw [← hwB]; simp [go_sem]
    have l1 : wB.cell? ⟨w.heap.size, 1, none⟩ = some (.slice a js.length ca) := by rw [← hwB]; simp [go_sem]
    rw [hwB]
    clear hwB
    go_wp2_with (first | (go_at_call 27; refine (H1.out _ hb).mono ?_; rintro e w1 ⟨rfl, hb1⟩; replace hb := hb.trans (hb1.mono hb.size); replace l0 := cell_below l0 hb1; replace l1 := cell_below l1 hb1; clear hb1) | (go_at_call 28; refine (K0.out _).mono ?_; rintro e w2 ⟨rfl, rfl⟩) | (go_at_call 45; refine (K1.out _).mono ?_; rintro e w2 ⟨rfl, rfl⟩) | (go_at_call 46; refine (K2.out _).mono ?_; rintro e w2 ⟨rfl, rfl⟩))
    go_ret2
    exact ⟨rfl, hb⟩
  | true =>
    cases b1 with
    | false =>
      clear hx
      go_enter Tryz.func18, Tryz.ntmps18
      go_wp2_with fail
      obtain ⟨wB, hwB⟩ : ∃ wB, w.alloc (.cells #[.int .i64 L, .slice a js.length ca] 24) = wB := ⟨_, rfl⟩
      have hb : Below w.heap.size w wB := by rw [← hwB]; exact (Below.refl _ _).alloc (Nat.le_refl _) _
      have l0 : wB.cell? ⟨w.heap.size, 0, none⟩ = some (.int .i64 L) := by rw [← hwB]; simp [go_sem]
      have l1 : wB.cell? ⟨w.heap.size, 1, none⟩ = some (.slice a js.length ca) := by rw [← hwB]; simp [go_sem]
      rw [hwB]
      clear hwB
      go_wp2_with (first | (go_at_call 27; refine (H1.out _ hb).mono ?_; rintro e w1 ⟨rfl, hb1⟩; replace hb := hb.trans (hb1.mono hb.size); replace l0 := cell_below l0 hb1; replace l1 := cell_below l1 hb1; clear hb1) | (go_at_call 28; refine (K0.out _).mono ?_; rintro e w2 ⟨rfl, rfl⟩) | (go_at_call 45; refine (K1.out _).mono ?_; rintro e w2 ⟨rfl, rfl⟩) | (go_at_call 46; refine (K2.out _).mono ?_; rintro e w2 ⟨rfl, rfl⟩))
      go_ret2
      exact ⟨rfl, hb⟩
    | true =>
      cases b2 with
      | false =>
        clear hx
        go_enter Tryz.func18, Tryz.ntmps18
        go_wp2_with fail
        obtain ⟨wB, hwB⟩ : ∃ wB, w.alloc (.cells #[.int .i64 L, .slice a js.length ca] 24) = wB := ⟨_, rfl⟩
        have hb : Below w.heap.size w wB := by rw [← hwB]; exact (Below.refl _ _).alloc (Nat.le_refl _) _
        have l0 : wB.cell? ⟨w.heap.size, 0, none⟩ = some (.int .i64 L) := by rw [← hwB]; simp [go_sem]
        have l1 : wB.cell? ⟨w.heap.size, 1, none⟩ = some (.slice a js.length ca) := by rw [← hwB]; simp [go_sem]
        rw [hwB]
        clear hwB
        go_wp2_with (first | (go_at_call 27; refine (H1.out _ hb).mono ?_; rintro e w1 ⟨rfl, hb1⟩; replace hb := hb.trans (hb1.mono hb.size); replace l0 := cell_below l0 hb1; replace l1 := cell_below l1 hb1; clear hb1) | (go_at_call 28; refine (K0.out _).mono ?_; rintro e w2 ⟨rfl, rfl⟩) | (go_at_call 45; refine (K1.out _).mono ?_; rintro e w2 ⟨rfl, rfl⟩) | (go_at_call 46; refine (K2.out _).mono ?_; rintro e w2 ⟨rfl, rfl⟩))
        go_ret2
        exact ⟨rfl, hb⟩
      | true =>
        cases hx
set_option maxRecDepth 100000 in
set_option maxHeartbeats 1000000 in
theorem Wanted_bad (L : Int) (a : Option Addr) (js : List Int) (ca : Nat) (ae : Option Addr) (q : List Edc) (cq : Nat) (h dir tp : Int) (hV : lstE L js [] q ≠ 0) (w : World) (hI : IntsS w a js) (hE : EdS w ae q) :
    Calls Tryz.prog 19 #[.agg #[.int .i64 L, .slice a js.length ca], .slice ae q.length cq, .int .i64 h, .int .i64 dir, .int .i64 tp] w fun e w' => e = .returned (.tuple #[.slice none 0 0, .int .i64 (lstE L js [] q)]) ∧ Below w.heap.size w w' := by
  have H1 := Lib.hid (fun W (hW : Below w.heap.size w W) => listsError_r L a js ca none [] 0 ae q cq W (hI.below hW) (sg_nil W) (hE.below hW))
  clear hI hE
  generalize lstE L js [] q = E at *
  have d1 : (E != 0) = true := by simp [hV]
  clear hV
  go_enter Tryz.func19, Tryz.ntmps19
  go_wp2_with fail
  obtain ⟨wB, hwB⟩ : ∃ wB, w.alloc (.cells #[.int .i64 L, .slice a js.length ca] 24) = wB := ⟨_, rfl⟩
  have hb : Below w.heap.size w wB := by rw [← hwB]; exact (Below.refl _ _).alloc (Nat.le_refl _) _
  have l0 : wB.cell? ⟨w.heap.size, 0, none⟩ = some (.int .i64 L) := by rw [← hwB]; simp [go_sem]
  have l1 : wB.cell? ⟨w.heap.size, 1, none⟩ = some (.slice a js.length ca) := by rw [← hwB]; simp [go_sem]
  rw [hwB]
  clear hwB
  go_wp2_with (go_at_call 27; refine (H1.out _ hb).mono ?_; rintro e w1 ⟨rfl, hb1⟩)
  go_ret2
  exact ⟨rfl, hb.trans (hb1.mono hb.size)⟩
set_option maxRecDepth 100000 in
set_option maxHeartbeats 1000000 in
theorem Wanted_arg (L : Int) (a : Option Addr) (js : List Int) (ca : Nat) (ae : Option Addr) (q : List Edc) (cq : Nat) (h dir tp : Int) (hV : lstE L js [] q = 0) (hx : ((btw h 0 10000000) && (dirB dir) && (topB tp)) = false) (w : World) (hI : IntsS w a js) (hE : EdS w ae q) :
    Calls Tryz.prog 19 #[.agg #[.int .i64 L, .slice a js.length ca], .slice ae q.length cq, .int .i64 h, .int .i64 dir, .int .i64 tp] w fun e w' => e = .returned (.tuple #[.slice none 0 0, .int .i64 2]) ∧ Below w.heap.size w w' := by
  have hLb := (lst_good hV).1
  have H1 := Lib.hid (fun W (hW : Below w.heap.size w W) => by
    have := listsError_r L a js ca none [] 0 ae q cq W (hI.below hW) (sg_nil W) (hE.below hW)
    rw [hV] at this
    exact this)
  have K0 := Lib.hid (fun W => isHour_r h W)
  have K1 := Lib.hid (fun W => isDir_r dir W)
  have K2 := Lib.hid (fun W => isTopic_r tp W)
  clear hI hE hV hLb
  generalize btw h 0 10000000 = b0 at *
  generalize dirB dir = b1 at *
  generalize topB tp = b2 at *
  cases b0 with
  | false =>
    clear hx
    go_enter Tryz.func19, Tryz.ntmps19
    go_wp2_with fail
    obtain ⟨wB, hwB⟩ : ∃ wB, w.alloc (.cells #[.int .i64 L, .slice a js.length ca] 24) = wB := ⟨_, rfl⟩
    have hb : Below w.heap.size w wB := by rw [← hwB]; exact (Below.refl _ _).alloc (Nat.le_refl _) _
    have l0 : wB.cell? ⟨w.heap.size, 0, none⟩ = some (.int .i64 L) := by rw [← hwB]; simp [go_sem]
    have l1 : wB.cell? ⟨w.heap.size, 1, none⟩ = some (.slice a js.length ca) := by rw [← hwB]; simp [go_sem]
    rw [hwB]
    clear hwB
    go_wp2_with (first | (go_at_call 27; refine (H1.out _ hb).mono ?_; rintro e w1 ⟨rfl, hb1⟩; replace hb := hb.trans (hb1.mono hb.size); replace l0 := cell_below l0 hb1; replace l1 := cell_below l1 hb1; clear hb1) | (go_at_call 28; refine (K0.out _).mono ?_; rintro e w2 ⟨rfl, rfl⟩) | (go_at_call 45; refine (K1.out _).mono ?_; rintro e w2 ⟨rfl, rfl⟩) | (go_at_call 46; refine (K2.out _).mono ?_; rintro e w2 ⟨rfl, rfl⟩))
    go_ret2
    exact ⟨rfl, hb⟩
  | true =>
    cases b1 with
    | false =>
      clear hx
      go_enter Tryz.func19, Tryz.ntmps19
      go_wp2_with fail
      obtain ⟨wB, hwB⟩ : ∃ wB, w.alloc (.cells #[.int .i64 L, .slice a js.length ca] 24) = wB := ⟨_, rfl⟩
      have hb : Below w.heap.size w wB := by rw [← hwB]; exact (Below.refl _ _).alloc (Nat.le_refl _) _
      have l0 : wB.cell? ⟨w.heap.size, 0, none⟩ = some (.int .i64 L) := by rw [← hwB]; simp [go_sem]
      have l1 : wB.cell? ⟨w.heap.size, 1, none⟩ = some (.slice a js.length ca) := by rw [← hwB]; simp [go_sem]
      rw [hwB]
      clear hwB
      go_wp2_with (first | (go_at_call 27; refine (H1.out _ hb).mono ?_; rintro e w1 ⟨rfl, hb1⟩; replace hb := hb.trans (hb1.mono hb.size); replace l0 := cell_below l0 hb1; replace l1 := cell_below l1 hb1; clear hb1) | (go_at_call 28; refine (K0.out _).mono ?_; rintro e w2 ⟨rfl, rfl⟩) | (go_at_call 45; refine (K1.out _).mono ?_; rintro e w2 ⟨rfl, rfl⟩) | (go_at_call 46; refine (K2.out _).mono ?_; rintro e w2 ⟨rfl, rfl⟩))
      go_ret2
      exact ⟨rfl, hb⟩
    | true =>
      cases b2 with
      | false =>
        clear hx
        go_enter Tryz.func19, Tryz.ntmps19
        go_wp2_with fail
        obtain ⟨wB, hwB⟩ : ∃ wB, w.alloc (.cells #[.int .i64 L, .slice a js.length ca] 24) = wB := ⟨_, rfl⟩
        have hb : Below w.heap.size w wB := by rw [← hwB]; exact (Below.refl _ _).alloc (Nat.le_refl _) _
        have l0 : wB.cell? ⟨w.heap.size, 0, none⟩ = some (.int .i64 L) := by rw [← hwB]; simp [go_sem]
        have l1 : wB.cell? ⟨w.heap.size, 1, none⟩ = some (.slice a js.length ca) := by rw [← hwB]; simp [go_sem]
        rw [hwB]
        clear hwB
        go_wp2_with (first | (go_at_call 27; refine (H1.out _ hb).mono ?_; rintro e w1 ⟨rfl, hb1⟩; replace hb := hb.trans (hb1.mono hb.size); replace l0 := cell_below l0 hb1; replace l1 := cell_below l1 hb1; clear hb1) | (go_at_call 28; refine (K0.out _).mono ?_; rintro e w2 ⟨rfl, rfl⟩) | (go_at_call 45; refine (K1.out _).mono ?_; rintro e w2 ⟨rfl, rfl⟩) | (go_at_call 46; refine (K2.out _).mono ?_; rintro e w2 ⟨rfl, rfl⟩))
        go_ret2
        exact ⟨rfl, hb⟩
      | true =>
        cases hx
set_option maxRecDepth 100000 in
set_option maxHeartbeats 1000000 in
theorem Wanted_good (L : Int) (a : Option Addr) (js : List Int) (ca : Nat) (ae : Option Addr) (q : List Edc) (cq : Nat) (h dir tp : Int) (hV : lstE L js [] q = 0) (h0 : btw h 0 10000000 = true) (h1 : dirB dir = true) (h2 : topB tp = true) (w : World) (hI : IntsS w a js) (hE : EdS w ae q) :
    Calls Tryz.prog 19 #[.agg #[.int .i64 L, .slice a js.length ca], .slice ae q.length cq, .int .i64 h, .int .i64 dir, .int .i64 tp] w fun e w' => ∃ b c, e = .returned (.tuple #[.slice b (wantS L q h dir tp).length c, .int .i64 0]) ∧ TriS w' b (wantS L q h dir tp) ∧ Below w.heap.size w w' := by
  obtain ⟨hLb, -, -, -⟩ := lst_good hV
  have hln := lst_line hV
  have hqn := edcs_len (lst_edcs hV)
  have hqb : ∀ j, j < q.length → -1000000 ≤ (ge q j).fr ∧ (ge q j).fr ≤ 1000000 ∧ -1000000 ≤ (ge q j).tt ∧ (ge q j).tt ≤ 1000000 := fun j hj => by
    have := edc_bd (edc_in (lst_edcs hV) j hj)
    omega
  have H1 := Lib.hid (fun W (hW : Below w.heap.size w W) => by
    have := listsError_r L a js ca none [] 0 ae q cq W (hI.below hW) (sg_nil W) (hE.below hW)
    rw [hV] at this
    exact this)
  have K0 := Lib.hid (fun W => h0 ▸ isHour_r h W)
  have K1 := Lib.hid (fun W => h1 ▸ isDir_r dir W)
  have K2 := Lib.hid (fun W => h2 ▸ isTopic_r tp W)
  have HW := Lib.hid (fun W (hW : Below w.heap.size w W) => wanted_r L a js.length ca ae q cq h tp dir (by omega) hqb (by omega) W (hE.below hW))
  have HE := Lib.hid (fun W (hW : Below w.heap.size w W) => hE.below hW)
  have HEq := Lib.hid (wantM_eq (h := h) (dir := dir) (t := tp) hV)
  have HLn : Hid ((cutsW L q q.length).length ≤ 1000000) := Lib.hid (by rw [cutsW_len]; omega)
  have HZ : Hid ((wantS L q h dir tp).length ≤ 9223372036854775807) := Lib.hid (by
    have h1 : (heldL (prtK (ascL (cutsW L q q.length)) (fun m => mustV q h tp dir m) (ascL (cutsW L q q.length)).length)).length ≤ (cutsW L q q.length).length := heldL_len (Nat.le_trans (prtK_len _ _ _) (asc_len _))
    rw [HEq.out] at h1
    have := HLn.out
    omega)
  clear hI hE hV h0 h1 h2 hLb hqb hln hqn
  go_enter Tryz.func19, Tryz.ntmps19
  go_wp2_with fail
  obtain ⟨wB, hwB⟩ : ∃ wB, w.alloc (.cells #[.int .i64 L, .slice a js.length ca] 24) = wB := ⟨_, rfl⟩
  have hb : Below w.heap.size w wB := by rw [← hwB]; exact (Below.refl _ _).alloc (Nat.le_refl _) _
  have l0 : wB.cell? ⟨w.heap.size, 0, none⟩ = some (.int .i64 L) := by rw [← hwB]; simp [go_sem]
  have l1 : wB.cell? ⟨w.heap.size, 1, none⟩ = some (.slice a js.length ca) := by rw [← hwB]; simp [go_sem]
  rw [hwB]
  clear hwB
  go_wp2_with (first | (go_at_call 27; refine (H1.out _ hb).mono ?_; rintro e w1 ⟨rfl, hb1⟩; replace hb := hb.trans (hb1.mono hb.size); replace l0 := cell_below l0 hb1; replace l1 := cell_below l1 hb1; clear hb1) | (go_at_call 28; refine (K0.out _).mono ?_; rintro e w2 ⟨rfl, rfl⟩) | (go_at_call 45; refine (K1.out _).mono ?_; rintro e w2 ⟨rfl, rfl⟩) | (go_at_call 46; refine (K2.out _).mono ?_; rintro e w2 ⟨rfl, rfl⟩) | (go_at_call 30; refine (HW.out _ hb).mono ?_; rintro e w4 ⟨eb, hb9, wb, aq, cq2, g0, g1, g2, g3, rfl, hAq, hb4⟩; have hbz := hb.trans (hb4.mono hb.size); have G0 := Lib.hid g0; have G1 := Lib.hid g1; have G2 := Lib.hid g2; have G3 := Lib.hid g3; have HAq := Lib.hid hAq; have HBZ := Lib.hid hbz; clear g0 g1 g2 g3 hAq hb4 hbz) | (go_at_call 47; refine (heldW_r aq (cutsW L q q.length) cq2 #[.pointer (some ⟨eb, 0, none⟩), .pointer (some ⟨hb9, 0, none⟩), .pointer (some ⟨wb, 0, none⟩)] (fun m => mustV q h tp dir m) w4 HAq.out (cutsW_ne L q q.length) HLn.out (fun m W hm2 hW => wanted1_r ae q cq eb hb9 wb h tp dir m W (HE.out W (HBZ.out.trans (hW.mono HBZ.out.size))) (cell_below G0.out hW) (cell_below G1.out hW) (cell_below G2.out hW) (cell_below G3.out hW))).mono ?_; rintro e w3 ⟨bb, cc, rfl, hown, hb3⟩; have HOW := Lib.hid hown; clear hown))
  go_ret2
  rw [HEq.out] at HOW
  exact ⟨bb, cc, by rw [HEq.out]; rfl, tri_own HOW.out HZ.out, HBZ.out.trans (hb3.mono HBZ.out.size)⟩
/-- Stretches with an error. -/
def TriA (M : List Tri) (E : Int) (w : World) (e : Ending) (w' : World) : Prop := ∃ b c, e = .returned (.tuple #[.slice b M.length c, .int .i64 E]) ∧ TriS w' b M ∧ Below w.heap.size w w'
theorem Held_goodS (L : Int) (a : Option Addr) (js : List Int) (ca : Nat) (aa : Option Addr) (l : List Sgn) (cl : Nat) (h dir tp : Int) (hV : lstE L js l [] = 0) (h0 : btw h 0 10000000 = true) (h1 : dirB dir = true) (h2 : topB tp = true) (w : World) (hI : IntsS w a js) (hA : SgnS w aa l) :
    Calls Tryz.prog 18 #[.agg #[.int .i64 L, .slice a js.length ca], .slice aa l.length cl, .int .i64 h, .int .i64 dir, .int .i64 tp] w (TriA (heldS L js l h dir tp) 0 w) := by
  refine (Held_good L a js ca aa l cl h dir tp hV h0 h1 h2 w hI hA).mono ?_
  rintro e w' ⟨row, b, c, hRL, rfl, hown, hb⟩
  have hlen : (hldM L dir tp row).length ≤ 9223372036854775807 := by
    have e1 : (hldM L dir tp row).length ≤ (cutsK L dir row row.length).length := heldL_len (Nat.le_trans (prtK_len _ _ _) (asc_len _))
    obtain ⟨ad, cp, l1, hp, -, rfl⟩ := hRL
    have e2 := hp.length_eq
    have e3 := rowK_len L js dir h l ad cp l.length
    have e4 := (lst_good hV).2.2.2
    rw [cutsK_len, List.length_map, finP_len] at e1
    omega
  have htp := top_or h2
  rw [hldM_eq hV h1 (by omega) hRL] at hown hlen ⊢
  exact ⟨b, c, rfl, tri_own hown hlen, hb⟩
theorem Held_any (L : Int) (a : Option Addr) (js : List Int) (ca : Nat) (aa : Option Addr) (l : List Sgn) (cl : Nat) (h dir tp : Int) (b9 r : Bool) (hr : r = (btw h 0 10000000 && dirB dir && topB tp)) (w : World) (hI : IntsS w a js) (hA : SgnS w aa l) :
    Calls Tryz.prog 18 #[.agg #[.int .i64 L, .slice a js.length ca], .slice aa l.length cl, .int .i64 h, .int .i64 dir, .int .i64 tp] w (TriA (if whyK (lineB L js) true (sgnsB L js l) false b9 r = 0 then heldS L js l h dir tp else []) (whyK (lineB L js) true (sgnsB L js l) false b9 r) w) := by
  obtain ⟨k1, k2⟩ := lst_s L js l true b9 r
  by_cases hV : lstE L js l [] = 0
  · rw [k2 hV]
    cases hx : r with
    | false =>
      rw [if_pos rfl, if_neg (by decide)]
      refine (Held_arg L a js ca aa l cl h dir tp hV (by rw [← hr]; exact hx) w hI hA).mono ?_
      rintro e w' ⟨rfl, hb⟩
      exact ⟨none, 0, rfl, tri_nil _, hb⟩
    | true =>
      rw [if_neg (show ¬ (true = false) by decide), if_pos rfl]
      rw [hx] at hr
      have hr := hr.symm
      simp only [Bool.and_eq_true] at hr
      exact Held_goodS L a js ca aa l cl h dir tp hV hr.1.1 hr.1.2 hr.2 w hI hA
  · rw [k1 hV, if_neg hV]
    refine (Held_bad L a js ca aa l cl h dir tp hV w hI hA).mono ?_
    rintro e w' ⟨rfl, hb⟩
    exact ⟨none, 0, rfl, tri_nil _, hb⟩
theorem Wanted_any (L : Int) (a : Option Addr) (js : List Int) (ca : Nat) (ae : Option Addr) (q : List Edc) (cq : Nat) (h dir tp : Int) (b9 r : Bool) (hr : r = (btw h 0 10000000 && dirB dir && topB tp)) (w : World) (hI : IntsS w a js) (hE : EdS w ae q) :
    Calls Tryz.prog 19 #[.agg #[.int .i64 L, .slice a js.length ca], .slice ae q.length cq, .int .i64 h, .int .i64 dir, .int .i64 tp] w (TriA (if whyK (lineB L js) false b9 true (edcsB L js q) r = 0 then wantS L q h dir tp else []) (whyK (lineB L js) false b9 true (edcsB L js q) r) w) := by
  obtain ⟨k1, k2⟩ := lst_e L js q b9 r
  by_cases hV : lstE L js [] q = 0
  · rw [k2 hV]
    cases hx : r with
    | false =>
      rw [if_pos rfl, if_neg (by decide)]
      refine (Wanted_arg L a js ca ae q cq h dir tp hV (by rw [← hr]; exact hx) w hI hE).mono ?_
      rintro e w' ⟨rfl, hb⟩
      exact ⟨none, 0, rfl, tri_nil _, hb⟩
    | true =>
      rw [if_neg (show ¬ (true = false) by decide), if_pos rfl]
      rw [hx] at hr
      have hr := hr.symm
      simp only [Bool.and_eq_true] at hr
      exact Wanted_good L a js ca ae q cq h dir tp hV hr.1.1 hr.1.2 hr.2 w hI hE
  · rw [k1 hV, if_neg hV]
    refine (Wanted_bad L a js ca ae q cq h dir tp hV w hI hE).mono ?_
    rintro e w' ⟨rfl, hb⟩
    exact ⟨none, 0, rfl, tri_nil _, hb⟩
end Go.Proofs.YtlpdjinhkmgbgaaGreatDoor

namespace Go.Proofs.YtlpdjinhkmgbgaaGreatDoor
set_option linter.unusedVariables false
set_option linter.unusedSimpArgs false
open Go.RowKit

/-- One sign more in a row. -/
def stepI (L dir h : Int) (r : List Sgn) (x : Sgn) : List Sgn :=
  if selB dir h x = true then r.take (plcS L dir x r r.length) ++ x :: r.drop (plcS L dir x r r.length) else r
theorem insR_step (L dir h : Int) (l : List Sgn) (k : Nat) : insR L dir h l (k + 1) = stepI L dir h (insR L dir h l k) (gs l k) := rfl
theorem insR_congr {L dir h : Int} {l l' : List Sgn} : ∀ k, (∀ j, j < k → gs l j = gs l' j) → insR L dir h l k = insR L dir h l' k
  | 0, _ => rfl
  | k + 1, e => by
    rw [insR_step, insR_step, insR_congr k (fun j hj => e j (by omega)), e k (by omega)]
def insA (L dir h : Int) (l : List Sgn) : List Sgn := insR L dir h l l.length
theorem gs_left {l t : List Sgn} {j : Nat} (h : j < l.length) : gs (l ++ t) j = gs l j := by
  rw [gs_at _ (by simp; omega), gs_at _ h, List.getElem_append_left h]
theorem gs_snoc (l : List Sgn) (x : Sgn) : gs (l ++ [x]) l.length = x := by
  rw [gs_at _ (by simp)]
  simp
theorem insA_snoc (L dir h : Int) (l : List Sgn) (x : Sgn) : insA L dir h (l ++ [x]) = stepI L dir h (insA L dir h l) x := by
  unfold insA
  rw [List.length_append, List.length_singleton, insR_step, gs_snoc, insR_congr l.length fun j hj => gs_left hj]
theorem selR_congr {dir h : Int} {l l' : List Sgn} : ∀ k, (∀ j, j < k → gs l j = gs l' j) → selR dir h l k = selR dir h l' k
  | 0, _ => rfl
  | k + 1, e => by rw [selR, selR, selR_congr k (fun j hj => e j (by omega)), e k (by omega)]
theorem take_snoc (l : List Sgn) {k : Nat} (hk : k < l.length) : l.take (k + 1) = l.take k ++ [gs l k] := by
  rw [List.take_succ_eq_append_getElem hk, gs_at _ hk]
theorem selR_take (dir h : Int) (l : List Sgn) : ∀ k, k ≤ l.length → selR dir h l k = (l.take k).filter (fun x => selB dir h x)
  | 0, _ => rfl
  | k + 1, hk => by
    rw [selR, selR_take dir h l k (by omega), take_snoc l (by omega), List.filter_append]
    by_cases hx : selB dir h (gs l k) = true
    · rw [if_pos hx]; simp [hx]
    · rw [if_neg hx]; simp [hx]
theorem selR_filter (dir h : Int) (l : List Sgn) : selR dir h l l.length = l.filter (fun x => selB dir h x) := by
  rw [selR_take dir h l l.length (Nat.le_refl _), List.take_length]
theorem insA_perm (L dir h : Int) (l : List Sgn) : (insA L dir h l).Perm (l.filter (fun x => selB dir h x)) := by
  rw [← selR_filter]
  exact insR_perm L dir h l l.length
theorem sel_spk {dir h : Int} {x : Sgn} (hx : spkB x h = false) : selB dir h x = false := by unfold selB; rw [hx, Bool.and_false]
/-- Valid signs, as a list. -/
theorem sgns_iff (L : Int) (js : List Int) (l : List Sgn) : sgnsB L js l = true ↔ lineB L js = true ∧ l.length ≤ 100 ∧ (∀ x, x ∈ l → (btw x.n 1 1000000000 = true ∧ sgnB L x = true)) ∧ (l.map (·.n)).Nodup := by
  have hat : ∀ x, x ∈ l → ∃ k, k < l.length ∧ gs l k = x := fun x hx => by
    obtain ⟨k, hk, e⟩ := List.getElem_of_mem hx
    exact ⟨k, hk, by rw [gs_at _ hk, e]⟩
  constructor
  · intro h
    refine ⟨sgns_line h, ?_, fun x hx => ?_, ?_⟩
    · by_cases h9 : 100 < l.length
      · rw [s_bad9 h9] at h; cases h
      · omega
    · obtain ⟨k, hk, rfl⟩ := hat x hx
      constructor
      · cases e : btw (gs l k).n 1 1000000000 with
        | true => rfl
        | false => rw [s_bad1 hk e] at h; cases h
      · cases e : sgnB L (gs l k) with
        | true => rfl
        | false => rw [s_bad2 hk e] at h; cases h
    · rw [List.nodup_iff_pairwise_ne, List.pairwise_iff_getElem]
      intro i j hi hj hij e
      rw [List.getElem_map, List.getElem_map] at e
      have hi : i < l.length := by simpa using hi
      have hj : j < l.length := by simpa using hj
      rw [← gs_at _ hi, ← gs_at _ hj] at e
      rw [s_bad3 hj hij e] at h; cases h
  · rintro ⟨h0, h9, h, hn⟩
    refine s_end h0 h9 fun k hk => ?_
    have hm : gs l k ∈ l := by rw [gs_at _ hk]; exact List.getElem_mem hk
    refine ⟨(h _ hm).1, (h _ hm).2, fun j hj e => ?_⟩
    rw [List.nodup_iff_pairwise_ne, List.pairwise_iff_getElem] at hn
    refine hn j k (by simpa using (by omega : j < l.length)) (by simpa using hk) hj ?_
    rw [List.getElem_map, List.getElem_map, ← gs_at _ (by omega : j < l.length), ← gs_at _ hk]
    exact e
theorem lst_iff (L : Int) (js : List Int) (l : List Sgn) : lstE L js l [] = 0 ↔ sgnsB L js l = true := by
  constructor
  · intro h; exact lst_sgns h
  · intro h
    unfold lstE
    rw [sgns_line h, h, edcs_nil, sgns_line h]
    rfl
theorem sgns_sub {L : Int} {js : List Int} {l t : List Sgn} (h : sgnsB L js l = true) (hs : t.Sublist l) : sgnsB L js t = true := by
  rw [sgns_iff] at h ⊢
  exact ⟨h.1, Nat.le_trans hs.length_le h.2.1, fun x hx => h.2.2.1 x (hs.mem hx), h.2.2.2.sublist (hs.map _)⟩
/-- The signs that speak, of the first k. -/
def spkL (h : Int) (l : List Sgn) : Nat → List Sgn
  | 0 => []
  | k + 1 => if spkB (gs l k) h = true then spkL h l k ++ [gs l k] else spkL h l k
theorem spk_ins (L dir h : Int) (l : List Sgn) : ∀ k, insA L dir h (spkL h l k) = insR L dir h l k
  | 0 => rfl
  | k + 1 => by
    have ih := spk_ins L dir h l k
    rw [spkL, insR_step, ← ih]
    by_cases hx : spkB (gs l k) h = true
    · rw [if_pos hx, insA_snoc]
    · rw [if_neg hx, stepI, sel_spk (by simpa using hx), if_neg (by decide)]
theorem spk_sub (h : Int) (l : List Sgn) : ∀ k, k ≤ l.length → (spkL h l k).Sublist (l.take k)
  | 0, _ => List.Sublist.slnil
  | k + 1, hk => by
    have ih := spk_sub h l k (by omega)
    rw [spkL, take_snoc l (by omega)]
    split
    · exact ih.append (List.Sublist.refl _)
    · exact ih.trans (List.sublist_append_left _ _)
/-- A sign that a cover silences over all its hours. -/
def cvr (x : Sgn) : Sgn := { x with cv := [(x.up, x.dn)] }
theorem cvr_spk (x : Sgn) (h : Int) : spkB (cvr x) h = false := by
  unfold spkB cvr
  simp only [List.length_singleton, anyK, covH, gp, List.getD_cons_zero, Bool.or_false]
  by_cases h1 : x.up ≤ h <;> by_cases h2 : h < x.dn <;> simp [h1, h2]
/-- All of the first k but number z; and all, number z covered. -/
def othL (z : Nat) (l : List Sgn) : Nat → List Sgn
  | 0 => []
  | k + 1 => if k = z then othL z l k else othL z l k ++ [gs l k]
def covL (z : Nat) (l : List Sgn) : Nat → List Sgn
  | 0 => []
  | k + 1 => covL z l k ++ [if k = z then cvr (gs l k) else gs l k]
theorem oth_cov (L dir h : Int) (z : Nat) (l : List Sgn) : ∀ k, insA L dir h (othL z l k) = insA L dir h (covL z l k)
  | 0 => rfl
  | k + 1 => by
    have ih := oth_cov L dir h z l k
    rw [othL, covL, insA_snoc, ← ih]
    by_cases hz : k = z
    · rw [if_pos hz, if_pos hz, stepI, sel_spk (cvr_spk _ _), if_neg (by decide)]
    · rw [if_neg hz, if_neg hz, insA_snoc]
theorem oth_sub (z : Nat) (l : List Sgn) : ∀ k, k ≤ l.length → (othL z l k).Sublist (l.take k)
  | 0, _ => List.Sublist.slnil
  | k + 1, hk => by
    have ih := oth_sub z l k (by omega)
    rw [othL, take_snoc l (by omega)]
    split
    · exact ih.trans (List.sublist_append_left _ _)
    · exact ih.append (List.Sublist.refl _)
theorem cov_n (z : Nat) (l : List Sgn) : ∀ k, k ≤ l.length → (covL z l k).map (·.n) = (l.take k).map (·.n)
  | 0, _ => rfl
  | k + 1, hk => by
    have ih := cov_n z l k (by omega)
    rw [covL, take_snoc l (by omega), List.map_append, List.map_append, ih]
    congr 1
    simp only [List.map_cons, List.map_nil]
    split <;> rfl
theorem cov_mem {z : Nat} {l : List Sgn} {x : Sgn} : ∀ {k}, k ≤ l.length → x ∈ covL z l k → ∃ y, y ∈ l ∧ (x = y ∨ x = cvr y)
  | 0, _, hx => by simp [covL] at hx
  | k + 1, hk, hx => by
    rw [covL, List.mem_append, List.mem_singleton] at hx
    rcases hx with hx | hx
    · exact cov_mem (by omega) hx
    · refine ⟨gs l k, by rw [gs_at _ (by omega)]; exact List.getElem_mem _, ?_⟩
      split at hx
      · exact .inr hx
      · exact .inl hx
theorem cvr_good {L : Int} {x : Sgn} (h : sgnB L x = true) : sgnB L (cvr x) = true := by
  unfold sgnB at *
  simp only [Bool.and_eq_true] at h ⊢
  refine ⟨⟨h.1.1, rfl⟩, ?_⟩
  have ht := h.1.1.2
  unfold covB cvr
  simp only [List.length_singleton, anyK, gp, List.getD_cons_zero, Bool.or_false]
  rw [ht]; rfl
theorem cov_good {L : Int} {js : List Int} {z : Nat} {l : List Sgn} (h : sgnsB L js l = true) : sgnsB L js (covL z l l.length) = true := by
  rw [sgns_iff] at h ⊢
  have hn := cov_n z l l.length (Nat.le_refl _)
  rw [List.take_length] at hn
  refine ⟨h.1, ?_, fun x hx => ?_, by rw [hn]; exact h.2.2.2⟩
  · have := congrArg List.length hn
    simp only [List.length_map] at this
    omega
  · obtain ⟨y, hy, e | e⟩ := cov_mem (Nat.le_refl _) hx
    · rw [e]; exact h.2.2.1 y hy
    · rw [e]; exact ⟨(h.2.2.1 y hy).1, cvr_good (h.2.2.1 y hy).2⟩
/-- All but plates of the first k; and these but warnings and repeats. -/
def allL (l : List Sgn) : Nat → List Sgn
  | 0 => []
  | k + 1 => if (gs l k).k = 7 then allL l k else allL l k ++ [gs l k]
def keepB (x : Sgn) : Bool := !(x.k == 8) && !(x.k == 6)
def somL (l : List Sgn) : Nat → List Sgn
  | 0 => []
  | k + 1 => if (gs l k).k = 7 then somL l k else if (gs l k).k = 8 then somL l k else if (gs l k).k = 6 then somL l k else somL l k ++ [gs l k]
theorem som_filter (l : List Sgn) : ∀ k, somL l k = (allL l k).filter keepB
  | 0 => rfl
  | k + 1 => by
    have ih := som_filter l k
    rw [somL, allL]
    split
    · exact ih
    · rw [List.filter_append, ← ih]
      split
      next h => simp [keepB, h]
      next h8 =>
        split
        next h => simp [keepB, h]
        next h6 =>
          have : keepB (gs l k) = true := by unfold keepB; simp [h8, h6]
          rw [List.filter_cons_of_pos this]; rfl
theorem all_sub (l : List Sgn) : ∀ k, k ≤ l.length → (allL l k).Sublist (l.take k)
  | 0, _ => List.Sublist.slnil
  | k + 1, hk => by
    have ih := all_sub l k (by omega)
    rw [allL, take_snoc l (by omega)]
    split
    · exact ih.trans (List.sublist_append_left _ _)
    · exact ih.append (List.Sublist.refl _)
theorem all_kind {l : List Sgn} {x : Sgn} : ∀ {k}, x ∈ allL l k → x.k ≠ 7
  | 0, hx => by simp [allL] at hx
  | k + 1, hx => by
    rw [allL] at hx
    split at hx
    · exact all_kind hx
    next h7 =>
      rw [List.mem_append, List.mem_singleton] at hx
      rcases hx with hx | hx
      · exact all_kind hx
      · rw [hx]; exact h7
theorem insA_sorted {L dir h : Int} {l : List Sgn} (hn : (l.map (·.n)).Nodup) : (insA L dir h l).Pairwise (ahS L dir) := by
  refine insR_sorted (fun i j hij hj e => ?_) _ (Nat.le_refl _)
  rw [List.nodup_iff_pairwise_ne, List.pairwise_iff_getElem] at hn
  refine hn i j (by simpa using (by omega : i < l.length)) (by simpa using hj) hij ?_
  rw [List.getElem_map, List.getElem_map, ← gs_at _ (by omega : i < l.length), ← gs_at _ hj]
  exact e
theorem insA_filter {L dir h : Int} {l : List Sgn} (p : Sgn → Bool) (hn : (l.map (·.n)).Nodup) : insA L dir h (l.filter p) = (insA L dir h l).filter p := by
  refine ord_unique (insA_sorted (hn.sublist (List.filter_sublist.map _))) ((insA_sorted hn).sublist List.filter_sublist) ?_
  refine (insA_perm L dir h _).trans ?_
  refine List.Perm.trans ?_ ((insA_perm L dir h l).filter p).symm
  rw [List.filter_filter, List.filter_filter]
  refine List.Perm.of_eq (List.filter_congr fun x _ => Bool.and_comm _ _)
theorem keep_top {x : Sgn} (t : Int) (h : keepB x = false) : endB x.k t = false ∧ topK x.k = 0 := by
  unfold keepB at h
  have : x.k = 8 ∨ x.k = 6 := by
    by_cases h8 : x.k = 8
    · exact .inl h8
    · by_cases h6 : x.k = 6
      · exact .inr h6
      · simp [h8, h6] at h
  rcases this with e | e <;> rw [e] <;> exact ⟨rfl, rfl⟩
theorem plt_no {L dir k : Int} {s : Sgn} {r : List Sgn} (h : ∀ x, x ∈ r → x.k ≠ 7) : pltB L dir k s r.head? = false := by
  cases r with
  | nil => rfl
  | cons y r =>
    have := h y (by simp)
    simp [pltB, this]
theorem hS_far {L : Int} {js : List Int} {dir t k : Int} : ∀ (r : List Sgn) (v : Int), (∀ x, x ∈ r → k < dstK L dir x.c) → hS L js dir t k r v = v
  | [], _, _ => rfl
  | x :: r, v, h => by rw [hS, if_pos (h x (by simp))]
theorem hS_keep {L : Int} {js : List Int} {dir t k : Int} (ht : t ≠ 0) : ∀ (r : List Sgn) (v : Int), (∀ x, x ∈ r → x.k ≠ 7) → r.Pairwise (ahS L dir) → hS L js dir t k (r.filter keepB) v = hS L js dir t k r v
  | [], _, _, _ => rfl
  | x :: r, v, h7, hp => by
    have hp2 := List.pairwise_cons.1 hp
    have ih := fun v => hS_keep (js := js) (k := k) ht r v (fun y hy => h7 y (by simp [hy])) hp2.2
    have hd : ∀ y, y ∈ r → dstK L dir x.c ≤ dstK L dir y.c := fun y hy => by
      have := hp2.1 y hy
      unfold ahS at this
      omega
    by_cases hk : k < dstK L dir x.c
    · rw [hS, if_pos hk]
      refine hS_far _ _ fun y hy => ?_
      have hy := (List.mem_filter.1 hy).1
      rw [List.mem_cons] at hy
      rcases hy with rfl | hy
      · exact hk
      · have := hd y hy; omega
    · by_cases hx : keepB x = true
      · rw [List.filter_cons_of_pos hx, hS, hS, if_neg hk, if_neg hk, ih]
        congr 1
        unfold stpS shutB
        rw [plt_no (r := r) (fun y hy => h7 y (List.mem_cons_of_mem _ hy)), plt_no (r := r.filter keepB) (fun y hy => h7 y (List.mem_cons_of_mem _ (List.mem_filter.1 hy).1))]
      · have hx : keepB x = false := by simpa using hx
        obtain ⟨h1, h2⟩ := keep_top t hx
        rw [List.filter_cons_of_neg (by rw [hx]; decide), ih, hS, if_neg hk]
        congr 1
        unfold stpS
        rw [h1, h2, if_neg (by decide), if_neg (Ne.symm ht)]
theorem hld_som {L : Int} {js : List Int} {l : List Sgn} {h dir t m : Int} (ht : t ≠ 0) (hs : sgnsB L js l = true) : hldV L js (somL l l.length) h dir t m = hldV L js (allL l l.length) h dir t m := by
  have hn := ((sgns_iff L js l).1 hs).2.2.2
  have hsub := all_sub l l.length (Nat.le_refl _)
  rw [List.take_length] at hsub
  have hn2 : ((allL l l.length).map (·.n)).Nodup := hn.sublist (hsub.map _)
  show hS L js dir t (begK L dir m) (insA L dir h (somL l l.length)) 0 = hS L js dir t (begK L dir m) (insA L dir h (allL l l.length)) 0
  rw [som_filter, insA_filter keepB hn2]
  refine hS_keep ht _ _ (fun x hx => ?_) (insA_sorted hn2)
  have := (insA_perm L dir h (allL l l.length)).mem_iff.1 hx
  exact all_kind (List.mem_filter.1 this).1
theorem hld_spk (L : Int) (js : List Int) (l : List Sgn) (h dir t m : Int) : hldV L js (spkL h l l.length) h dir t m = hldV L js l h dir t m := by
  show hS L js dir t (begK L dir m) (insA L dir h (spkL h l l.length)) 0 = _
  rw [spk_ins]; rfl
theorem hld_oth (L : Int) (js : List Int) (l : List Sgn) (z : Nat) (h dir t m : Int) : hldV L js (covL z l l.length) h dir t m = hldV L js (othL z l l.length) h dir t m := by
  show hS L js dir t (begK L dir m) (insA L dir h (covL z l l.length)) 0 = hS L js dir t (begK L dir m) (insA L dir h (othL z l l.length)) 0
  rw [oth_cov]
theorem spk_good {L : Int} {js : List Int} {l : List Sgn} (h : Int) (hs : sgnsB L js l = true) : sgnsB L js (spkL h l l.length) = true := sgns_sub hs (by have := spk_sub h l l.length (Nat.le_refl _); rwa [List.take_length] at this)
theorem oth_good {L : Int} {js : List Int} {l : List Sgn} (z : Nat) (hs : sgnsB L js l = true) : sgnsB L js (othL z l l.length) = true := sgns_sub hs (by have := oth_sub z l l.length (Nat.le_refl _); rwa [List.take_length] at this)
theorem all_good {L : Int} {js : List Int} {l : List Sgn} (hs : sgnsB L js l = true) : sgnsB L js (allL l l.length) = true := sgns_sub hs (by have := all_sub l l.length (Nat.le_refl _); rwa [List.take_length] at this)
theorem som_good {L : Int} {js : List Int} {l : List Sgn} (hs : sgnsB L js l = true) : sgnsB L js (somL l l.length) = true := by
  rw [som_filter]
  exact sgns_sub (all_good hs) List.filter_sublist
end Go.Proofs.YtlpdjinhkmgbgaaGreatDoor

namespace Go.Proofs.YtlpdjinhkmgbgaaGreatDoor
set_option linter.unusedVariables false
set_option linter.unusedSimpArgs false
open Go.RowKit

theorem allocOld (w : World) (o : Obj) {r : Nat} (h : r < w.heap.size) : (w.alloc o).heap[r]? = w.heap[r]? := by
  first | exact heap_alloc_old w o h | exact heap_alloc_old w o _ h
/-- Two rows lie apart. -/
def apB (av a2 : Option Addr) : Prop := ∀ x y, av = some x → a2 = some y → x.block ≠ y.block
theorem apB.symm {av a2 : Option Addr} (h : apB av a2) : apB a2 av := fun x y hx hy e => h y x hy hx e.symm
theorem apB_none (a2 : Option Addr) : apB none a2 := fun x y hx _ => by cases hx
theorem apB_none2 (a2 : Option Addr) : apB a2 none := fun x y _ hy => by cases hy
/-- What an append leaves: every older block but that of the row; the row's new block is none of them. -/
def KpB (w w' : World) (av : Option Addr) (g : Nat) : Prop := ∀ B, B < w.heap.size → (∀ x, av = some x → x.block ≠ B) → w'.heap[B]? = w.heap[B]? ∧ g ≠ B
theorem own_lt {w : World} {B : Nat} {T : TypeId} {K : Nat} {av : Option Addr} {n c m : Nat} {xs : List Value} (h : w.ownsRow B T K (.slice av n c) m xs) : ∀ x, av = some x → x.off = 0 ∧ B ≤ x.block ∧ x.block < w.heap.size := by
  intro x hx
  rcases h.2 with ⟨h1, _⟩ | ⟨g2, c3, cur, h1, h2, h3, _⟩
  · injection h1 with h1 _ _
    rw [hx] at h1; cases h1
  · injection h1 with h1 _ _
    rw [hx] at h1
    injection h1 with h1
    subst h1
    refine ⟨rfl, h2, ?_⟩
    apply Nat.lt_of_not_le
    intro hle
    rw [Array.getElem?_eq_none hle] at h3
    cases h3
theorem own_kept {w w' : World} {B : Nat} {T : TypeId} {K : Nat} {av a2 : Option Addr} {n c m g : Nat} {xs : List Value} (h : w.ownsRow B T K (.slice a2 n c) m xs) (hk : KpB w w' av g) (ha : apB av a2) :
    w'.ownsRow B T K (.slice a2 n c) m xs ∧ apB (some ⟨g, 0, none⟩) a2 := by
  refine ⟨⟨h.1, ?_⟩, fun x y hx hy => ?_⟩
  · rcases h.2 with h1 | ⟨g2, c3, cur, h1, h2, h3, h4⟩
    · exact .inl h1
    · refine .inr ⟨g2, c3, cur, h1, h2, ?_, h4⟩
      have e : a2 = some ⟨g2, 0, none⟩ := by injection h1
      have hl := (own_lt h _ e).2.2
      exact (hk g2 hl fun x hx => ha x _ hx e).1.trans h3
  · injection hx with hx
    subst hx
    exact (hk y.block (own_lt h y hy).2.2 fun x hx => ha x y hx hy).2
/-- append of one new element to a row of one's own, in a region that is not drawn. -/
theorem app_lit {P : Program} {W : World} {ops : Array Oper} {rest : List Oper} {o : Oper} {a : Act} {Q : Exit → Act → World → Prop} (hgd : o.guard = none) (s x : Operand) (t : TypeId)
    (ho : o.op = .call { callee := .builtin .append, args := #[s, x], argTypes := #[t, t] })
    (B : Nat) (T : TypeId) (i : TypeInfo) (z : Value) (K bytes : Nat) (ht : P.underlying t = some (.slice T)) (hi : P.info? T = some i) (hz : i.zero = some z)
    (hsize : i.size = K) (hby : i.bytes = bytes) (hzs : z.cells.size = K) (hK : 0 < K) (hbb : bytes ≤ 1000)
    (av : Option Addr) (n cv : Nat) (xs : List Value) (hs : a.eval s = .slice av n cv) (hR : W.ownsRow B T K (.slice av n cv) n xs)
    (cs : Array Value) (hcs : cs.size = K) (h1 : ∀ u ∈ cs.toList, u.oneCell' = true) (hx : a.eval x = .slice (some ⟨W.heap.size, 0, none⟩) 1 1)
    (hB : B ≤ W.heap.size) (hn : n ≤ 1000)
    (h : ∀ g cap w', w'.ownsRow B T K (.slice (some ⟨g, 0, none⟩) (n + 1) cap) (n + 1) (xs ++ cs.toList) → KpB W w' av g → g < w'.heap.size →
      (∀ w0 : World, B = w0.heap.size → Below w0.heap.size w0 W → Below w0.heap.size w0 w') → wpList P ops Q rest (a.put o.dst (.slice (some ⟨g, 0, none⟩) (n + 1) cap)) w') :
    wpList P ops Q (o :: rest) a (W.alloc (.cells cs T)) := by
  refine wpList_append_lies (W.alloc (.cells cs T)) hgd s x t ho B T i z K bytes ht hi hz hsize hby hzs hK (.slice av n cv) n xs hs (hR.alloc _) ⟨W.heap.size, 0, none⟩ 1 1 cs.toList hx
    (by rw [Array.length_toList, hcs, Nat.one_mul]) (World.news_of_block (heap_alloc_new W _)) h1 (by decide) (by unfold maxLen; omega) ?_ (by simp; omega) _ rfl ?_
  · have := Nat.mul_le_mul (show n + 1 ≤ 1001 by omega) hbb; omega
  · intro g cap w' hown hgrow hat hlt
    refine h g cap w' hown (fun B' hB' hne => ⟨?_, ?_⟩) hlt fun w0 hw0 hb => ?_
    · refine (hgrow.block B' (by simp; omega) fun e => ?_).trans (allocOld W _ hB')
      cases av with
      | none => simp [Value.ownBlock] at e
      | some y => simp [Value.ownBlock] at e; exact hne y rfl e.symm
    · rcases hat with h9 | h9
      · cases av with
        | none => simp [Value.ownBlock] at h9
        | some y => simp [Value.ownBlock] at h9; rw [← h9]; exact hne y rfl
      · intro e; rw [h9] at e; simp at e; omega
    · subst hw0
      refine (hb.alloc hB _).grown hgrow (by simp; omega) fun k hk => ?_
      cases av with
      | none => simp [Value.ownBlock] at hk
      | some y =>
        simp [Value.ownBlock] at hk
        rw [← hk]
        exact (own_lt hR y rfl).2.1
end Go.Proofs.YtlpdjinhkmgbgaaGreatDoor

namespace Go.Proofs.YtlpdjinhkmgbgaaGreatDoor
set_option linter.unusedVariables false
set_option linter.unusedSimpArgs false
open Go.RowKit

/-- The cells of a block that is known. -/
theorem heapc {w : World} {B : Nat} {cs : Array Value} {T : TypeId} {fr : Nat × Nat} (h : w.heap[B]? = some (.cells cs T fr)) {i : Nat} {v : Value} (hi : cs[i]? = some v) : w.cell? ⟨B, i, none⟩ = some v := (cell_of_row w B i cs T fr h).trans hi
theorem heap_lt {w : World} {B : Nat} {o : Obj} (h : w.heap[B]? = some o) : B < w.heap.size := by
  apply Nat.lt_of_not_le
  intro hle
  rw [Array.getElem?_eq_none hle] at h
  cases h
theorem heap_below {w w' : World} {B : Nat} {o : Obj} (h : w.heap[B]? = some o) (hb : Below w.heap.size w w') : w'.heap[B]? = some o := (hb.block B (heap_lt h)).trans h
/-- A block of another type is no row's. -/
theorem own_type {w : World} {B : Nat} {T T2 : TypeId} {K : Nat} {av : Option Addr} {n c m b : Nat} {xs : List Value} {cs : Array Value} {fr : Nat × Nat} (h : w.ownsRow B T K (.slice av n c) m xs) (hb : w.heap[b]? = some (.cells cs T2 fr)) (hT : T ≠ T2) : ∀ x, av = some x → x.block ≠ b := by
  intro x hx e
  rcases h.2 with ⟨h1, _⟩ | ⟨g2, c3, cur, h1, h2, h3, _⟩
  · injection h1 with h1 _ _
    rw [hx] at h1; cases h1
  · injection h1 with h1 _ _
    rw [hx] at h1
    injection h1 with h1
    subst h1
    rw [show g2 = b from e] at h3
    rw [hb] at h3
    injection h3 with h3
    injection h3 with _ h3 _
    exact hT h3.symm
theorem heap_kept {w w' : World} {av : Option Addr} {g B : Nat} {o : Obj} (hk : KpB w w' av g) (h : w.heap[B]? = some o) (hne : ∀ x, av = some x → x.block ≠ B) : w'.heap[B]? = some o ∧ g ≠ B :=
  ⟨(hk B (heap_lt h) hne).1.trans h, (hk B (heap_lt h) hne).2⟩
/-- Values of signs whose covers lie in memory. -/
def PrsL (w : World) (S : List RE) : Prop := ∀ x, x ∈ S → PairsS w x.2.1 x.1.cv
theorem PrsL.below {w w' : World} {S : List RE} (h : PrsL w S) (hb : Below w.heap.size w w') : PrsL w' S := fun x hx => (h x hx).below hb
theorem PrsL.snoc {w : World} {S : List RE} {X : RE} (h : PrsL w S) (hX : PairsS w X.2.1 X.1.cv) : PrsL w (S ++ [X]) := fun x hx => by
  rw [List.mem_append, List.mem_singleton] at hx
  rcases hx with hx | hx
  · exact h x hx
  · rw [hx]; exact hX
theorem row_sgn {w : World} {base c : Nat} {a : Option Addr} {S : List RE} (h : w.ownsRow base 69 9 (.slice a S.length c) S.length (clR S)) (hn : S.length ≤ 9223372036854775807) (hp : PrsL w S) : SgnS w a (S.map (·.1)) :=
  ownR h hn fun i hi => hp _ (by rw [getElem!_pos S i hi]; exact List.getElem_mem hi)
theorem clR_snoc (S : List RE) (X : RE) : clR (S ++ [X]) = clR S ++ encS X := by rw [clR_app]; simp [clR]
theorem map_snoc (S : List RE) (X : RE) : (S ++ [X]).map (·.1) = S.map (·.1) ++ [X.1] := by rw [List.map_append]; rfl
/-- Holds at a row of one's own. -/
theorem holds_row (L : Int) (a : Option Addr) (js : List Int) (ca : Nat) (av : Option Addr) (S : List RE) (cv : Nat) (l : List Sgn) (h dir tp m V : Int) (hV : hldV L js l h dir tp m = V) (hs : sgnsB L js l = true) (hl : S.map (·.1) = l) (h0 : btw h 0 10000000 = true) (h1 : dirB dir = true) (h2 : topB tp = true) (h3 : btw m 0 (L - 1) = true) (base : Nat) (w : World) (hI : IntsS w a js)
    (hR : w.ownsRow base 69 9 (.slice av S.length cv) S.length (clR S)) (hp : PrsL w S) : Calls Tryz.prog 21 #[.agg #[.int .i64 L, .slice a js.length ca], .slice av S.length cv, .int .i64 h, .int .i64 dir, .int .i64 tp, .int .i64 m] w (NumA V 0 w) := by
  subst hl
  have hn := ((sgns_iff L js _).1 hs).2.1
  rw [List.length_map] at hn
  have := Holds_good L a js ca av (S.map (·.1)) cv h dir tp m ((lst_iff _ _ _).2 hs) h0 h1 h2 h3 w hI (row_sgn hR (by omega) hp)
  rw [List.length_map, hV] at this
  exact this
end Go.Proofs.YtlpdjinhkmgbgaaGreatDoor

namespace Go.Proofs.YtlpdjinhkmgbgaaGreatDoor
set_option linter.unusedVariables false
set_option linter.unusedSimpArgs false
open Go.RowKit

abbrev Qud := Int × Int × Int × Int
/-- The cells of parts of pairs. -/
def cl4 (s : List Qud) : List Value := s.flatMap fun p => [.int .i64 p.1, .int .i64 p.2.1, .int .i64 p.2.2.1, .int .i64 p.2.2.2]
theorem cl4_app (s : List Qud) (p : Qud) : cl4 (s ++ [p]) = cl4 s ++ [.int .i64 p.1, .int .i64 p.2.1, .int .i64 p.2.2.1, .int .i64 p.2.2.2] := by simp [cl4]
theorem cl4_len (s : List Qud) : (cl4 s).length = s.length * 4 := by
  induction s with
  | nil => rfl
  | cons p s ih => unfold cl4 at *; rw [List.flatMap_cons, List.length_append, ih]; simp; omega
theorem cl4_c : ∀ (s : List Qud) (i : Nat), i < s.length → (cl4 s)[i * 4]? = some (.int .i64 (gtV s i).1) ∧ (cl4 s)[i * 4 + 1]? = some (.int .i64 (gtV s i).2.1) ∧ (cl4 s)[i * 4 + 2]? = some (.int .i64 (gtV s i).2.2.1) ∧ (cl4 s)[i * 4 + 3]? = some (.int .i64 (gtV s i).2.2.2)
  | [], i, hi => by simp at hi
  | p :: s, 0, hi => by simp [cl4, gtV]
  | p :: s, i + 1, hi => by
    have ih := cl4_c s i (by simpa using hi)
    have e : ∀ c, c < 4 → (cl4 (p :: s))[(i + 1) * 4 + c]? = (cl4 s)[i * 4 + c]? := fun c hc => by
      unfold cl4
      rw [List.flatMap_cons, List.getElem?_append_right (by simp; omega), show (i + 1) * 4 + c - [Value.int .i64 p.1, .int .i64 p.2.1, .int .i64 p.2.2.1, .int .i64 p.2.2.2].length = i * 4 + c from by simp; omega]
    have g : gtV (p :: s) (i + 1) = gtV s i := rfl
    rw [g]
    exact ⟨(e 0 (by omega)).trans ih.1, (e 1 (by omega)).trans ih.2.1, (e 2 (by omega)).trans ih.2.2.1, (e 3 (by omega)).trans ih.2.2.2⟩
theorem cl4_set : ∀ (s : List Qud) (i : Nat) (b : Int), i < s.length → (cl4 s).set (i * 4 + 1) (.int .i64 b) = cl4 (s.set i ((gtV s i).1, b, (gtV s i).2.2))
  | [], i, b, hi => by simp at hi
  | p :: s, 0, b, hi => by simp [cl4, gtV]
  | p :: s, i + 1, b, hi => by
    have ih := cl4_set s i b (by simpa using hi)
    unfold cl4 gtV at *
    rw [List.flatMap_cons, List.set_append_right _ _ (by simp; omega), show (i + 1) * 4 + 1 - [Value.int .i64 p.1, .int .i64 p.2.1, .int .i64 p.2.2.1, .int .i64 p.2.2.2].length = i * 4 + 1 from by simp; omega, ih]
    rfl
theorem prt1V_len (acc : List Qud) (x y : Int) (v : Int × Int) : (prt1V acc x y v).length ≤ acc.length + 1 := by
  unfold prt1V; split
  · simp
  · simp
theorem prtV_len (z : List Int) (f : Int → Int × Int) : ∀ k, (prtV z f k).length ≤ k
  | 0 => Nat.le_refl _
  | k + 1 => by
    rw [prtV]; split
    · simp
    · exact Nat.le_trans (prt1V_len _ _ _ _) (Nat.succ_le_succ (prtV_len z f k))
theorem pairInfo : (Tryz.prog.info? 88).map (fun i => (i.zero, i.size, i.bytes)) = some (some (.agg #[.int .i64 0, .int .i64 0, .int .i64 0, .int .i64 0]), 4, 32) := by kernel_rfl
theorem part_intP (w : World) (xs : Array Value) (i : Nat) (k : Int) (h : xs[i]? = some (.int .i64 k)) : (part 3 xs i).run Tryz.prog w = .ok (.int .i64 k) w := by
  simp [part, go_sem, h]
theorem eq_pair (w : World) (x y x2 y2 : Int) : (Op.equalIn 10000 80 (.agg #[.int .i64 x, .int .i64 y]) (.agg #[.int .i64 x2, .int .i64 y2])).run Tryz.prog w = .ok ((x == x2) && (y == y2)) w := by
  have hz : ∀ W, (sizeOf 3).run Tryz.prog W = .ok 1 W := fun W => by kernel_rfl
  show (Op.equalIn (9999 + 1) _ _ _).run _ _ = _
  rw [Op.equalIn]
  simp only [Sem.run_bind, run_underlying Tryz.underlying80, Result.andThen_ok, hz]
  simp [Std.Legacy.Range.forIn_eq_forIn_range', List.range', Sem.run_bind, part_intP, run_equalIn_int, Tryz.underlying3, Std.Legacy.Range.size]
  cases h : (x == x2) <;> simp_all [Sem.run_bind, part_intP, run_equalIn_int]
  by_cases h2 : y = y2
  · rw [if_pos h2, h2]; simp
  · rw [if_neg h2, beq_false_of_ne h2]
/-- What parts of pairs returns. -/
def PrqE (w : World) (z : List Int) (f : Int → Int × Int) (e : Ending) (w' : World) : Prop :=
  ∃ b c, e = .returned (.slice b (prtV z f z.length).length c) ∧ w'.ownsRow w.heap.size 88 4 (.slice b (prtV z f z.length).length c) (prtV z f z.length).length (cl4 (prtV z f z.length)) ∧ Below w.heap.size w w'
set_option maxRecDepth 100000 in
set_option maxHeartbeats 4000000 in
theorem both1_r (b1 b2 : Nat) (lb1 lb2 : Array Value) (x y m : Int) (w : World) (c1 : w.cell? ⟨b1, 0, none⟩ = some (.func (.func 71) #[] lb1)) (c2 : w.cell? ⟨b2, 0, none⟩ = some (.func (.func 72) #[] lb2))
    (h1 : ∀ W, Below w.heap.size w W → Calls Tryz.prog 71 (#[.int .i64 m] ++ lb1) W fun e w' => e = .returned (.int .i64 x) ∧ Below W.heap.size W w')
    (h2 : ∀ W, Below w.heap.size w W → Calls Tryz.prog 72 (#[.int .i64 m] ++ lb2) W fun e w' => e = .returned (.int .i64 y) ∧ Below W.heap.size W w') :
    Calls Tryz.prog 31 (#[.int .i64 m] ++ #[.pointer (some ⟨b1, 0, none⟩), .pointer (some ⟨b2, 0, none⟩)]) w fun e w' => e = .returned (.agg #[.int .i64 x, .int .i64 y]) ∧ Below w.heap.size w w' := by
  have H1 := Lib.hid h1
  have H2 := Lib.hid h2
  have hz1 := block_lt c1
  have hz2 := block_lt c2
  clear h1 h2
  go_enter Tryz.func31, Tryz.ntmps31
  go_upto_region 1 with (fail)
  obtain ⟨wB, hwB⟩ : ∃ wB, w.alloc (.cells #[.int .i64 0, .int .i64 0] 80) = wB := ⟨_, rfl⟩
  have hb : Below w.heap.size w wB := by rw [← hwB]; exact (Below.refl _ _).alloc (Nat.le_refl _) _
  have hB0 : wB.heap[w.heap.size]? = some (.cells #[.int .i64 0, .int .i64 0] 80 (0, 0)) := by rw [← hwB]; exact heap_alloc_new _ _
  have hzB : w.heap.size < wB.heap.size := by rw [← hwB]; simp
  replace c1 := cell_below c1 hb
  replace c2 := cell_below c2 hb
  rw [hwB]
  clear hwB
  refine wp_region_held_drew (S := fun w' => Below w.heap.size wB w' ∧ ∃ v0 v1, w'.heap[w.heap.size]? = some (.cells #[v0, v1] 80 (0, 0))) (by kernel_rfl) (⟨(Below.refl _ _).drew, _, _, hB0⟩) (fun hHeld => ?_)
  refine takeU (i := 0) (some 5) (.pointer (some ⟨b1, 0, none⟩)) (by kernel_rfl) (by kernel_rfl) (by kernel_rfl) (by kernel_rfl) (by kernel_rfl) (fun _ => by kernel_rfl) (fun _ _ _ h => h) hHeld ?_
  refine wpAnyH_take (i := 1) (oi := { dst := some 6, op := Go.Op.load 75 (Go.Operand.tmp 5), type := 75, pos := "hold.go:94", after := #[{ on := 0, ground := Go.Ground.data }], guard := none }) (v := .func (.func 71) #[] lb1) rfl (by kernel_rfl) (by kernel_rfl) (by kernel_rfl) (fun _ _ _ h => h) (.inl ⟨by kernel_rfl, fun w9 h9 => by
    clear hHeld
    have d0 := (h9.1.cell (p := ⟨b1, 0, none⟩) hz1).trans c1
    clear h9
    go_simp⟩) hHeld ?_
  refine takeU (i := 2) (some 7) (.int .i64 m) (by kernel_rfl) (by kernel_rfl) (by kernel_rfl) (by kernel_rfl) (by kernel_rfl) (fun _ => by kernel_rfl) (fun _ _ _ h => h) hHeld ?_
  refine takeU (i := 4) (some 9) (.pointer (some ⟨b2, 0, none⟩)) (by kernel_rfl) (by kernel_rfl) (by kernel_rfl) (by kernel_rfl) (by kernel_rfl) (fun _ => by kernel_rfl) (fun _ _ _ h => h) hHeld ?_
  refine wpAnyH_take (i := 5) (oi := { dst := some 10, op := Go.Op.load 75 (Go.Operand.tmp 9), type := 75, pos := "hold.go:94", after := #[{ on := 4, ground := Go.Ground.data }], guard := none }) (v := .func (.func 72) #[] lb2) rfl (by kernel_rfl) (by kernel_rfl) (by kernel_rfl) (fun _ _ _ h => h) (.inl ⟨by kernel_rfl, fun w9 h9 => by
    clear hHeld
    have d0 := (h9.1.cell (p := ⟨b2, 0, none⟩) hz2).trans c2
    clear h9
    go_simp⟩) hHeld ?_
  refine takeU (i := 6) (some 11) (.int .i64 m) (by kernel_rfl) (by kernel_rfl) (by kernel_rfl) (by kernel_rfl) (by kernel_rfl) (fun _ => by kernel_rfl) (fun _ _ _ h => h) hHeld ?_
  try simp only [Act.put, List.setIfInBounds_toArray, List.set_cons_zero, List.set_cons_succ]
  refine wpAnyH_ready (rs := [3]) (by kernel_rfl) (by simp) ?_
  refine AllReadyH.cons (o := { dst := some 8, op := Go.Op.call { callee := Go.Callee.value (Go.Operand.tmp 6), args := #[Go.Operand.tmp 7], argTypes := #[3] }, type := 3, pos := "hold.go:94", after := #[{ on := 1, ground := Go.Ground.data }, { on := 2, ground := Go.Ground.data }], guard := none }) rfl (fun K hK => ?_) AllReadyH.nil
  go_simp
  go_at_call 71
  refine (H1.out _ (hb.trans hHeld.1)).mono ?_
  rintro e w39 ⟨rfl, hb39⟩
  refine hK.out _ _ ⟨hHeld.1.trans (hb39.mono (Nat.le_trans (Nat.le_of_lt hzB) hHeld.1.size)), let ⟨v0, v1, hv⟩ := hHeld.2; ⟨v0, v1, (hb39.block w.heap.size (by have := hHeld.1.size; omega)).trans hv⟩⟩ (fun hHeld => ?_)
  clear hK K hb39
  try simp only [Act.put, List.setIfInBounds_toArray, List.set_cons_zero, List.set_cons_succ]
  try simp only [Act.put, List.setIfInBounds_toArray, List.set_cons_zero, List.set_cons_succ]
  refine wpAnyH_ready (rs := [7]) (by kernel_rfl) (by simp) ?_
  refine AllReadyH.cons (o := { dst := some 12, op := Go.Op.call { callee := Go.Callee.value (Go.Operand.tmp 10), args := #[Go.Operand.tmp 11], argTypes := #[3] }, type := 3, pos := "hold.go:94", after := #[{ on := 5, ground := Go.Ground.data }, { on := 6, ground := Go.Ground.data }, { on := 3, ground := Go.Ground.chain }], guard := none }) rfl (fun K hK => ?_) AllReadyH.nil
  go_simp
  go_at_call 72
  refine (H2.out _ (hb.trans hHeld.1)).mono ?_
  rintro e w79 ⟨rfl, hb79⟩
  refine hK.out _ _ ⟨hHeld.1.trans (hb79.mono (Nat.le_trans (Nat.le_of_lt hzB) hHeld.1.size)), let ⟨v0, v1, hv⟩ := hHeld.2; ⟨v0, v1, (hb79.block w.heap.size (by have := hHeld.1.size; omega)).trans hv⟩⟩ (fun hHeld => ?_)
  clear hK K hb79
  try simp only [Act.put, List.setIfInBounds_toArray, List.set_cons_zero, List.set_cons_succ]
  refine takeU (i := 8) (some 13) (.agg #[.int .i64 x, .int .i64 y]) (by kernel_rfl) (by kernel_rfl) (by kernel_rfl) (by kernel_rfl) (by kernel_rfl) (fun _ => by kernel_rfl) (fun _ _ _ h => h) hHeld ?_
  try simp only [Act.put, List.setIfInBounds_toArray, List.set_cons_zero, List.set_cons_succ]
  refine wpAnyH_ready (rs := [9]) (by kernel_rfl) (by simp) ?_
  refine AllReadyH.cons (o := { dst := none, op := Go.Op.store 80 (Go.Operand.tmp 4) (Go.Operand.tmp 13), type := 0, pos := "hold.go:94", after := #[{ on := 8, ground := Go.Ground.data }, { on := 7, ground := Go.Ground.chain }, { on := 0, ground := Go.Ground.phase }, { on := 1, ground := Go.Ground.phase }, { on := 2, ground := Go.Ground.phase }, { on := 3, ground := Go.Ground.phase }, { on := 4, ground := Go.Ground.phase }, { on := 5, ground := Go.Ground.phase }, { on := 6, ground := Go.Ground.phase }, { on := 7, ground := Go.Ground.phase }, { on := 8, ground := Go.Ground.phase }], guard := none }) rfl (fun K hK => ?_) AllReadyH.nil
  obtain ⟨hHa, v0, v1, hHb⟩ := hHeld
  have y0 := heapc hHb (i := 0) (v := v0) rfl
  have y1 := heapc hHb (i := 1) (v := v1) rfl
  have g0 : w79.frozen? ⟨w.heap.size, 0, none⟩ = false := by simp [World.frozen?, hHb]
  have g1 : w79.frozen? ⟨w.heap.size, 1, none⟩ = false := by simp [World.frozen?, hHb]
  go_simp
  have e1 := heap_setCell_same w79 w.heap.size 0 _ 80 (.int .i64 x) hHb
  have e2 := heap_setCell_same _ w.heap.size 1 _ 80 (.int .i64 y) e1
  refine hK.out _ _ ⟨(hHa.setCell (p := ⟨w.heap.size, 0, none⟩) (Nat.le_refl _) _).setCell (p := ⟨w.heap.size, 1, none⟩) (Nat.le_refl _) _, _, _, e2⟩ (fun hHeld => ?_)
  have HE2 := Lib.hid e2
  have HHa := Lib.hid ((hHa.setCell (p := ⟨w.heap.size, 0, none⟩) (Nat.le_refl _) (.int .i64 x)).setCell (p := ⟨w.heap.size, 1, none⟩) (Nat.le_refl _) (.int .i64 y))
  clear hHb e1 e2 y0 y1 g0 g1
  clear hK K
  try simp only [Act.put, List.setIfInBounds_toArray, List.set_cons_zero, List.set_cons_succ]
  refine wpAnyH_done (by kernel_rfl) ?_ _
  try simp only [Act.put, List.setIfInBounds_toArray, List.set_cons_zero, List.set_cons_succ]
  have r0 := heapc HE2.out (i := 0) rfl
  have r1 := heapc HE2.out (i := 1) rfl
  have HBz := Lib.hid (hb.trans (HHa.out.mono (Nat.le_refl _)))
  obtain ⟨wZ, hwZ⟩ : ∃ wZ, (w79.setCell ⟨w.heap.size, 0, none⟩ (.int .i64 x)).setCell ⟨w.heap.size, 1, none⟩ (.int .i64 y) = wZ := ⟨_, rfl⟩
  rw [hwZ] at r0 r1 HBz ⊢
  clear hwZ HE2 HHa hHeld hHa
  go_wp2_with fail
  exact bodyPost_ret (v := .agg #[.int .i64 x, .int .i64 y]) (by simp [results, Tryz.results31, go_sem, r0, r1]) rfl ⟨rfl, HBz.out⟩
set_option maxRecDepth 100000 in
set_option maxHeartbeats 4000000 in
theorem parts2_r (a : Option Addr) (cuts : List Int) (ca : Nat) (lb : Array Value) (f : Int → Int × Int) (w : World) (hA : IntsS w a cuts) (hne : cuts ≠ []) (hn : cuts.length ≤ 1000000)
    (hf : ∀ m W, m ∈ cuts → Below w.heap.size w W → Calls Tryz.prog 31 (#[.int .i64 m] ++ lb) W fun e w' => e = .returned (.agg #[.int .i64 (f m).1, .int .i64 (f m).2]) ∧ Below W.heap.size W w') :
    Calls Tryz.prog 32 #[.slice a cuts.length ca, .func (.func 31) #[] lb] w (PrqE w (ascL cuts) f) := by
  obtain ⟨hlen, -, blk, off, hadr, hc⟩ := hA
  obtain rfl := hadr hne
  have HV := Lib.hid (fun W => values_in (some ⟨blk, off, none⟩) cuts.length ca W)
  have hbk : blk < w.heap.size := block_lt (hc 0 (by cases cuts with | nil => exact absurd rfl hne | cons x l => simp))
  have HS := Lib.hid (sorted_in w.heap.size blk off ca cuts (by omega) (w.alloc (.cells #[.slice (some ⟨blk, off, none⟩) cuts.length ca] 22)) (by simp) (by simp; omega) (by simp [go_sem]) (fun j hj => by
    rw [((Below.refl w.heap.size w).alloc (Nat.le_refl _) _).cell (p := ⟨blk, off + j, none⟩) hbk, hc j hj]; simp [gi]))
  have HC := Lib.hid (fun W a c (h : W.ownsRow (w.heap.size + 1) 3 1 (.slice a cuts.length c) cuts.length (clI (srt cuts))) => compact_own (w.heap.size + 1) c a (srt cuts) W (by rw [srt_len]; exact h) (by rw [srt_len]; omega))
  have HF := Lib.hid hf
  have HZ : Hid (0 < (ascL cuts).length ∧ (ascL cuts).length ≤ cuts.length ∧ ∀ k, k < (ascL cuts).length → gi (ascL cuts) k ∈ cuts) := Lib.hid ⟨asc_pos hne, asc_len cuts, fun k hk => asc_mem hk⟩
  have HL : Hid (Lib.compact (srt cuts) = ascL cuts) := Lib.hid rfl
  rw [HL.out, srt_len] at HC
  generalize ascL cuts = z at *
  obtain ⟨n0, hi, hz0, hz1, hz2⟩ := info_parts pairInfo
  clear hf hc hadr HL hlen
  go_enter Tryz.func32, Tryz.ntmps32
  go_wp2_with (first | (go_at_call 75; refine (HV.out _).mono ?_; rintro e w7 ⟨rfl, rfl⟩) | (go_at_call 74; refine HS.out.mono ?_; rintro e w8 ⟨a8, c8, rfl, hr8, hb8⟩; have HC8 := Lib.hid (HC.out _ _ _ (by simpa using hr8)); have hz8 := hb8.size) | (go_at_call 73; refine HC8.out.mono ?_; rintro e w9 ⟨rfl, hr9, hb9⟩))
  have hbo : Below w.heap.size w w9 := ((Below.refl w.heap.size w).alloc (Nat.le_refl _) _).trans ((hb8.mono (by simp)).trans ((hb9 (by simp at hz8; omega)).mono (by omega)))
  have HOwn := Lib.hid hr9
  clear hr9 hb9 hb8 hr8 HC HC8 HS HV hz8
  have HCz : Hid (∀ k, k < z.length → ∃ g, a8 = some ⟨g, 0, none⟩ ∧ w9.cell? ⟨g, k, none⟩ = some (.int .i64 (gi z k))) := Lib.hid fun k hk => by
    have h := HOwn.out
    rcases h.2 with ⟨h1, h2⟩ | ⟨g2, c2, cur, h1, _⟩
    · omega
    · obtain ⟨rfl, rfl⟩ : a8 = some ⟨g2, 0, none⟩ ∧ c8 = c2 := by simpa using h1
      refine ⟨g2, rfl, ?_⟩
      rw [World.ownsRow.cellAt h k (by omega)]
      exact clI_get z (by omega)
  clear HOwn
  obtain ⟨hzp, hzl, -⟩ := HZ.out
  obtain ⟨wo, rfl⟩ : ∃ wo : World, wo = w9 := ⟨_, rfl⟩
  go_wp2_with fail
  go_loopw [6, 7] (fun q i wr => ∃ k : Nat, 0 < k ∧ k ≤ z.length ∧ i = .int .i64 k ∧ (∃ a c, q = .slice a (prtV z f k).length c) ∧ Hid (wr.ownsRow wo.heap.size 88 4 q (prtV z f k).length (cl4 (prtV z f k))) ∧ Below wo.heap.size wo wr) (fun _ i _ => z.length - (intOf i).toNat)
  case atStart => exact ⟨1, by omega, by omega, rfl, ⟨none, 0, rfl⟩, Lib.hid ⟨rfl, .inl ⟨rfl, rfl⟩⟩, Below.refl _ _⟩
  case round =>
    obtain ⟨k, hk0, hk, rfl, ⟨av, cv, rfl⟩, HRow, hbr⟩ := hrel
    by_cases hlt : k < z.length
    · have hkl := prtV_len z f k
      obtain ⟨t, hti⟩ : ∃ t : Nat, (k : Int) - 1 = (t : Int) := ⟨k - 1, by omega⟩
      have htz : t < z.length := by omega
      have htw : IntKind.i64.wrap ((k : Int) - 1) = (t : Int) := by rw [hti]; exact IntWalk.i64_in _ (by omega)
      obtain ⟨g, rfl, c0⟩ := HCz.out t htz
      obtain ⟨g', hg', c1⟩ := HCz.out k hlt
      obtain rfl : g = g' := by simpa using hg'
      have c0 := cell_below c0 hbr
      have c1 := cell_below c1 hbr
      have hmx := HZ.out.2.2 t htz
      have hbw := hbo.trans (hbr.mono hbo.size)
      have HN : Hid (prtV z f (k + 1) = prt1V (prtV z f k) (gi z t) (gi z k) ((f (gi z t)).1, (f (gi z t)).2)) := Lib.hid (by rw [prtV, if_neg (by omega), show k - 1 = t by omega])
      have HFx := Lib.hid (fun W (hW : Below w.heap.size w W) => HF.out (gi z t) W hmx hW)
      clear hg' hmx HCz HF HZ
      generalize (f (gi z t)).1 = v1 at *
      generalize (f (gi z t)).2 = v2 at *
      generalize gi z t = x at *
      generalize gi z k = y at *
      obtain ⟨S, hS⟩ : ∃ S, prtV z f k = S := ⟨_, rfl⟩
      rw [hS] at HN HRow hkl ⊢
      clear hS
      have hk64 : (k : Int) < (z.length : Int) := by omega
      go_wp2_with fail
      go_quiet (fail)
      have hbA := below_drewN hbr nq
      have hbB := below_drewN hbw nq
      have HRow := Lib.hid (owns_belowI HRow.out (below_drewN (Below.refl wr.heap.size wr) nq))
      generalize wr.drewN nq = wA at hbA hbB HRow ⊢
      clear c0 c1
      go_wp2_with fail
      refine (HFx.out _ hbB).mono ?_
      rintro e w7 ⟨rfl, hb7⟩
      have hbA := hbA.trans (hb7.mono hbA.size)
      have HRow := Lib.hid (owns_belowI HRow.out hb7)
      clear hbB hb7 HFx
      have hs7 := hbA.size
      go_upto_region 8 with (fail)
      obtain ⟨wA, hwA⟩ : ∃ wA, w7.alloc (.cells #[.int .i64 v1, .int .i64 v2] 80) = wA := ⟨_, rfl⟩
      have y0 : wA.cell? ⟨w7.heap.size, 0, none⟩ = some (.int .i64 v1) := by rw [← hwA]; simp [go_sem]
      have y1 : wA.cell? ⟨w7.heap.size, 1, none⟩ = some (.int .i64 v2) := by rw [← hwA]; simp [go_sem]
      have HRow := Lib.hid (HRow.out.alloc (.cells #[.int .i64 v1, .int .i64 v2] 80))
      have hbA := hbA.alloc hs7 (.cells #[.int .i64 v1, .int .i64 v2] 80)
      rw [hwA] at HRow hbA ⊢
      clear hwA
      by_cases h0 : S.length = 0
      · have hS0 := List.eq_nil_of_length_eq_zero h0
        subst hS0
        have HAP : Hid (prtV z f (k + 1) = [(x, y, v1, v2)]) := Lib.hid (by rw [HN.out]; unfold prt1V; rw [if_neg (by simp)]; rfl)
        clear HN
        have HAP : Hid (0 + 1 = (prtV z f (k + 1)).length ∧ ([] : List Value) ++ [.int .i64 x, .int .i64 y, .int .i64 v1, .int .i64 v2] = cl4 (prtV z f (k + 1))) := Lib.hid (by rw [HAP.out]; exact ⟨rfl, rfl⟩)
        have HRow : Hid (wA.ownsRow wo.heap.size 88 4 (.slice av 0 cv) 0 []) := HRow
        clear h0
        go_wp2_with fail
        go_quiet (fail)
        have HRow : Hid ((wA.drewN nq).ownsRow wo.heap.size 88 4 (.slice av 0 cv) 0 []) := Lib.hid (owns_belowI HRow.out (below_drewN (Below.refl wA.heap.size wA) nq))
        have hbA := below_drewN hbA nq
        have y0 : (wA.drewN nq).cell? ⟨w7.heap.size, 0, none⟩ = some (.int .i64 v1) := cell_below y0 (below_drewN (Below.refl wA.heap.size wA) nq)
        have y1 : (wA.drewN nq).cell? ⟨w7.heap.size, 1, none⟩ = some (.int .i64 v2) := cell_below y1 (below_drewN (Below.refl wA.heap.size wA) nq)
        generalize wA.drewN nq = wA at HRow hbA y0 y1 ⊢
        have hown := Lib.hid (HRow.out.alloc (.cells #[.int .i64 x, .int .i64 y, .int .i64 v1, .int .i64 v2] 88))
        have hbs := hbA.size
        go_wp2_with (first | (at_builtin; go_loud (refine wpList_append_lies _ rfl _ _ 82 rfl wo.heap.size 88 n0 _ 4 32 Tryz.underlying82 hi hz0 hz1 hz2 rfl (by decide) (.slice _ 0 cv) 0 _ (by rfl) hown.out ⟨wA.heap.size, 0, none⟩ 1 1 [.int .i64 x, .int .i64 y, .int .i64 v1, .int .i64 v2] (by rfl) (by rfl) ?d1 ?d2 (by decide) ?d3 ?d4 ?d5 _ rfl ?_)))
        case d1 =>
          refine World.news_of_block (cs := #[.int .i64 x, .int .i64 y, .int .i64 v1, .int .i64 v2]) (t := 88) (fr := (0, 0)) ?_
          exact heap_alloc_new _ _
        case d2 => simp [Value.oneCell']
        case d3 => unfold maxLen; omega
        case d4 => omega
        case d5 => first | (simp; omega) | simp | omega
        intro g6 c6 w6 hown6 hgrow6 hat6 hlt6
        have hb6 : Below wo.heap.size wo w6 := ((hbA.alloc hbs _).grown hgrow6 (by first | (simp; omega) | simp | omega) (fun z hz => owns_blockI hown.out hz))

        go_wp2_with fail
        go_roundw
        case rel => exact ⟨k + 1, by omega, by omega, by go_num, ⟨_, c6, by rw [← HAP.out.1]⟩, Lib.hid (by rw [← HAP.out.1, ← HAP.out.2]; exact hown6), hb6⟩
        case measure => simp [intOf]; omega
      · obtain ⟨u, hu⟩ : ∃ u, S.length = u + 1 := ⟨S.length - 1, by omega⟩
        have hui : (S.length : Int) - 1 = (u : Int) := by omega
        have hu0 : (0 : Int) ≤ (u : Int) := by omega
        have hu2 : (u : Int) < (S.length : Int) := by omega
        have huw : IntKind.i64.wrap ((S.length : Int) - 1) = (u : Int) := by rw [hui]; exact IntWalk.i64_in _ (by omega)
        obtain ⟨gj, hgj⟩ : ∃ gj, av = some ⟨gj, 0, none⟩ := by
          rcases HRow.out.2 with ⟨h1, h2⟩ | ⟨g2, c2, cur, h1, _⟩
          · omega
          · exact ⟨g2, by simpa using (Value.slice.inj h1).1⟩
        subst hgj
        have cy := World.ownsRow.cellAt HRow.out (u * 4 + 2) (by omega)
        rw [(cl4_c S u (by omega)).2.2.1] at cy
        have cy2 := World.ownsRow.cellAt HRow.out (u * 4 + 3) (by omega)
        rw [(cl4_c S u (by omega)).2.2.2] at cy2
        have cx := World.ownsRow.cellAt HRow.out (u * 4 + 1) (by omega)
        rw [(cl4_c S u (by omega)).2.1] at cx
        have fx := World.ownsRow.frozenAt HRow.out (u * 4 + 1)
        have hgl : wo.heap.size ≤ gj := by
          rcases HRow.out.2 with ⟨h1, h2⟩ | ⟨g2, c2, cur, h1, h2, _⟩
          · omega
          · have : gj = g2 := by simpa using (Value.slice.inj h1).1
            omega
        have HJ : Hid (prt1V S x y (v1, v2) = if (gtV S u).2.2.1 = v1 ∧ (gtV S u).2.2.2 = v2 then S.set u ((gtV S u).1, y, v1, v2) else S ++ [(x, y, v1, v2)]) := Lib.hid (by
          unfold prt1V
          rw [show S.length - 1 = u by omega]
          by_cases hx : (gtV S u).2.2.1 = v1 ∧ (gtV S u).2.2.2 = v2
          · rw [if_pos ⟨by omega, Prod.ext hx.1 hx.2⟩, if_pos hx]
          · rw [if_neg (fun h => hx ⟨congrArg (·.1) h.2, congrArg (·.2) h.2⟩), if_neg hx])
        have HSE := Lib.hid (cl4_set S u y (by omega))
        have HEq := Lib.hid (fun W => eq_pair W (gtV S u).2.2.1 (gtV S u).2.2.2 v1 v2)
        by_cases hx : (gtV S u).2.2.1 = v1 ∧ (gtV S u).2.2.2 = v2
        · have hJ := HJ.out
          rw [if_pos hx] at hJ
          have HNn : Hid (prtV z f (k + 1) = S.set u ((gtV S u).1, y, (gtV S u).2.2)) := Lib.hid (by rw [HN.out, hJ, show (gtV S u).2.2 = (v1, v2) from Prod.ext hx.1 hx.2])
          clear hJ HJ HN
          have HST : Hid (∀ W : World, W.ownsRow wo.heap.size 88 4 (.slice (some ⟨gj, 0, none⟩) S.length cv) S.length (cl4 S) → (W.setCell ⟨gj, u * 4 + 1, none⟩ (.int .i64 y)).ownsRow wo.heap.size 88 4 (.slice (some ⟨gj, 0, none⟩) (prtV z f (k + 1)).length cv) (prtV z f (k + 1)).length (cl4 (prtV z f (k + 1)))) := Lib.hid fun W h => by
            rw [HNn.out, List.length_set, ← HSE.out]
            exact (World.ownsRow.stored h (u * 4 + 1) (.int .i64 y)).1
          have HLn : Hid ((prtV z f (k + 1)).length = S.length) := Lib.hid (by rw [HNn.out, List.length_set])
          clear HNn HSE hu
          have hq : ∀ W, (Op.equalIn 10000 80 (.agg #[.int .i64 (gtV S u).2.2.1, .int .i64 (gtV S u).2.2.2]) (.agg #[.int .i64 v1, .int .i64 v2])).run Tryz.prog W = .ok true W := fun W => by rw [HEq.out W, hx.1, hx.2]; simp
          clear HEq hx
          generalize (gtV S u).2.2.2 = q2 at *
          generalize (gtV S u).2.2.1 = q at *
          generalize (gtV S u).2.1 = q1 at *
          go_wp2_with fail
          go_quiet (fail)
          go_wp2_with fail
          go_roundw
          case rel => exact ⟨k + 1, by omega, by omega, by go_num, ⟨_, cv, by rw [HLn.out]⟩, Lib.hid (by have := HST.out _ (owns_belowI HRow.out (below_drewN (Below.refl wA.heap.size wA) nq)); rwa [HLn.out] at this ⊢), (below_drewN hbA nq).setCell (p := ⟨gj, u * 4 + 1, none⟩) hgl _⟩
          case measure => simp [intOf]; omega
        · have hJ := HJ.out
          rw [if_neg hx] at hJ
          have HAP : Hid (S.length + 1 = (prtV z f (k + 1)).length ∧ cl4 S ++ [.int .i64 x, .int .i64 y, .int .i64 v1, .int .i64 v2] = cl4 (prtV z f (k + 1))) := Lib.hid (by rw [HN.out, hJ, cl4_app]; exact ⟨by simp, rfl⟩)
          clear hJ HJ HN hu cx fx HSE
          have hq : ∀ W, (Op.equalIn 10000 80 (.agg #[.int .i64 (gtV S u).2.2.1, .int .i64 (gtV S u).2.2.2]) (.agg #[.int .i64 v1, .int .i64 v2])).run Tryz.prog W = .ok false W := fun W => by
            rw [HEq.out W]
            have : (((gtV S u).2.2.1 == v1) && ((gtV S u).2.2.2 == v2)) = false := by
              rw [Bool.and_eq_false_iff, beq_eq_false_iff_ne, beq_eq_false_iff_ne]
              by_cases e : (gtV S u).2.2.1 = v1
              · exact .inr fun e2 => hx ⟨e, e2⟩
              · exact .inl e
            rw [this]
          clear HEq hx
          generalize (gtV S u).2.2.2 = q2 at *
          generalize (gtV S u).2.2.1 = q at *
          go_wp2_with fail
          go_quiet (fail)
          have HRow := Lib.hid (owns_belowI HRow.out (below_drewN (Below.refl wA.heap.size wA) nq))
          have hbA := below_drewN hbA nq
          have y0 : (wA.drewN nq).cell? ⟨w7.heap.size, 0, none⟩ = some (.int .i64 v1) := cell_below y0 (below_drewN (Below.refl wA.heap.size wA) nq)
          have y1 : (wA.drewN nq).cell? ⟨w7.heap.size, 1, none⟩ = some (.int .i64 v2) := cell_below y1 (below_drewN (Below.refl wA.heap.size wA) nq)
          generalize wA.drewN nq = wA at HRow hbA y0 y1 ⊢
          clear cy cy2 hq
          have hown := Lib.hid (HRow.out.alloc (.cells #[.int .i64 x, .int .i64 y, .int .i64 v1, .int .i64 v2] 88))
          have hbs := hbA.size
          go_wp2_with (first | (at_builtin; go_loud (refine wpList_append_lies _ rfl _ _ 82 rfl wo.heap.size 88 n0 _ 4 32 Tryz.underlying82 hi hz0 hz1 hz2 rfl (by decide) (.slice _ S.length cv) S.length _ (by rfl) hown.out ⟨wA.heap.size, 0, none⟩ 1 1 [.int .i64 x, .int .i64 y, .int .i64 v1, .int .i64 v2] (by rfl) (by rfl) ?d1 ?d2 (by decide) ?d3 ?d4 ?d5 _ rfl ?_)))
          case d1 =>
            refine World.news_of_block (cs := #[.int .i64 x, .int .i64 y, .int .i64 v1, .int .i64 v2]) (t := 88) (fr := (0, 0)) ?_
            exact heap_alloc_new _ _
          case d2 => simp [Value.oneCell']
          case d3 => unfold maxLen; omega
          case d4 => omega
          case d5 => first | (simp; omega) | simp | omega
          intro g6 c6 w6 hown6 hgrow6 hat6 hlt6
          have hb6 : Below wo.heap.size wo w6 := ((hbA.alloc hbs _).grown hgrow6 (by first | (simp; omega) | simp | omega) (fun z hz => owns_blockI hown.out hz))

          go_wp2_with fail
          go_roundw
          case rel => exact ⟨k + 1, by omega, by omega, by go_num, ⟨_, c6, by rw [← HAP.out.1]⟩, Lib.hid (by rw [← HAP.out.1, ← HAP.out.2]; exact hown6), hb6⟩
          case measure => simp [intOf]; omega
    · obtain rfl : k = z.length := by omega
      have hbw := hbo.trans (hbr.mono hbo.size)
      have HEnd : Hid (PrqE w z f (.returned (.slice av (prtV z f z.length).length cv)) wr) := Lib.hid ⟨av, cv, rfl, owns_baseI HRow.out hbo.size, hbw⟩
      clear HRow
      go_wp2_with fail
      go_ret
      exact HEnd.out
end Go.Proofs.YtlpdjinhkmgbgaaGreatDoor
