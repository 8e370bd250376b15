/-
  The walks of lineItem and of both Panels. By an AI agent.
-/
import Derived.Test.YtbogmdelceikgaaGreatDoorPanA
import Derived.Test.YtbogmdelceikgaaGreatDoorExt
import Derived.Test.YtbogmdelceikgaaGreatDoorSame
import Derived.Test.YtbogmdelceikgaaGreatDoorSeamsB
import Derived.OwnWalk
import Derived.Laws.OwnMore
import Derived.Deep.RegionHeld3
import Derived.Deep.RegionLaw
import Derived.Deep.AppendLies
namespace Go.Proofs.YtbogmdelceikgaaGreatDoor
open Go.RowKit

theorem bcell {W w1 : World} (hb : Below W.heap.size W w1) : (∀ b o, b < W.heap.size → w1.cell? ⟨b, o, none⟩ = W.cell? ⟨b, o, none⟩) ∧ (∀ b o, b < W.heap.size → w1.frozen? ⟨b, o, none⟩ = W.frozen? ⟨b, o, none⟩) :=
  ⟨fun b o h => hb.cell (p := ⟨b, o, none⟩) h, fun b o h => hb.frozen (p := ⟨b, o, none⟩) h⟩

theorem box_below {w w' : World} {o : Obj} (h : Below (w.alloc o).heap.size (w.alloc o) w') : Below w.heap.size w w' :=
  ((Below.refl _ _).alloc (Nat.le_refl _) _).trans (h.mono (by simp))

set_option maxRecDepth 100000 in
set_option maxHeartbeats 1000000 in
theorem lineItem_any (s : ByteArray) (u k sz t : Int) (w : World) (hL : LettersAt w) (hs : s.size ≤ maxLen) (h0 : lenV s u ≤ sz) (h1 : sz ≤ 1000) (u0 : 0 ≤ u) (u1 : u ≤ 200) (t0 : -100000 ≤ t) (t1 : t ≤ 100000) :
    Calls Tryz.prog 13 #[.string s, .int .i64 u, .int .i64 k, .int .i64 sz, .int .i64 t] w fun e w' => e = .returned (.agg #[.int .i64 6, .int .i64 k, .int .i64 ((sz - lenV s u) / 2), .int .i64 (t - 7 * u), .int .i64 u, .int .i64 0, .string s]) ∧ Below w.heap.size w w' := by
  have hv := lenV_bd s u
  have HL := Lib.hid fun W (hW : LettersAt W) => length_any s u W hW hs
  have hLs := hL.1
  have HLa := Lib.hid hL
  clear hL
  generalize lenV s u = l at *
  generalize lenE s u = er at *
  obtain ⟨v0, v1⟩ := hv
  go_enter Tryz.func13, Tryz.ntmps13
  go_wp2_with fail
  refine (HL.out _ (HLa.out.below ((Below.refl _ _).alloc (Nat.le_refl _) _) hLs)).mono ?_
  rintro e w1 ⟨rfl, hb1⟩
  obtain ⟨hc, hf⟩ := bcell hb1
  go_wp2_with fail
  refine bodyPost_ret (v := .agg #[.int .i64 6, .int .i64 k, .int .i64 ((sz - l) / 2), .int .i64 (t - 7 * u), .int .i64 u, .int .i64 0, .string s]) (by simp [results, Tryz.results13, go_sem, hc]) rfl ⟨rfl, ?_⟩
  repeat (refine Below.setCell ?_ (by simp) _)
  exact box_below hb1
theorem gcell {W w1 : World} {row : Option Nat} (hg : W.grownBy w1 row) : (∀ b o, b < W.heap.size → some b ≠ row → w1.cell? ⟨b, o, none⟩ = W.cell? ⟨b, o, none⟩) ∧ (∀ b o, b < W.heap.size → some b ≠ row → w1.frozen? ⟨b, o, none⟩ = W.frozen? ⟨b, o, none⟩) :=
  ⟨fun b o h hn => hg.cell_far ⟨b, o, none⟩ h hn, fun b o h hn => hg.frozen_far ⟨b, o, none⟩ h hn⟩
theorem itemInfo : (Tryz.prog.info? 33).map (fun i => (i.zero, i.size, i.bytes)) = some (some (.agg #[.int .i64 0, .int .i64 0, .int .i64 0, .int .i64 0, .int .i64 0, .int .i64 0, .string ByteArray.empty]), 7, 64) := by kernel_rfl
theorem items_nil (w : World) : ItemsAt w none [] := ⟨by decide, fun x hx => absurd hx List.not_mem_nil, 0, 0, fun h => absurd rfl h, fun i hi => absurd hi (Nat.not_lt_zero _)⟩
abbrev faceZero : Obj := .cells #[.int .i64 0, .int .i64 0, .int .i64 0, .slice none 0 0] 28
theorem all_line (u : Int) (ls : List ByteArray) (k : Nat) (h : k < ls.length) (ha : (ls.take k).all (lineOk u) = true) : (ls.take (k + 1)).all (lineOk u) = lineOk u ls[k] := by
  rw [List.take_succ_eq_append_getElem h, List.all_append, ha]; simp
theorem all_line_no (u : Int) (ls : List ByteArray) (k : Nat) (h : k < ls.length) (hb : lineOk u ls[k] = false) : ls.all (lineOk u) = false := by
  rw [List.all_eq_false]; exact ⟨_, List.getElem_mem h, by simp [hb]⟩
theorem panE_lines {u g k : Int} {ls : List ByteArray} (h : ls.all (lineOk u) = false) : panE u g k ls = 2 := by unfold panE; rw [h]; simp
theorem panE_len {u g k : Int} {ls : List ByteArray} (h : btw ls.length 1 8 = false) : panE u g k ls = 2 := by unfold panE; rw [h]; simp
theorem panE_col {u g k : Int} {ls : List ByteArray} (h : (!(btw g 1 8) || !(btw k 1 8) || (g == k)) = true) : panE u g k ls = 2 := by unfold panE; rw [h]; simp
theorem panE_wide {u g k : Int} {ls : List ByteArray} (h1 : btw ls.length 1 8 = true) (h2 : ls.all (lineOk u) = true) (h3 : (!(btw g 1 8) || !(btw k 1 8) || (g == k)) = false) (h4 : panW u ls > 200 ∨ panH u ls.length > 200) : panE u g k ls = 11 := by
  unfold panE; rw [h1, h2, h3]; simp [h4]
theorem panE_ok {u g k : Int} {ls : List ByteArray} (h1 : btw ls.length 1 8 = true) (h2 : ls.all (lineOk u) = true) (h3 : (!(btw g 1 8) || !(btw k 1 8) || (g == k)) = false) (h4 : ¬ (panW u ls > 200 ∨ panH u ls.length > 200)) : panE u g k ls = 0 := by
  unfold panE; rw [h1, h2, h3]; simp [h4]
theorem panelEnd_err {w : World} {u g k : Int} {ls : List ByteArray} {x : Int} (h : panE u g k ls = x) (hx : x ≠ 0) : PanelEnd w u g k ls = FaceEnd w 0 0 0 [] x := by
  unfold PanelEnd; rw [h, if_neg hx]
theorem panelEnd_ok {w : World} {u g k : Int} {ls : List ByteArray} (h : panE u g k ls = 0) : PanelEnd w u g k ls = FaceEnd w 2 (panW u ls) (panH u ls.length) (panIts u g k (panW u ls) (panTop u ls.length) ls) 0 := by
  unfold PanelEnd; rw [h, if_pos rfl]

set_option maxRecDepth 100000 in
set_option maxHeartbeats 4000000 in
theorem panel_ok (u g k : Int) (a : Option Addr) (cap : Nat) (ls : List ByteArray) (w : World) (hL : LettersAt w) (hI : LinesAt w a ls)
    (h1 : btw ls.length 1 8 = true) (hall : ls.all (lineOk u) = true) (hcol' : (!(btw g 1 8) || !(btw k 1 8) || (g == k)) = false) (hnw : ¬ (panW u ls > 200 ∨ panH u ls.length > 200)) :
    Calls Tryz.prog 5 #[.slice a ls.length cap, .int .i64 u, .int .i64 g, .int .i64 k] w (FaceEnd w 2 (panW u ls) (panH u ls.length) (panIts u g k (panW u ls) (panTop u ls.length) ls) 0) := by
  obtain ⟨hlen, hst, blk, off, hadr, hce⟩ := hI
  have hLs := hL.1
  have HL := Lib.hid fun W (hb : Below w.heap.size w W) (s : ByteArray) (hs : s.size ≤ maxLen) => length_any s u W (hL.below hb hLs) hs
  have HLW : Hid (∀ W, Below w.heap.size w W → LettersAt W) := Lib.hid fun W hb => hL.below hb hLs
  clear hL
  have H1 := Lib.hid h1
  obtain ⟨n1, n8⟩ := (btw_iff _ _ _).1 h1
  have hu : btw u 1 200 = true := by
    have := List.all_eq_true.1 hall ls[0] (List.getElem_mem (by omega))
    unfold lineOk at this
    rw [Bool.and_eq_true] at this
    exact this.1
  obtain ⟨u0, u1⟩ := (btw_iff _ _ _).1 hu
  have hg : btw g 1 8 = true := by revert hcol'; cases btw g 1 8 <;> simp
  have hk : btw k 1 8 = true := by revert hcol'; cases btw k 1 8 <;> simp
  have hgk : (g == k) = false := by revert hcol'; cases (g == k) <;> simp
  have Hg := Lib.hid hg
  have Hk := Lib.hid hk
  have HAll : Hid (∀ j (h : j < ls.length), lineOk u ls[j] = true) := Lib.hid fun j h => List.all_eq_true.1 hall _ (List.getElem_mem h)
  clear hg hk hcol' hu h1 hall
  obtain ⟨q, hq⟩ : ∃ q, (11 * ((ls.length : Int) - 1) + 7 + 6) * u = q := ⟨_, rfl⟩
  have q0 : 0 ≤ q := by rw [← hq]; exact Int.mul_nonneg (by omega) (by omega)
  have q1 : q ≤ 18000 := by rw [← hq]; exact Int.mul_le_mul (show _ ≤ (90 : Int) by omega) u1 (by omega) (by omega)
  obtain ⟨S, hS⟩ : ∃ S, (longest u ls + 6 * u + 5 - 1) / 5 * 5 = S := ⟨_, rfl⟩
  obtain ⟨H, hH⟩ : ∃ H, (q + 5 - 1) / 5 * 5 = H := ⟨_, rfl⟩
  have eS : panW u ls = S := by rw [← hS]; unfold panW; omega
  have eN : panN u ls.length = q := by rw [← hq]; unfold panN; congr 1; omega
  have eH : panH u ls.length = H := by unfold panH; rw [eN, ← hH]; omega
  have eT : panTop u ls.length = H - 3 * u - (H - q) / 2 := by unfold panTop; rw [eN, eH]
  rw [eS, eH] at hnw
  obtain ⟨T, hT⟩ : ∃ T, H - 3 * u - (H - q) / 2 = T := ⟨_, rfl⟩
  rw [eS, eH, eT, hT]
  have t0 : T ≤ 200 := by omega
  have t1 : -1000 ≤ T := by omega
  have hw1 : S ≤ 200 := by omega
  have hw2 : H ≤ 200 := by omega
  have hbd := longest_bd u ls ls.length
  rw [List.take_length] at hbd
  have s0 : longest u ls + 6 * u ≤ S := by omega
  have h0 : q ≤ H := by omega
  have h9 : H ≤ q + 4 := by omega
  have HLong : Hid (∀ j (h : j < ls.length), lenV ls[j] u ≤ longest u ls) := Lib.hid fun j h => longest_ge u ls j h
  have HQ := Lib.hid hq
  have HS := Lib.hid hS
  have HH := Lib.hid hH
  have HT := Lib.hid hT
  clear eS eN eH eT hnw hS hH hq hT
  go_enter Tryz.func5, Tryz.ntmps5
  go_wp2_with (first | (go_at_call 10; refine (between_any _ _ _ _).mono ?_; rintro e w' ⟨rfl, rfl⟩; rw [H1.out]))
  go_loopw [10, 27] (fun m i wr => ∃ j : Nat, j ≤ ls.length ∧ i = .int .i64 j ∧ m = .int .i64 (longest u (ls.take j)) ∧ Below (w.alloc faceZero).heap.size (w.alloc faceZero) wr) (fun _ i _ => ls.length - (intOf i).toNat)
  case atStart => exact ⟨0, Nat.zero_le _, rfl, rfl, Below.refl _ _⟩
  case round =>
    obtain ⟨j, hj, rfl, rfl, hb⟩ := hrel
    obtain ⟨hc, hf⟩ := bcell hb
    have hB := box_below hb
    by_cases hlt : j < ls.length
    · obtain rfl := hadr (fun h => by rw [h] at hlt; simp at hlt)
      have hcj := (hB.cell (p := ⟨blk, off + j, none⟩) (block_lt (hce j hlt))).trans (hce j hlt)
      have hsj := hst ls[j] (List.getElem_mem hlt)
      have HSN := Lib.hid (longest_snoc u ls j hlt)
      have hvb := lenV_bd ls[j] u
      have HC := Lib.hid (HL.out _ hB ls[j] hsj)
      have He := Lib.hid (lenE_ok (HAll.out j hlt))
      clear hce hst hadr HLong HAll
      generalize longest u (ls.take j) = m at *
      generalize ls[j] = s at *
      go_wp2_with (go_at_call 7; refine HC.out.mono ?_; rintro e w1 ⟨rfl, hb1⟩; rw [He.out])
      go_roundw
      case rel => exact ⟨j + 1, by omega, by go_num, by rw [HSN.out], hb.trans (hb1.mono hb.size)⟩
      case measure => simp [intOf]; omega
    · have e : j = ls.length := by omega
      subst e
      have hz : w.heap.size < wr.heap.size := by have := hb.size; simp at this; omega
      rw [List.take_length]
      have hq := HQ.out
      have hS := HS.out
      have hH := HH.out
      have hT := HT.out
      have HLong2 : Hid (∀ j (h : j < ls.length), lenV ls[j] u ≤ S) := Lib.hid fun j h => by have := HLong.out j h; omega
      clear HLong
      generalize longest u ls = m at *
      obtain ⟨i0, hi, hz0, hz1, hz2⟩ := info_parts itemInfo
      go_wp2_with (first | (go_at_call 11; refine (colourValid_any _ _).mono ?_; rintro e w' ⟨rfl, rfl⟩; first | rw [Hg.out] | rw [Hk.out]) | (go_at_call 12; refine (roundUp_any _ _ _ (by omega) (by omega) (by omega) (by omega)).mono ?_; rintro e w' ⟨rfl, rfl⟩) | (at_builtin; go_loud (refine wpList_append_lies _ rfl _ _ 26 rfl (wr.heap.size + 1) 33 i0 _ 7 64 Tryz.underlying26 hi hz0 hz1 hz2 rfl (by decide) (.slice none 0 0) 0 [] rfl (World.ownsRow_nil _ _ _ _) ⟨wr.heap.size + 1, 0, none⟩ 2 2 [.int .i64 1, .int .i64 g, .int .i64 0, .int .i64 0, .int .i64 0, .int .i64 0, .string ByteArray.empty, .int .i64 2, .int .i64 k, .int .i64 0, .int .i64 0, .int .i64 u, .int .i64 0, .string ByteArray.empty] rfl rfl ?c1 ?c2 (by decide) ?c3 ?c4 ?c5 (wr.heap.size + 2) ?c6 ?_)))
      case c1 =>
        refine World.news_of_block (cs := #[.int .i64 1, .int .i64 g, .int .i64 0, .int .i64 0, .int .i64 0, .int .i64 0, .string ByteArray.empty, .int .i64 2, .int .i64 k, .int .i64 0, .int .i64 0, .int .i64 u, .int .i64 0, .string ByteArray.empty]) (t := 33) (fr := (0, 0)) ?_
        have hh := heap_alloc_new (wr.alloc (.cells #[.int .i64 2, .int .i64 S, .int .i64 H, .slice none 0 0] 28)) (.cells #[.int .i64 1, .int .i64 g, .int .i64 0, .int .i64 0, .int .i64 0, .int .i64 0, .string ByteArray.empty, .int .i64 2, .int .i64 k, .int .i64 0, .int .i64 0, .int .i64 u, .int .i64 0, .string ByteArray.empty] 33)
        rw [World.size_alloc] at hh
        exact hh
      case c2 => simp [Value.oneCell']
      case c3 => decide
      case c4 => decide
      case c5 => simp <;> omega
      case c6 => simp
      intro g6 cap6 w6 hown hgrow hat hlt6
      obtain ⟨hc6, hf6⟩ := gcell hgrow
      have y3 : w6.frozen? ⟨wr.heap.size, 3, none⟩ = false := by rw [hf6 _ _ (by simp <;> omega) (by simp [Value.ownBlock])]; simp [go_sem]
      have b0 : w6.cell? ⟨wr.heap.size, 0, none⟩ = some (.int .i64 2) := by rw [hc6 _ _ (by simp <;> omega) (by simp [Value.ownBlock])]; simp [go_sem]
      have b1 : w6.cell? ⟨wr.heap.size, 1, none⟩ = some (.int .i64 S) := by rw [hc6 _ _ (by simp <;> omega) (by simp [Value.ownBlock])]; simp [go_sem]
      have b2 : w6.cell? ⟨wr.heap.size, 2, none⟩ = some (.int .i64 H) := by rw [hc6 _ _ (by simp <;> omega) (by simp [Value.ownBlock])]; simp [go_sem]
      have b3 : w6.cell? ⟨wr.heap.size, 3, none⟩ = some (.slice none 0 0) := by rw [hc6 _ _ (by simp <;> omega) (by simp [Value.ownBlock])]; simp [go_sem]
      have hB6 : Below (wr.heap.size + 1) (wr.alloc (.cells #[.int .i64 2, .int .i64 S, .int .i64 H, .slice none 0 0] 28)) w6 := ((Below.refl _ _).alloc (by simp) _).grown hgrow (by rw [World.size_alloc, World.size_alloc]; omega) (fun k h => by simp [Value.ownBlock] at h)
      have g6l : wr.heap.size + 1 ≤ g6 := by
        rcases hat with h | h
        · simp [Value.ownBlock] at h
        · omega
      clear hc6 hf6 hgrow hat
      have HOwn : Hid ((w6.setCell ⟨wr.heap.size, 3, none⟩ (.slice (some ⟨g6, 0, none⟩) 2 cap6)).ownsRow (wr.heap.size + 1) 33 7 (.slice (some ⟨g6, 0, none⟩) 2 cap6) 2 ((panIts u g k S T (ls.take 0)).flatMap It.cells)) := Lib.hid (ownsRow_setCell_below hown (by simp) _)
      have hBz : Below wr.heap.size wr (w6.setCell ⟨wr.heap.size, 3, none⟩ (.slice (some ⟨g6, 0, none⟩) 2 cap6)) := (((Below.refl _ _).alloc (Nat.le_refl _) _).trans (hB6.mono (by omega))).setCell (by simp) _
      have hz6 := hB6.size
      simp at hz6
      clear hown hB6
      go_wp2_with fail
      obtain ⟨wo, rfl⟩ : ∃ wo : World, wo = wr := ⟨_, rfl⟩
      go_loopw [107] (fun i wz => ∃ (j gg cc : Nat), j ≤ ls.length ∧ i = .int .i64 j ∧ wo.heap.size + 1 ≤ gg ∧ FaceBox wz wo.heap.size 2 S H (.slice (some ⟨gg, 0, none⟩) (j + 2) cc) ∧ wz.frozen? ⟨wo.heap.size, 3, none⟩ = false ∧ Hid (wz.ownsRow (wo.heap.size + 1) 33 7 (.slice (some ⟨gg, 0, none⟩) (j + 2) cc) (j + 2) ((panIts u g k S T (ls.take j)).flatMap It.cells)) ∧ Below wo.heap.size wo wz ∧ wo.heap.size + 1 ≤ wz.heap.size) (fun i _ => ls.length - (intOf i).toNat)
      case atStart => exact ⟨0, g6, cap6, Nat.zero_le _, rfl, g6l, by simp [FaceBox, go_sem, b0, b1, b2, b3], by simp [y3], HOwn, hBz, by simp; omega⟩
      case round =>
        obtain ⟨j, gg, cc, hj, rfl, ggl, ⟨b0', b1', b2', b3'⟩, y3', HRow, hbz, hzs⟩ := hrel
        clear b0 b1 b2 b3 y3 HOwn hBz
        have hBw : Below w.heap.size w wr := hB.trans (hbz.mono (by omega))
        by_cases hlt : j < ls.length
        · obtain rfl := hadr (fun h => by rw [h] at hlt; simp at hlt)
          have hcj := (hBw.cell (p := ⟨blk, off + j, none⟩) (block_lt (hce j hlt))).trans (hce j hlt)
          have hsj := hst ls[j] (List.getElem_mem hlt)
          have HSN := Lib.hid (panIts_snoc u g k S T ls j hlt)
          have hv := HLong2.out j hlt
          obtain ⟨P, hP⟩ : ∃ P, (j : Int) * 11 * u = P := ⟨_, rfl⟩
          have p0 : 0 ≤ P := by rw [← hP]; exact Int.mul_nonneg (by omega) (by omega)
          have p1 : P ≤ 88 * 200 := by rw [← hP]; exact Int.mul_le_mul (by omega) u1 (by omega) (by omega)
          have HLI : Hid (∀ W, Below w.heap.size w W → Calls Tryz.prog 13 #[.string ls[j], .int .i64 u, .int .i64 k, .int .i64 S, .int .i64 (T - P)] W fun e w' => e = .returned (.agg #[.int .i64 6, .int .i64 k, .int .i64 ((S - lenV ls[j] u) / 2), .int .i64 (T - P - 7 * u), .int .i64 u, .int .i64 0, .string ls[j]]) ∧ Below W.heap.size W w') :=
            Lib.hid fun W hW => lineItem_any ls[j] u k S (T - P) W (HLW.out W hW) hsj hv (by omega) (by omega) u1 (by omega) (by omega)
          clear hce hst hadr HLong2 HAll
          generalize ls[j] = s at *
          have HCE : Hid (It.cells (lineIt u k S T j s) = [.int .i64 6, .int .i64 k, .int .i64 ((S - lenV s u) / 2), .int .i64 (T - P - 7 * u), .int .i64 u, .int .i64 0, .string s]) := Lib.hid (by
            have h11 : 11 * u * (j : Int) = P := by rw [← hP, Int.mul_comm (j : Int) 11, Int.mul_assoc 11 u, Int.mul_assoc 11 (j : Int), Int.mul_comm u]
            unfold It.cells lineIt
            simp only [h11]
            rw [show T - 7 * u - P = T - P - 7 * u from by omega])
          have e1 : IntKind.i64.wrap ((j : Int) * 11) = (j : Int) * 11 := IntWalk.i64_in _ (by omega)
          have e2 : IntKind.i64.wrap P = P := IntWalk.i64_in _ (by omega)
          have e3 : IntKind.i64.wrap (T - P) = T - P := IntWalk.i64_in _ (by omega)
          go_wp2_with fail
          go_region_law
            (first
              | (go_simp
                 go_at_call 13
                 refine (HLI.out _ hBw.drew).mono ?_
                 rintro e w5 ⟨rfl, hb5⟩
                 obtain ⟨hc5, hf5⟩ := bcell hb5
                 have hz5 : wo.heap.size + 1 ≤ w5.heap.size := Nat.le_trans hzs hb5.size
                 have hz5b : wo.heap.size < w5.heap.size := hz5
                 have hz5c : (wo.heap.size == w5.heap.size) = false := by simp; omega
                 have k1 : w5.cell? ⟨wo.heap.size, 1, none⟩ = some (.int .i64 S) := (hc5 _ _ hzs).trans b1'
                 have k3 : w5.cell? ⟨wo.heap.size, 3, none⟩ = some (.slice (some ⟨gg, 0, none⟩) (j + 2) cc) := (hc5 _ _ hzs).trans b3'
                 have hown5 := Lib.hid (owns_below (World.ownsRow.drew HRow.out) hb5))
              | (refine step_append_lies _ (by rfl) _ _ _ (by rfl) (wo.heap.size + 1) 33 i0 _ 7 64 Tryz.underlying26 hi hz0 hz1 hz2 rfl (by decide) (.slice (some ⟨gg, 0, none⟩) (j + 2) cc) (j + 2) _ (by rfl) (hown5.out.alloc _)
                  ⟨w5.heap.size, 0, none⟩ 1 1 [.int .i64 6, .int .i64 k, .int .i64 ((S - lenV s u) / 2), .int .i64 (T - P - 7 * u), .int .i64 u, .int .i64 0, .string s] (by rfl) (by rfl) ?d1 ?d2 (by decide) ?d3 ?d4 ?d5 (w5.heap.size + 1) (by simp) ?_
                 case d1 =>
                   refine World.news_of_block (cs := #[.int .i64 6, .int .i64 k, .int .i64 ((S - lenV s u) / 2), .int .i64 (T - P - 7 * u), .int .i64 u, .int .i64 0, .string s]) (t := 33) (fr := (0, 0)) ?_
                   exact heap_alloc_new _ _
                 case d2 => simp [Value.oneCell']
                 case d3 => unfold maxLen; omega
                 case d4 => omega
                 case d5 => simp; omega
                 intro gq cq w7 hown7 hgrow7 hat7 hlt7
                 have ha5 := (Below.refl w5.heap.size w5).alloc (Nat.le_refl _) (.cells #[.int .i64 6, .int .i64 k, .int .i64 ((S - lenV s u) / 2), .int .i64 (T - P - 7 * u), .int .i64 u, .int .i64 0, .string s] 33)
                 have j1 : w7.cell? ⟨wo.heap.size, 1, none⟩ = some (.int .i64 S) := (hgrow7.cell_far ⟨wo.heap.size, 1, none⟩ (by simp; omega) (by simp [Value.ownBlock]; omega)).trans ((ha5.cell (p := ⟨wo.heap.size, 1, none⟩) hz5).trans k1)
                 have j3 : w7.cell? ⟨wo.heap.size, 3, none⟩ = some (.slice (some ⟨gg, 0, none⟩) (j + 2) cc) := (hgrow7.cell_far ⟨wo.heap.size, 3, none⟩ (by simp; omega) (by simp [Value.ownBlock]; omega)).trans ((ha5.cell (p := ⟨wo.heap.size, 3, none⟩) hz5).trans k3)
                 have y7 : w7.frozen? ⟨wo.heap.size, 3, none⟩ = false := (hgrow7.frozen_far ⟨wo.heap.size, 3, none⟩ (by simp; omega) (by simp [Value.ownBlock]; omega)).trans ((ha5.frozen (p := ⟨wo.heap.size, 3, none⟩) hz5).trans ((hf5 _ _ hzs).trans y3'))
                 have hB7 : Below (wo.heap.size + 1) wr w7 := ((((Below.refl _ _).drew).trans (hb5.mono hzs)).alloc hz5 _).grown hgrow7 (by rw [World.size_alloc]; omega) (fun k h => by simp [Value.ownBlock] at h; omega)
                 have gql : wo.heap.size + 1 ≤ gq := by
                   rcases hat7 with h | h
                   · simp [Value.ownBlock] at h; omega
                   · omega
                 have HO7 := Lib.hid hown7
                 clear hown7 hgrow7 hat7 ha5))
          all_goals
            go_wp2_with fail
            go_roundw
            case rel =>
              have z := fun o => hB7.cell (p := ⟨wo.heap.size, o, none⟩) (Nat.lt_succ_self _)
              have z0 := (z 0).trans b0'
              have z1 := (z 1).trans b1'
              have z2 := (z 2).trans b2'
              have z3 := (z 3).trans b3'
              have hr := ownsRow_setCell_below HO7.out (a := ⟨wo.heap.size, 3, none⟩) (Nat.lt_succ_self _) (.slice (some ⟨gq, 0, none⟩) (j + 2 + 1) cq)
              rw [show j + 2 + 1 = j + 1 + 2 from by omega] at hr
              refine ⟨j + 1, gq, cq, by omega, by go_num, gql, by simp [FaceBox, go_sem, z0, z1, z2, z3], by rw [World.frozen?_setCell]; exact y7, Lib.hid ?_, (hbz.trans (hB7.mono (by omega))).setCell (Nat.le_refl _) _, by rw [World.size_setCell]; exact Nat.le_trans hzs (Nat.le_trans (Nat.le_refl _) hB7.size)⟩
              rw [HSN.out, List.flatMap_append]
              simp only [List.flatMap_cons, List.flatMap_nil, List.append_nil, HCE.out]
              exact hr
            case measure => simp [intOf]; omega
        · have e : j = ls.length := by omega
          subst e
          have hlz : w.heap.size < wr.heap.size := by omega
          have hzw : w.heap.size < wo.heap.size := hz
          obtain ⟨hcz, hfz⟩ := bcell hbz
          go_wp2_with fail
          have hr := HRow.out
          rw [List.take_length] at hr
          have hlw : w.heap.size < wo.heap.size + 1 := by omega
          have hr4 := ownsRow_setCell_below (ownsRow_setCell_below (ownsRow_setCell_below (ownsRow_setCell_below hr (a := ⟨w.heap.size, 0, none⟩) hlw (.int .i64 2)) (a := ⟨w.heap.size, 1, none⟩) hlw (.int .i64 S)) (a := ⟨w.heap.size, 2, none⟩) hlw (.int .i64 H)) (a := ⟨w.heap.size, 3, none⟩) hlw (.slice (some ⟨gg, 0, none⟩) (ls.length + 2) cc)
          have hpl := panIts_len u g k S T ls
          refine bodyPost_ret (v := .tuple #[.agg #[.int .i64 2, .int .i64 S, .int .i64 H, .slice (some ⟨gg, 0, none⟩) (ls.length + 2) cc], .int .i64 0]) (by simp [results, Tryz.results5, go_sem, hcz, hc, hzw]) rfl ⟨?_, some ⟨gg, 0, none⟩, cc, by rw [hpl], ?_⟩
          · repeat (refine Below.setCell ?_ (by simp) _)
            exact hBw
          · exact items_of_row (g := gg) (c := cc) (by rw [hpl]; exact hr4) (by rw [hpl]; omega) (panIts_str u g k S T ls hst)
end Go.Proofs.YtbogmdelceikgaaGreatDoor
