/-
  The walk of the reference's Panel where it returns a face. By an AI agent.
-/
import Derived.Test.YtbogmdelceikgaaGreatDoorPanB
namespace Go.Proofs.YtbogmdelceikgaaGreatDoor
open Go.RowKit

set_option maxRecDepth 100000 in
set_option maxHeartbeats 4000000 in
theorem refPanel_ok (u g k : Int) (a : Option Addr) (cap : Nat) (ls : List ByteArray) (w : World) (hI : LinesAt w a ls)
    (h1 : btw ls.length 1 8 = true) (hall : ls.all (lineOk u) = true) (hcol' : (!(btw g 1 8) || !(btw k 1 8) || (g == k)) = false) (hnw : ¬ (panW u ls > 200 ∨ panH u ls.length > 200)) :
    Calls Tryz.prog 6 #[.slice a ls.length cap, .int .i64 u, .int .i64 g, .int .i64 k] w (FaceEnd w 2 (panW u ls) (panH u ls.length) (panIts u g k (panW u ls) (panTop u ls.length) ls) 0) := by
  obtain ⟨hlen, hst, blk, off, hadr, hce⟩ := hI
  have HL := Lib.hid fun W (s : ByteArray) (hs : s.size ≤ maxLen) => refLength_any s u W hs
  have H1 := Lib.hid h1
  obtain ⟨n1, n8⟩ := (btw_iff _ _ _).1 h1
  have hu : btw u 1 200 = true := by
    have := List.all_eq_true.1 hall ls[0] (List.getElem_mem (by omega))
    unfold lineOk at this
    rw [Bool.and_eq_true] at this
    exact this.1
  obtain ⟨u0, u1⟩ := (btw_iff _ _ _).1 hu
  have Hu := Lib.hid hu
  have hg : btw g 1 8 = true := by revert hcol'; cases btw g 1 8 <;> simp
  have hk : btw k 1 8 = true := by revert hcol'; cases btw k 1 8 <;> simp
  have hgk : (g == k) = false := by revert hcol'; cases (g == k) <;> simp
  have Hg := Lib.hid hg
  have Hk := Lib.hid hk
  have HAll : Hid (∀ j (h : j < ls.length), lineOk u ls[j] = true) := Lib.hid fun j h => List.all_eq_true.1 hall _ (List.getElem_mem h)
  clear hg hk hcol' hu h1 hall
  obtain ⟨x, hx⟩ : ∃ x, (ls.length : Int) * u = x := ⟨_, rfl⟩
  obtain ⟨A1, hA1⟩ : ∃ x, (ls.length : Int) * 7 * u = x := ⟨_, rfl⟩
  obtain ⟨A2, hA2⟩ : ∃ x, ((ls.length : Int) - 1) * 4 * u = x := ⟨_, rfl⟩
  have x0 : 0 ≤ x := by rw [← hx]; exact Int.mul_nonneg (by omega) (by omega)
  have x1 : x ≤ 8 * 200 := by rw [← hx]; exact Int.mul_le_mul (by omega) u1 (by omega) (by omega)
  have eA1 : A1 = 7 * x := by rw [← hA1, ← hx, Int.mul_comm (ls.length : Int) 7, Int.mul_assoc]
  have eA2 : A2 = 4 * x - 4 * u := by rw [← hA2, ← hx, Int.mul_comm _ 4, Int.mul_assoc, Int.sub_mul, Int.mul_sub, Int.one_mul]
  have eQ : panN u ls.length = 11 * x + 2 * u := by unfold panN; rw [Int.add_mul, Int.mul_assoc, hx]
  obtain ⟨q, hq⟩ : ∃ q, A1 + A2 + 6 * u = q := ⟨_, rfl⟩
  have eN : panN u ls.length = q := by rw [eQ, ← hq, eA1, eA2]; omega
  have a0 : 0 ≤ A1 := by omega
  have a1 : A1 ≤ 20000 := by omega
  have a2 : -1000 ≤ A2 := by omega
  have a3 : A2 ≤ 20000 := by omega
  have q0 : 0 ≤ q := by omega
  have q1 : q ≤ 18000 := by omega
  obtain ⟨S, hS⟩ : ∃ S, (longest u ls + 6 * u + 4) / 5 * 5 = S := ⟨_, rfl⟩
  obtain ⟨H, hH⟩ : ∃ H, (q + 4) / 5 * 5 = H := ⟨_, rfl⟩
  have eS : panW u ls = S := by rw [← hS]; rfl
  have eH : panH u ls.length = H := by unfold panH; rw [eN, ← hH]
  have eT : panTop u ls.length = H - 3 * u - (H - q) / 2 := by unfold panTop; rw [eN, eH]
  obtain ⟨T, hT⟩ : ∃ T, H - 3 * u - (H - q) / 2 = T := ⟨_, rfl⟩
  rw [eS, eH, eT, hT]
  have t0 : T ≤ 200 := by omega
  have t1 : -1000 ≤ T := by omega
  have hw1 : S ≤ 200 := by omega
  have hw2 : H ≤ 200 := by omega
  have hbd := longest_bd u ls ls.length
  rw [List.take_length] at hbd
  have s0 : longest u ls + 6 * u ≤ S := by omega
  have h0 : q ≤ H := by omega
  have h9 : H ≤ q + 4 := by omega
  have HLong : Hid (∀ j (h : j < ls.length), lenV ls[j] u ≤ longest u ls) := Lib.hid fun j h => longest_ge u ls j h
  have HQ := Lib.hid hq
  have HS := Lib.hid hS
  have HH := Lib.hid hH
  have HT := Lib.hid hT
  have HA1 := Lib.hid hA1
  have HA2 := Lib.hid hA2
  clear eS eN eH eT hnw hS hH hq hT hA1 hA2 hx eA1 eA2 eQ x0 x1
  go_enter Tryz.func6, Tryz.ntmps6
  go_wp2_with (first | (go_at_call 14; refine (within_any _ _ _ _).mono ?_; rintro e w' ⟨rfl, rfl⟩; first | rw [Hu.out] | rw [Hg.out] | rw [Hk.out]))
  go_loopw [10, 11] (fun m i wr => ∃ j : Nat, j ≤ ls.length ∧ i = .int .i64 j ∧ m = .int .i64 (longest u (ls.take j)) ∧ Below (w.alloc faceZero).heap.size (w.alloc faceZero) wr) (fun _ i _ => ls.length - (intOf i).toNat)
  case atStart => exact ⟨0, Nat.zero_le _, rfl, rfl, Below.refl _ _⟩
  case round =>
    obtain ⟨j, hj, rfl, rfl, hb⟩ := hrel
    obtain ⟨hc, hf⟩ := bcell hb
    have hB := box_below hb
    by_cases hlt : j < ls.length
    · obtain rfl := hadr (fun h => by rw [h] at hlt; simp at hlt)
      have hcj := (hB.cell (p := ⟨blk, off + j, none⟩) (block_lt (hce j hlt))).trans (hce j hlt)
      have hsj := hst ls[j] (List.getElem_mem hlt)
      have HSN := Lib.hid (longest_snoc u ls j hlt)
      have hvb := lenV_bd ls[j] u
      have HC := Lib.hid (HL.out wr ls[j] hsj)
      have He := Lib.hid (lenE_ok (HAll.out j hlt))
      clear hce hst hadr HLong HAll
      generalize longest u (ls.take j) = m at *
      generalize ls[j] = s at *
      go_wp2_with (go_at_call 15; refine HC.out.mono ?_; rintro e w1 ⟨rfl, hb1⟩; rw [He.out])
      go_roundw
      case rel => exact ⟨j + 1, by omega, by go_num, by rw [HSN.out], hb.trans (hb1.mono hb.size)⟩
      case measure => simp [intOf]; omega
    · have e : j = ls.length := by omega
      subst e
      have hz : w.heap.size < wr.heap.size := by have := hb.size; simp at this; omega
      rw [List.take_length]
      have hq := HQ.out
      have hS := HS.out
      have hH := HH.out
      have hT := HT.out
      have hA1 := HA1.out
      have hA2 := HA2.out
      have HLong2 : Hid (∀ j (h : j < ls.length), lenV ls[j] u ≤ S) := Lib.hid fun j h => by have := HLong.out j h; omega
      clear HLong
      generalize longest u ls = m at *
      obtain ⟨i0, hi, hz0, hz1, hz2⟩ := info_parts itemInfo
      go_wp2_with fail
      have hrow0 := World.ownsRow_lit (base := wr.heap.size + 1) (e := 33) (size := 7) (wr.alloc (.cells #[.int .i64 2, .int .i64 S, .int .i64 H, .slice (some ⟨wr.heap.size + 1, 0, none⟩) 2 2] 28)) #[.int .i64 1, .int .i64 g, .int .i64 0, .int .i64 0, .int .i64 0, .int .i64 0, .string ByteArray.empty, .int .i64 2, .int .i64 k, .int .i64 0, .int .i64 0, .int .i64 u, .int .i64 0, .string ByteArray.empty] 2 (by simp) (by decide) rfl
      rw [World.size_alloc] at hrow0
      have HOwn : Hid (((wr.alloc (.cells #[.int .i64 2, .int .i64 S, .int .i64 H, .slice (some ⟨wr.heap.size + 1, 0, none⟩) 2 2] 28)).alloc (.cells #[.int .i64 1, .int .i64 g, .int .i64 0, .int .i64 0, .int .i64 0, .int .i64 0, .string ByteArray.empty, .int .i64 2, .int .i64 k, .int .i64 0, .int .i64 0, .int .i64 u, .int .i64 0, .string ByteArray.empty] 33)).ownsRow (wr.heap.size + 1) 33 7 (.slice (some ⟨wr.heap.size + 1, 0, none⟩) 2 2) 2 ((panIts u g k S T (ls.take 0)).flatMap It.cells)) := Lib.hid hrow0
      clear hrow0
      obtain ⟨wo, rfl⟩ : ∃ wo : World, wo = wr := ⟨_, rfl⟩
      go_loopw [18] (fun i wz => ∃ (j gg cc : Nat), j ≤ ls.length ∧ i = .int .i64 j ∧ wo.heap.size + 1 ≤ gg ∧ FaceBox wz wo.heap.size 2 S H (.slice (some ⟨gg, 0, none⟩) (j + 2) cc) ∧ wz.frozen? ⟨wo.heap.size, 3, none⟩ = false ∧ Hid (wz.ownsRow (wo.heap.size + 1) 33 7 (.slice (some ⟨gg, 0, none⟩) (j + 2) cc) (j + 2) ((panIts u g k S T (ls.take j)).flatMap It.cells)) ∧ Below wo.heap.size wo wz ∧ wo.heap.size + 1 ≤ wz.heap.size) (fun i _ => ls.length - (intOf i).toNat)
      case atStart => exact ⟨0, wo.heap.size + 1, 2, Nat.zero_le _, rfl, Nat.le_refl _, by simp [FaceBox, go_sem], by simp [go_sem], HOwn, ((Below.refl _ _).alloc (Nat.le_refl _) _).alloc (by simp) _, by simp⟩
      case round =>
        obtain ⟨j, gg, cc, hj, rfl, ggl, ⟨b0', b1', b2', b3'⟩, y3', HRow, hbz, hzs⟩ := hrel
        clear HOwn
        have hBw : Below w.heap.size w wr := hB.trans (hbz.mono (by omega))
        by_cases hlt : j < ls.length
        · obtain rfl := hadr (fun h => by rw [h] at hlt; simp at hlt)
          have hcj := (hBw.cell (p := ⟨blk, off + j, none⟩) (block_lt (hce j hlt))).trans (hce j hlt)
          have hwb := block_lt (hce j hlt)
          have hsj := hst ls[j] (List.getElem_mem hlt)
          have HSN := Lib.hid (panIts_snoc u g k S T ls j hlt)
          have hv := HLong2.out j hlt
          have hv0 := (lenV_bd ls[j] u).1
          have hblk := block_lt hcj
          obtain ⟨P, hP⟩ : ∃ P, 11 * u * (j : Int) = P := ⟨_, rfl⟩
          have p0 : 0 ≤ P := by rw [← hP]; exact Int.mul_nonneg (by omega) (by omega)
          have p1 : P ≤ 11 * 200 * 8 := by rw [← hP]; exact Int.mul_le_mul (by omega) (by omega) (by omega) (by omega)
          have HLI := Lib.hid (HL.out wr ls[j] hsj)
          have HLI2 : Hid (lenE ls[j] u = 0) := Lib.hid (lenE_ok (HAll.out j hlt))
          clear hce hst hadr HLong2 HAll
          generalize ls[j] = s at *
          have HCE : Hid (It.cells (lineIt u k S T j s) = [.int .i64 6, .int .i64 k, .int .i64 ((S - lenV s u) / 2), .int .i64 (T - 7 * u - P), .int .i64 u, .int .i64 0, .string s]) := Lib.hid (by
            unfold It.cells lineIt
            simp only [hP])
          generalize lenV s u = l at *
          have e1 : IntKind.i64.wrap (S - l) = S - l := IntWalk.i64_in _ (by omega)
          have e2 : IntKind.i64.wrap ((S - l) / 2) = (S - l) / 2 := IntWalk.i64_in _ (by omega)
          have e3 : (S - l).tdiv 2 = (S - l) / 2 := Int.tdiv_eq_ediv_of_nonneg (by omega)
          have e4 : IntKind.i64.wrap (7 * u) = 7 * u := IntWalk.i64_in _ (by omega)
          have e5 : IntKind.i64.wrap (T - 7 * u) = T - 7 * u := IntWalk.i64_in _ (by omega)
          have e6 : IntKind.i64.wrap (11 * u) = 11 * u := IntWalk.i64_in _ (by omega)
          have e7 : IntKind.i64.wrap P = P := IntWalk.i64_in _ (by omega)
          have e8 : IntKind.i64.wrap (T - 7 * u - P) = T - 7 * u - P := IntWalk.i64_in _ (by omega)
          have g0 : (0 : Int) ≤ (j : Int) := by omega
          have g1 : (j : Int) < ls.length := by omega
          go_wp2_with (go_at_call 15; refine HLI.out.mono ?_; rintro e w5 ⟨rfl, hb5⟩; rw [HLI2.out]; obtain ⟨hc5, hf5⟩ := bcell hb5)
          have hz5 : wo.heap.size + 1 ≤ w5.heap.size := Nat.le_trans hzs hb5.size
          have hz5b : wo.heap.size < w5.heap.size := hz5
          have k1 : w5.cell? ⟨wo.heap.size, 1, none⟩ = some (.int .i64 S) := (hc5 _ _ hzs).trans b1'
          have k3 : w5.cell? ⟨wo.heap.size, 3, none⟩ = some (.slice (some ⟨gg, 0, none⟩) (j + 2) cc) := (hc5 _ _ hzs).trans b3'
          have k4 : w5.cell? ⟨blk, off + j, none⟩ = some (.string s) := (hc5 _ _ hblk).trans hcj
          have hblk5 : blk < w5.heap.size := Nat.lt_of_lt_of_le hblk hb5.size
          have hown5 := Lib.hid (owns_below HRow.out hb5)
          have hne : blk ≠ wo.heap.size := by omega
          have y5 : w5.frozen? ⟨wo.heap.size, 3, none⟩ = false := (hf5 _ _ hzs).trans y3'
          clear hc5 hf5
          go_region_law
            (first
              | (refine step_append_lies _ (by rfl) _ _ _ (by rfl) (wo.heap.size + 1) 33 i0 _ 7 64 Tryz.underlying26 hi hz0 hz1 hz2 rfl (by decide) (.slice (some ⟨gg, 0, none⟩) (j + 2) cc) (j + 2) _ (by rfl) ((hown5.out.alloc _).drew)
                  ⟨w5.heap.size, 0, none⟩ 1 1 [.int .i64 6, .int .i64 k, .int .i64 ((S - l) / 2), .int .i64 (T - 7 * u - P), .int .i64 u, .int .i64 0, .string s] (by rfl) (by rfl) ?d1 ?d2 (by decide) ?d3 ?d4 ?d5 (w5.heap.size + 1) (by simp) ?_
                 case d1 =>
                   refine World.news_of_block (cs := #[.int .i64 6, .int .i64 k, .int .i64 ((S - l) / 2), .int .i64 (T - 7 * u - P), .int .i64 u, .int .i64 0, .string s]) (t := 33) (fr := (0, 0)) ?_
                   exact heap_alloc_new w5 _
                 case d2 => simp [Value.oneCell']
                 case d3 => unfold maxLen; omega
                 case d4 => omega
                 case d5 => simp; omega
                 intro gq cq w7 hown7 hgrow7 hat7 hlt7
                 have ha5 := ((Below.refl w5.heap.size w5).alloc (Nat.le_refl _) (.cells #[.int .i64 6, .int .i64 k, .int .i64 ((S - l) / 2), .int .i64 (T - 7 * u - P), .int .i64 u, .int .i64 0, .string s] 33)).drew
                 have j1 : w7.cell? ⟨wo.heap.size, 1, none⟩ = some (.int .i64 S) := (hgrow7.cell_far ⟨wo.heap.size, 1, none⟩ (by simp; omega) (by simp [Value.ownBlock]; omega)).trans ((ha5.cell (p := ⟨wo.heap.size, 1, none⟩) hz5).trans k1)
                 have j3 : w7.cell? ⟨wo.heap.size, 3, none⟩ = some (.slice (some ⟨gg, 0, none⟩) (j + 2) cc) := (hgrow7.cell_far ⟨wo.heap.size, 3, none⟩ (by simp; omega) (by simp [Value.ownBlock]; omega)).trans ((ha5.cell (p := ⟨wo.heap.size, 3, none⟩) hz5).trans k3)
                 have j4 : w7.cell? ⟨blk, off + j, none⟩ = some (.string s) := (hgrow7.cell_far ⟨blk, off + j, none⟩ (by simp; omega) (by simp [Value.ownBlock]; omega)).trans ((ha5.cell (p := ⟨blk, off + j, none⟩) hblk5).trans k4)
                 have y7 : w7.frozen? ⟨wo.heap.size, 3, none⟩ = false := (hgrow7.frozen_far ⟨wo.heap.size, 3, none⟩ (by simp; omega) (by simp [Value.ownBlock]; omega)).trans ((ha5.frozen (p := ⟨wo.heap.size, 3, none⟩) hz5).trans y5)
                 have hB7 : Below (wo.heap.size + 1) wr w7 := (((hb5.mono hzs).alloc hz5 _).drew).grown hgrow7 (by simp; omega) (fun k h => by simp [Value.ownBlock] at h; omega)
                 have gql : wo.heap.size + 1 ≤ gq := by
                   rcases hat7 with h | h
                   · simp [Value.ownBlock] at h; omega
                   · omega
                 have HO7 := Lib.hid hown7
                 clear hown7 hgrow7 hat7 ha5))
          all_goals
            go_wp2_with fail
            go_roundw
            case rel =>
              have z := fun o => hB7.cell (p := ⟨wo.heap.size, o, none⟩) (Nat.lt_succ_self _)
              have z0 := (z 0).trans b0'
              have z1 := (z 1).trans b1'
              have z2 := (z 2).trans b2'
              have z3 := (z 3).trans b3'
              have hr := ownsRow_setCell_below HO7.out (a := ⟨wo.heap.size, 3, none⟩) (Nat.lt_succ_self _) (.slice (some ⟨gq, 0, none⟩) (j + 2 + 1) cq)
              rw [show j + 2 + 1 = j + 1 + 2 from by omega] at hr
              refine ⟨j + 1, gq, cq, by omega, by go_num, gql, by simp [FaceBox, go_sem, z0, z1, z2, z3], by rw [World.frozen?_setCell]; exact y7, Lib.hid ?_, (hbz.trans (hB7.mono (by omega))).setCell (Nat.le_refl _) _, by rw [World.size_setCell]; exact Nat.le_trans hzs (Nat.le_trans (Nat.le_refl _) hB7.size)⟩
              rw [HSN.out, List.flatMap_append]
              simp only [List.flatMap_cons, List.flatMap_nil, List.append_nil, HCE.out]
              exact hr
            case measure => simp [intOf]; omega
        · have e : j = ls.length := by omega
          subst e
          have hlz : w.heap.size < wr.heap.size := by omega
          have hzw : w.heap.size < wo.heap.size := hz
          obtain ⟨hcz, hfz⟩ := bcell hbz
          go_wp2_with fail
          have hr := HRow.out
          rw [List.take_length] at hr
          have hlw : w.heap.size < wo.heap.size + 1 := by omega
          have hr4 := ownsRow_setCell_below (ownsRow_setCell_below (ownsRow_setCell_below (ownsRow_setCell_below hr (a := ⟨w.heap.size, 0, none⟩) hlw (.int .i64 2)) (a := ⟨w.heap.size, 1, none⟩) hlw (.int .i64 S)) (a := ⟨w.heap.size, 2, none⟩) hlw (.int .i64 H)) (a := ⟨w.heap.size, 3, none⟩) hlw (.slice (some ⟨gg, 0, none⟩) (ls.length + 2) cc)
          have hpl := panIts_len u g k S T ls
          refine bodyPost_ret (v := .tuple #[.agg #[.int .i64 2, .int .i64 S, .int .i64 H, .slice (some ⟨gg, 0, none⟩) (ls.length + 2) cc], .int .i64 0]) (by simp [results, Tryz.results6, go_sem, hcz, hc, hzw]) rfl ⟨?_, some ⟨gg, 0, none⟩, cc, by rw [hpl], ?_⟩
          · repeat (refine Below.setCell ?_ (by simp) _)
            exact hBw
          · exact items_of_row (g := gg) (c := cc) (by rw [hpl]; exact hr4) (by rw [hpl]; omega) (panIts_str u g k S T ls hst)
end Go.Proofs.YtbogmdelceikgaaGreatDoor
