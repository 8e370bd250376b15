/-
  The law FaceWider: the texts of a panel lie within its rim, and a letter more never gives a smaller panel. By an AI agent.
-/
import Derived.Test.YtbogmdelceikgaaGreatDoorWideN
import Derived.Test.YtbogmdelceikgaaGreatDoorWideT
import Derived.Test.YtbogmdelceikgaaGreatDoorFaceM
import Derived.Deep.DeepCutAuto
namespace Go.Proofs.YtbogmdelceikgaaGreatDoor
set_option linter.unusedVariables false
set_option linter.unusedSimpArgs false
open Go.RowKit

theorem cell_below {w w' : World} {b o : Nat} {v : Value} (h : w.cell? ⟨b, o, none⟩ = some v) (hb : Below w.heap.size w w') : w'.cell? ⟨b, o, none⟩ = some v := (hb.cell (p := ⟨b, o, none⟩) (block_lt h)).trans h
theorem lines_len {w : World} {a : Option Addr} {ls : List ByteArray} (h : LinesAt w a ls) : ls.length ≤ 9223372036854775807 := h.1
set_option maxRecDepth 100000 in
set_option maxHeartbeats 4000000 in
theorem faceWider_a (u g k : Int) (a : Option Addr) (cap : Nat) (ls : List ByteArray) (t : Int) (w : World) (hT : Tabs w) (h8 : 8 < ls.length) :
    Calls Tryz.prog 3 #[.agg #[.slice a ls.length cap, .int .i64 u, .int .i64 g, .int .i64 k], .int .u8 t] w fun e w' => e = .returned (.bool true) ∧ Below w.heap.size w w' := by
  have hb := (Below.refl w.heap.size w).alloc (Nat.le_refl _) (.cells #[.slice a ls.length cap, .int .i64 u, .int .i64 g, .int .i64 k] 24)
  have HF := Lib.hid (first_any _ (hT.below hb))
  clear hT
  go_enter Tryz.func3, Tryz.ntmps3
  go_wp2_with fail
  refine HF.out.mono ?_
  rintro e w9 ⟨rfl, hb9⟩
  go_wp2_with fail
  go_ret
  exact ⟨rfl, hb.trans (hb9.mono hb.size)⟩
set_option maxRecDepth 100000 in
set_option maxHeartbeats 4000000 in
theorem faceWider_b (u g k : Int) (a : Option Addr) (cap : Nat) (ls : List ByteArray) (t : Int) (w : World) (hT : Tabs w) (hI : LinesAt w a ls) (h8 : ls.length ≤ 8) (E : Int) (hE : panE u g k ls = E) (hE0 : E ≠ 0) :
    Calls Tryz.prog 3 #[.agg #[.slice a ls.length cap, .int .i64 u, .int .i64 g, .int .i64 k], .int .u8 t] w fun e w' => e = .returned (.bool true) ∧ Below w.heap.size w w' := by
  have HF := Lib.hid (fun W (hb : Below w.heap.size w W) => first_any W (hT.below hb))
  have HP : Hid (∀ W, Below w.heap.size w W → Calls Tryz.prog 5 #[.slice a ls.length cap, .int .i64 u, .int .i64 g, .int .i64 k] W (FaceEnd W 0 0 0 [] E)) := Lib.hid fun W hb => by rw [← panelEnd_err hE hE0]; exact panel_any u g k a cap ls W (hT.below hb).letters (hI.below hb)
  have HR : Hid (∀ W, Below w.heap.size w W → Calls Tryz.prog 6 #[.slice a ls.length cap, .int .i64 u, .int .i64 g, .int .i64 k] W (FaceEnd W 0 0 0 [] E)) := Lib.hid fun W hb => by rw [← panelEnd_err hE hE0]; exact refPanel_any u g k a cap ls W (hI.below hb)
  have hne : (E != 0) = true := by simpa using hE0
  have hee : (E == E) = true := by simp
  have hb0 := (Below.refl w.heap.size w).alloc (Nat.le_refl _) (.cells #[.slice a ls.length cap, .int .i64 u, .int .i64 g, .int .i64 k] 24)
  have HB0 := Lib.hid hb0
  clear hT hI hE hE0 hb0
  go_enter Tryz.func3, Tryz.ntmps3
  go_wp2_with fail
  refine (HP.out _ HB0.out).mono ?_
  rintro e w1 ⟨hb1, a1, c1, rfl, hI1⟩
  obtain ⟨hc1, hf1⟩ := bcell hb1
  have hb1' := box_below hb1
  have hz1 : w.heap.size < w1.heap.size := by have := hb1.size; simp at this; omega
  have HB2 : Hid (Below w.heap.size w (w1.alloc (.cells #[.int .i64 0, .int .i64 0, .int .i64 0, .slice a1 0 c1] 28))) := Lib.hid (hb1'.alloc hb1'.size _)
  clear hI1 hb1
  go_wp2_with fail
  refine (HR.out _ HB2.out).mono ?_
  rintro e w3 ⟨hb3, a3, c3, rfl, hI3⟩
  have hB3 : Below w.heap.size w w3 := HB2.out.trans (hb3.mono HB2.out.size)
  have HB4 : Hid (Below w.heap.size w (w3.alloc (.cells #[.int .i64 0, .int .i64 0, .int .i64 0, .slice a3 0 c3] 28))) := Lib.hid (hB3.alloc hB3.size _)
  clear hI3 hb3 hB3 hc1 hf1
  go_wp2_with fail
  refine (HF.out _ HB4.out).mono ?_
  rintro e w9 ⟨rfl, hb9⟩
  go_wp2_with fail
  go_ret
  exact ⟨rfl, HB4.out.trans (hb9.mono HB4.out.size)⟩
set_option maxRecDepth 100000 in
set_option maxHeartbeats 8000000 in
theorem faceWider_c (u g k : Int) (a : Option Addr) (cap : Nat) (ls : List ByteArray) (t : Int) (w : World) (hT : Tabs w) (hI : LinesAt w a ls) (bt0 : 0 ≤ t) (bt1 : t ≤ 255) (h8 : ls.length ≤ 8) (hE : panE u g k ls = 0) :
    Calls Tryz.prog 3 #[.agg #[.slice a ls.length cap, .int .i64 u, .int .i64 g, .int .i64 k], .int .u8 t] w fun e w' => e = .returned (.bool true) ∧ Below w.heap.size w w' := by
  have hn1 : 1 ≤ ls.length := by have := (btw_iff _ _ _).1 (panE_zero hE).1; omega
  have hS : panW u ls ≤ 200 ∧ panH u ls.length ≤ 200 := by have := (panE_zero hE).2.2.2; omega
  have hS0 : 0 ≤ panW u ls := by have h := wide_item hE (j := 0) (by omega); have := lenV_bd ls[0] u; omega
  have hH0 : 0 ≤ panH u ls.length := by 
    obtain ⟨_, h2, _, _, _, h5, h6⟩ := wide_item hE (j := 0) (by omega)
    have h6 : panTop u ls.length - 7 * u - 11 * u * ((0 : Nat) : Int) + 7 * u ≤ panH u ls.length - u := h6
    generalize panTop u ls.length - 7 * u - 11 * u * ((0 : Nat) : Int) = Y at h5 h6
    omega
  have hu : 1 ≤ u ∧ u ≤ 200 := by have h := wide_item hE (j := 0) (by omega); omega
  have HF := Lib.hid (fun W (hb : Below w.heap.size w W) => first_any W (hT.below hb))
  have HLT := Lib.hid (fun W (hb : Below w.heap.size w W) => (hT.below hb).letters)
  have HLT2 := Lib.hid (fun W (hb : Below w.heap.size w W) => (hT.below hb).letters)
  have HP : Hid (∀ W, Below w.heap.size w W → Calls Tryz.prog 5 #[.slice a ls.length cap, .int .i64 u, .int .i64 g, .int .i64 k] W (FaceEnd W 2 (panW u ls) (panH u ls.length) (panIts u g k (panW u ls) (panTop u ls.length) ls) 0)) := Lib.hid fun W hb => by rw [← panelEnd_ok hE]; exact panel_any u g k a cap ls W (hT.below hb).letters (hI.below hb)
  have HR : Hid (∀ W, Below w.heap.size w W → Calls Tryz.prog 6 #[.slice a ls.length cap, .int .i64 u, .int .i64 g, .int .i64 k] W (FaceEnd W 2 (panW u ls) (panH u ls.length) (panIts u g k (panW u ls) (panTop u ls.length) ls) 0)) := Lib.hid fun W hb => by rw [← panelEnd_ok hE]; exact refPanel_any u g k a cap ls W (hI.below hb)
  have HIT := Lib.hid (fun j (hj : j < ls.length) => wide_item hE hj)
  have HMO := Lib.hid (fun i (hi : i < ls.length) s hs => wide_more hE hi (s := s) hs)
  have HSZ := Lib.hid (fun i (hi : i < ls.length) => wide_size hE hi)
  obtain ⟨hlen, hst, lb, lo, hadr, hce⟩ := hI
  obtain rfl := hadr (fun e => by rw [e] at hn1; simp at hn1)
  have HCE := Lib.hid hce
  have HSI := Lib.hid hst
  have HNE : Hid (∀ j, j < ls.length → (panIts u g k (panW u ls) (panTop u ls.length) ls)[j + 2]? = some (lineIt u k (panW u ls) (panTop u ls.length) j (ls.getD j ByteArray.empty))) := Lib.hid fun j hj => by
    rw [panIts_get u g k _ _ ls j hj, List.getD_eq_getElem?_getD, List.getElem?_eq_getElem hj]; rfl
  have hN := panIts_len u g k (panW u ls) (panTop u ls.length) ls
  have hb0 := (Below.refl w.heap.size w).alloc (Nat.le_refl _) (.cells #[.slice (some ⟨lb, lo, none⟩) ls.length cap, .int .i64 u, .int .i64 g, .int .i64 k] 24)
  have HB0 := Lib.hid hb0
  have HLW : Hid (panW u ls = panW u ls) := Lib.hid rfl
  generalize hSS : panW u ls = S at *
  generalize hHH : panH u ls.length = H at *
  generalize hTT : panTop u ls.length = T at *
  generalize panIts u g k S T ls = its at *
  obtain ⟨N, hNN⟩ : ∃ N, its.length = N := ⟨_, rfl⟩
  have hN : N = ls.length + 2 := by omega
  have HSS := Lib.hid hSS
  have HHH := Lib.hid hHH
  have HNN := Lib.hid hNN
  have HN2 := Lib.hid hN
  clear hT hce hst hadr hb0 hE hSS hHH hTT hNN hN
  have hd8 : decide ((8 : Int) < (ls.length : Int)) = false := by simp; omega
  go_enter Tryz.func3, Tryz.ntmps3
  go_wp2_with fail
  refine (HP.out _ HB0.out).mono ?_
  rintro e w1 ⟨hb1, a1, c1, rfl, hI1⟩
  obtain ⟨hc1, hf1⟩ := bcell hb1
  have hb1' := HB0.out.trans (hb1.mono HB0.out.size)
  have hz1 : w.heap.size < w1.heap.size := by have := hb1.size; simp at this; omega
  obtain ⟨-, hitS, ib, io, hiadr, hic⟩ := hI1
  obtain rfl := hiadr (fun e => by have := HNN.out; rw [e] at this; have := HN2.out; simp at *; omega)
  rw [HNN.out]
  have HB2 : Hid (Below w.heap.size w (w1.alloc (.cells #[.int .i64 2, .int .i64 S, .int .i64 H, .slice (some ⟨ib, io, none⟩) N c1] 28))) := Lib.hid (hb1'.alloc hb1'.size _)
  have HIC := Lib.hid hic
  clear hiadr hitS hic hb1
  go_wp2_with fail
  refine (HR.out _ HB2.out).mono ?_
  rintro e w3 ⟨hb3, a3, c3, rfl, -⟩
  rw [HNN.out]
  have hB3 : Below w.heap.size w w3 := HB2.out.trans (hb3.mono HB2.out.size)
  obtain ⟨wB, hwB⟩ : ∃ wB, w3.alloc (.cells #[.int .i64 2, .int .i64 S, .int .i64 H, .slice a3 N c3] 28) = wB := ⟨_, rfl⟩
  obtain ⟨B, hBB⟩ : ∃ B, w1.heap.size = B := ⟨_, rfl⟩
  have hz3 : w1.heap.size < w3.heap.size := by have := hb3.size; simp at this; omega
  have hwb1 : Below w1.heap.size w1 wB := by
    rw [← hwB]
    exact (((Below.refl w1.heap.size w1).alloc (Nat.le_refl _) _).trans (hb3.mono (by simp))).alloc (by omega) _
  have hwb2 : Below (w1.alloc (.cells #[.int .i64 2, .int .i64 S, .int .i64 H, .slice (some ⟨ib, io, none⟩) N c1] 28)).heap.size (w1.alloc (.cells #[.int .i64 2, .int .i64 S, .int .i64 H, .slice (some ⟨ib, io, none⟩) N c1] 28)) wB := by
    rw [← hwB]
    exact hb3.alloc hb3.size _
  have Hs0 : Hid (wB.cell? ⟨w.heap.size, 0, none⟩ = some (.slice (some ⟨lb, lo, none⟩) ls.length cap)) := Lib.hid (cell_below (by rw [hc1 _ _ (by simp)]; simp [go_sem]) hwb1)
  have Hs1 : Hid (wB.cell? ⟨w.heap.size, 1, none⟩ = some (.int .i64 u)) := Lib.hid (cell_below (by rw [hc1 _ _ (by simp)]; simp [go_sem]) hwb1)
  have Hs2 : Hid (wB.cell? ⟨w.heap.size, 2, none⟩ = some (.int .i64 g)) := Lib.hid (cell_below (by rw [hc1 _ _ (by simp)]; simp [go_sem]) hwb1)
  have Hs3 : Hid (wB.cell? ⟨w.heap.size, 3, none⟩ = some (.int .i64 k)) := Lib.hid (cell_below (by rw [hc1 _ _ (by simp)]; simp [go_sem]) hwb1)
  have Hf0 : Hid (wB.cell? ⟨B, 0, none⟩ = some (.int .i64 2)) := Lib.hid (by rw [← hBB]; exact cell_below (by simp [go_sem]) hwb2)
  have Hf1 : Hid (wB.cell? ⟨B, 1, none⟩ = some (.int .i64 S)) := Lib.hid (by rw [← hBB]; exact cell_below (by simp [go_sem]) hwb2)
  have Hf2 : Hid (wB.cell? ⟨B, 2, none⟩ = some (.int .i64 H)) := Lib.hid (by rw [← hBB]; exact cell_below (by simp [go_sem]) hwb2)
  have Hf3 : Hid (wB.cell? ⟨B, 3, none⟩ = some (.slice (some ⟨ib, io, none⟩) N c1)) := Lib.hid (by rw [← hBB]; exact cell_below (by simp [go_sem]) hwb2)
  have HIB : Hid (∀ i (h : i < its.length), ItemAt wB ib (io + i * 7) its[i]) := Lib.hid fun i hi => (HIC.out i hi).below hwb1
  have hbB : Below w.heap.size w wB := by rw [← hwB]; exact hB3.alloc hB3.size _
  have HBB := Lib.hid hbB
  rw [hBB]
  go_upto_region 5 with (fail)
  clear hwB hB3 hb3 hwb1 hwb2 HIC hc1 hf1 hb1' hz1 hz3 hBB HB2 HB0 HP HR
  have s0 := cell_below Hs0.out (Below.refl _ _)
  have s1 := cell_below Hs1.out (Below.refl _ _)
  have s2 := cell_below Hs2.out (Below.refl _ _)
  have s3 := cell_below Hs3.out (Below.refl _ _)
  have f0 := cell_below Hf0.out (Below.refl _ _)
  have f1 := cell_below Hf1.out (Below.refl _ _)
  have f2 := cell_below Hf2.out (Below.refl _ _)
  have f3 := cell_below Hf3.out (Below.refl _ _)
  have hNa : N ≤ ls.length + 2 := by have := HN2.out; omega
  have hNb : ls.length + 2 ≤ N := by have := HN2.out; omega
  have hq : ((N : Int) != 2 + (ls.length : Int)) = false := by simp; omega
  go_wp2_with fail
  go_loopw [9, 10] (fun lo i wr => ∃ (m : Nat) (v : Int), 2 ≤ m ∧ m ≤ N ∧ i = .int .i64 m ∧ lo = .int .i64 v ∧ v ≤ 200 ∧ Hid (v = lowK u T H (m - 2)) ∧ Below wB.heap.size wB wr) (fun _ i _ => N - (intOf i).toNat)
  case atStart => exact ⟨2, H - u, Nat.le_refl _, by omega, rfl, rfl, by omega, Lib.hid rfl, Below.refl _ _⟩
  case round =>
    obtain ⟨m, v, hm2, hmN, rfl, rfl, hv2, HV, hb⟩ := hrel
    clear hq s0 s1 s2 s3 f0 f1 f2 f3
    have s0 := cell_below Hs0.out hb
    have s1 := cell_below Hs1.out hb
    have s2 := cell_below Hs2.out hb
    have s3 := cell_below Hs3.out hb
    have f0 := cell_below Hf0.out hb
    have f1 := cell_below Hf1.out hb
    have f2 := cell_below Hf2.out hb
    have f3 := cell_below Hf3.out hb
    have hzw := block_lt s0
    have hzf := block_lt f0
    by_cases hlt : m < N
    · obtain ⟨j, hj⟩ : ∃ j, m = j + 2 := ⟨m - 2, by omega⟩
      have hjl : j < ls.length := by omega
      have hml : m < its.length := by rw [HNN.out]; exact hlt
      have hx : its[m] = lineIt u k S T j (ls.getD j ByteArray.empty) := by
        have h := HNE.out j hjl
        rw [← hj, List.getElem?_eq_getElem hml] at h
        exact Option.some.inj h
      have hit := (HIB.out m hml).below hb
      rw [hx] at hit
      have hsj : ls.getD j ByteArray.empty = ls[j] := by rw [List.getD_eq_getElem?_getD, List.getElem?_eq_getElem hjl]; rfl
      have hsz := HSI.out ls[j] (List.getElem_mem hjl)
      obtain ⟨e0, e1, e2, e3, e4, e5, e6⟩ := HIT.out j hjl
      rw [hsj] at hit
      have hlb := lenV_bd ls[j] u
      have HVn : Hid (T - 7 * u - 11 * u * j = lowK u T H (m + 1 - 2)) := Lib.hid (by rw [show m + 1 - 2 = j + 1 by omega]; rfl)
      rw [show m - 2 = j by omega] at HV
      rw [← HV.out] at e6
      have HLN := Lib.hid (fun W (hW : Below w.heap.size w W) => length_any ls[j] u W (HLT.out W hW) hsz)
      unfold maxLen at hsz
      have HJ := Lib.hid hj
      clear hx hsj hml HV hj HNE HIB HIT HSI HMO HSZ HCE
      generalize ls[j] = s at *
      clear hjl
      unfold ItemAt lineIt at hit
      simp only at hit
      rw [e0] at HLN
      generalize lenV s u = L at *
      obtain ⟨X, hX⟩ : ∃ X, (S - L) / 2 = X := ⟨_, rfl⟩
      rw [hX] at hit e3 e4
      generalize hY : T - 7 * u - 11 * u * (j : Int) = Y at *
      obtain ⟨d0, d1, d2, d3, d4, d5, d6⟩ := hit
      clear e0 hX hY
      have g1 : ¬ X < u := by omega
      have g2 : ¬ X + L > S - u := by omega
      have g3 : ¬ Y < u := by omega
      have g4 : ¬ Y + 7 * u > v := by omega
      have hbx : Below w.heap.size w wr := HBB.out.trans (hb.mono HBB.out.size)
      go_wp2_with fail
      refine (HLN.out _ (hbx.alloc hbx.size _)).mono ?_
      rintro e w5 ⟨rfl, hb5⟩
      obtain ⟨hc5, hf5⟩ := bcell hb5
      have hb6 := hb.trans ((box_below hb5).mono hb.size)
      clear hb5 HLN
      go_wp2_with fail
      go_roundw
      case rel => exact ⟨m + 1, Y, by omega, by omega, by go_num, rfl, by omega, HVn, hb6⟩
      case measure => simp [intOf]; omega
    · obtain ⟨i0, hi0⟩ : ∃ i0 : Nat, t % (ls.length : Int) = i0 := ⟨(t % (ls.length : Int)).toNat, by rw [Int.toNat_of_nonneg (Int.emod_nonneg _ (by omega))]⟩
      have hil : i0 < ls.length := by have := Int.emod_lt_of_pos t (show (0 : Int) < ls.length by omega); omega
      have hl0 : 0 < ls.length := by omega
      have hbx : Below w.heap.size w wr := HBB.out.trans (hb.mono HBB.out.size)
      have HE := Lib.hid (World.ownsRow_made (base := wr.heap.size) (e := 9) (size := 1) wr #[] 0 (Nat.le_refl _) (Nat.zero_le _) (by simp))
      have HCW : Hid (∀ i (h : i < ls.length), (wr.alloc (.cells #[] 9)).cell? ⟨lb, lo + i, none⟩ = some (.string ls[i])) := Lib.hid fun i hi => cell_below (HCE.out i hi) (hbx.alloc hbx.size _)
      have HB9 := Lib.hid ((Below.refl wr.heap.size wr).alloc (Nat.le_refl _) (.cells #[] 9))
      clear HV HLT HNE HIB HIT HCE
      go_upto_region 19 with (at_builtin; go_loud (refine appT _ (by rfl) _ _ (by rfl) wr.heap.size (some ⟨wr.heap.size, 0, none⟩) 0 0 [] (by rfl) HE.out lb lo ls cap (by rfl) HCW.out hl0 (by omega) (by simp) ?_); intro g9 c9 wg hown9 hb9)
      have hown9 : wg.ownsRow wr.heap.size 9 1 (.slice g9 ls.length c9) ls.length (clT ls) := by simpa using hown9
      have hbg : Below wr.heap.size wr wg := HB9.out.trans hb9
      obtain ⟨gb, rfl, hgb⟩ := own_some1 hown9 hl0
      obtain ⟨s, hs⟩ : ∃ s, ls[i0] = s := ⟨_, rfl⟩
      have cv : wg.cell? ⟨gb, i0, none⟩ = some (.string s) := by
        rw [World.ownsRow.cellAt hown9 i0 (by omega), ← hs]
        unfold clT
        rw [List.getElem?_map, List.getElem?_eq_getElem hil]; rfl
      have cf : wg.frozen? ⟨gb, i0, none⟩ = false := World.ownsRow.frozenAt hown9 _
      have hs24 := HSZ.out i0 hil
      rw [hs] at hs24
      have HO9 := Lib.hid hown9
      have HS9 := Lib.hid hs
      clear hs hown9 hb9 HE HCW HB9
      have hst := (World.ownsRow.stored HO9.out i0 (.string (s ++ { data := #[65] }))).1
      rw [clT_set] at hst
      have hbh : Below wr.heap.size wr (wg.setCell ⟨gb, i0, none⟩ (.string (s ++ { data := #[65] }))) := hbg.setCell hgb _
      have hsz1 : (s ++ { data := #[65] } : ByteArray).size = s.size + 1 := by rw [ByteArray.size_append]; rfl
      have HST := Lib.hid hst
      have HBH := Lib.hid hbh
      have HZ1 := Lib.hid hsz1
      clear hst hbh hsz1
      go_upto_region 20 with (fail)
      obtain ⟨s', hs'⟩ : ∃ s', s ++ { data := #[65] } = s' := ⟨_, rfl⟩
      rw [hs'] at HST HBH HZ1
      rw [hs']
      obtain ⟨wh, hwh⟩ : ∃ wh, wg.setCell ⟨gb, i0, none⟩ (.string s') = wh := ⟨_, rfl⟩
      rw [hwh] at HST HBH
      rw [hwh]
      have hB2 := hb.trans (HBH.out.mono hb.size)
      clear hwh hs' cv cf hbg HO9 s0 s1 s2 s3 f0 f1 f2 f3
      have s0 := cell_below Hs0.out hB2
      have s1 := cell_below Hs1.out hB2
      have s2 := cell_below Hs2.out hB2
      have s3 := cell_below Hs3.out hB2
      have f0 := cell_below Hf0.out hB2
      have f1 := cell_below Hf1.out hB2
      have f2 := cell_below Hf2.out hB2
      have f3 := cell_below Hf3.out hB2
      have hzw := block_lt s0
      have hzf := block_lt f0
      have hbw := HBB.out.trans (hB2.mono HBB.out.size)
      have HLN : Hid (LinesAt wh (some ⟨gb, 0, none⟩) (ls.set i0 s')) := Lib.hid (ownT (by rw [List.length_set]; exact HST.out) (by rw [List.length_set]; omega) (fun x hx => by
        rcases List.mem_or_eq_of_mem_set hx with h | h
        · exact HSI.out x h
        · rw [h]; unfold maxLen; have := HZ1.out; omega))
      have HM := HMO.out i0 hil s' (by rw [HS9.out]; have := HZ1.out; omega)
      clear HST HBH HZ1 HS9 HSI HMO HSZ
      rcases HM with hm | hm | ⟨hm, hW⟩
      · have HQ := panel_any u g k (some ⟨gb, 0, none⟩) c9 (ls.set i0 s') wh (HLT2.out _ hbw) HLN.out
        rw [panelEnd_err hm (by decide)] at HQ
        rw [List.length_set] at HQ
        have HQ := Lib.hid HQ
        clear hm
        go_wp2_with fail
        refine HQ.out.mono ?_
        rintro e w11 ⟨hb11, a11, c11, rfl, -⟩
        obtain ⟨hc11, hf11⟩ := bcell hb11
        have hbz := hbw.trans (hb11.mono hbw.size)
        have hz11 := hb11.size
        have hzf2 := Nat.lt_of_lt_of_le hzf hz11
        have hzw2 := Nat.lt_of_lt_of_le hzw hz11
        clear hz11
        go_wp2_with fail
        refine (HF.out _ (hbz.alloc hbz.size _)).mono ?_
        rintro e w12 ⟨rfl, hb12⟩
        go_wp2_with fail
        go_ret
        exact ⟨rfl, hbz.trans ((box_below hb12).mono hbz.size)⟩
      · have HQ := panel_any u g k (some ⟨gb, 0, none⟩) c9 (ls.set i0 s') wh (HLT2.out _ hbw) HLN.out
        rw [panelEnd_err hm (by decide)] at HQ
        rw [List.length_set] at HQ
        have HQ := Lib.hid HQ
        clear hm
        go_wp2_with fail
        refine HQ.out.mono ?_
        rintro e w11 ⟨hb11, a11, c11, rfl, -⟩
        obtain ⟨hc11, hf11⟩ := bcell hb11
        have hbz := hbw.trans (hb11.mono hbw.size)
        have hz11 := hb11.size
        have hzf2 := Nat.lt_of_lt_of_le hzf hz11
        have hzw2 := Nat.lt_of_lt_of_le hzw hz11
        clear hz11
        go_wp2_with fail
        refine (HF.out _ (hbz.alloc hbz.size _)).mono ?_
        rintro e w12 ⟨rfl, hb12⟩
        go_wp2_with fail
        go_ret
        exact ⟨rfl, hbz.trans ((box_below hb12).mono hbz.size)⟩
      · have HQ := panel_any u g k (some ⟨gb, 0, none⟩) c9 (ls.set i0 s') wh (HLT2.out _ hbw) HLN.out
        rw [panelEnd_ok hm] at HQ
        rw [List.length_set] at HQ
        rw [HHH.out] at HQ
        have HQ := Lib.hid HQ
        generalize panW u (ls.set i0 s') = S2 at *
        clear hm
        go_wp2_with fail
        refine HQ.out.mono ?_
        rintro e w11 ⟨hb11, a11, c11, rfl, -⟩
        obtain ⟨hc11, hf11⟩ := bcell hb11
        have hbz := hbw.trans (hb11.mono hbw.size)
        have hz11 := hb11.size
        have hzf2 := Nat.lt_of_lt_of_le hzf hz11
        have hzw2 := Nat.lt_of_lt_of_le hzw hz11
        clear hz11
        go_wp2_with fail
        refine (HF.out _ (hbz.alloc hbz.size _)).mono ?_
        rintro e w12 ⟨rfl, hb12⟩
        go_wp2_with fail
        go_ret
        exact ⟨rfl, hbz.trans ((box_below hb12).mono hbz.size)⟩
theorem faceWider_any (u g k : Int) (a : Option Addr) (cap : Nat) (ls : List ByteArray) (t : Int) (w : World) (hT : Tabs w) (hI : LinesAt w a ls) (bt0 : 0 ≤ t) (bt1 : t ≤ 255) :
    Calls Tryz.prog 3 #[.agg #[.slice a ls.length cap, .int .i64 u, .int .i64 g, .int .i64 k], .int .u8 t] w fun e w' => e = .returned (.bool true) ∧ Below w.heap.size w w' := by
  by_cases h8 : ls.length ≤ 8
  · by_cases hE : panE u g k ls = 0
    · exact faceWider_c u g k a cap ls t w hT hI bt0 bt1 h8 hE
    · exact faceWider_b u g k a cap ls t w hT hI h8 _ rfl hE
  · exact faceWider_a u g k a cap ls t w hT (by omega)
end Go.Proofs.YtbogmdelceikgaaGreatDoor
