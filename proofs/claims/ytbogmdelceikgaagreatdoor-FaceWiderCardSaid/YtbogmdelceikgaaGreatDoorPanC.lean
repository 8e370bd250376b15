/-
  The walk of package face's Panel where it refuses. By an AI agent.
-/
import Derived.Test.YtbogmdelceikgaaGreatDoorPanB
namespace Go.Proofs.YtbogmdelceikgaaGreatDoor
open Go.RowKit

set_option maxRecDepth 100000 in
set_option maxHeartbeats 4000000 in
theorem panel_err (u g k : Int) (a : Option Addr) (cap : Nat) (ls : List ByteArray) (w : World) (hL : LettersAt w) (hI : LinesAt w a ls) (hne : panE u g k ls ≠ 0) :
    Calls Tryz.prog 5 #[.slice a ls.length cap, .int .i64 u, .int .i64 g, .int .i64 k] w (PanelEnd w u g k ls) := by
  obtain ⟨hlen, hst, blk, off, hadr, hce⟩ := hI
  have hLs := hL.1
  have HL := Lib.hid fun W (hb : Below w.heap.size w W) (s : ByteArray) (hs : s.size ≤ maxLen) => length_any s u W (hL.below hb hLs) hs
  clear hL
  by_cases h1 : btw ls.length 1 8 = true
  · have H1 := Lib.hid h1
    obtain ⟨n1, n8⟩ := (btw_iff _ _ _).1 h1
    clear h1
    go_enter Tryz.func5, Tryz.ntmps5
    go_wp2_with (first | (go_at_call 10; refine (between_any _ _ _ _).mono ?_; rintro e w' ⟨rfl, rfl⟩; rw [H1.out]))
    go_loopw [10, 27] (fun m i wr => ∃ j : Nat, j ≤ ls.length ∧ i = .int .i64 j ∧ m = .int .i64 (longest u (ls.take j)) ∧ Hid ((ls.take j).all (lineOk u) = true) ∧ Below (w.alloc faceZero).heap.size (w.alloc faceZero) wr) (fun _ i _ => ls.length - (intOf i).toNat)
    case atStart => exact ⟨0, Nat.zero_le _, rfl, rfl, Lib.hid rfl, Below.refl _ _⟩
    case round =>
      obtain ⟨j, hj, rfl, rfl, HA, hb⟩ := hrel
      obtain ⟨hc, hf⟩ := bcell hb
      have hB := box_below hb
      have hbd := longest_bd u ls j
      by_cases hlt : j < ls.length
      · obtain rfl := hadr (fun h => by rw [h] at hlt; simp at hlt)
        have hcj := (hB.cell (p := ⟨blk, off + j, none⟩) (block_lt (hce j hlt))).trans (hce j hlt)
        have hsj := hst ls[j] (List.getElem_mem hlt)
        have HSN := Lib.hid (longest_snoc u ls j hlt)
        have HAN := Lib.hid (all_line u ls j hlt HA.out)
        have HNO := Lib.hid (all_line_no u ls j hlt)
        have hvb := lenV_bd ls[j] u
        have HC := Lib.hid (HL.out _ hB ls[j] hsj)
        clear hce hst hadr HA
        by_cases hok : lineOk u ls[j] = true
        · have He := Lib.hid (lenE_ok hok)
          have HA2 : Hid ((ls.take (j + 1)).all (lineOk u) = true) := Lib.hid (HAN.out.trans hok)
          clear HAN HNO hok
          generalize longest u (ls.take j) = m at *
          generalize ls[j] = s at *
          go_wp2_with (go_at_call 7; refine HC.out.mono ?_; rintro e w1 ⟨rfl, hb1⟩; rw [He.out])
          go_roundw
          case rel => exact ⟨j + 1, by omega, by go_num, by rw [HSN.out], HA2, hb.trans (hb1.mono hb.size)⟩
          case measure => simp [intOf]; omega
        · have hok' : lineOk u ls[j] = false := by simpa using hok
          have He := Lib.hid (lenE_bad hok')
          have HQ : Hid (PanelEnd w u g k ls = FaceEnd w 0 0 0 [] 2) := Lib.hid (panelEnd_err (panE_lines (HNO.out hok')) (by decide))
          clear HAN HNO hok hok'
          generalize longest u (ls.take j) = m at *
          generalize ls[j] = s at *
          go_wp2_with (go_at_call 7; refine HC.out.mono ?_; rintro e w1 ⟨rfl, hb1⟩; rw [He.out]; obtain ⟨hc1, hf1⟩ := bcell (hb.trans (hb1.mono hb.size)))
          rw [HQ.out]
          refine bodyPost_ret (v := .tuple #[.agg #[.int .i64 0, .int .i64 0, .int .i64 0, .slice none 0 0], .int .i64 2]) (by simp [results, Tryz.results5, go_sem, hc1]) rfl ⟨?_, none, 0, rfl, items_nil _⟩
          repeat (refine Below.setCell ?_ (by simp) _)
          exact hB.trans (hb1.mono hB.size)
      · have e : j = ls.length := by omega
        subst e
        have hall := HA.out
        rw [List.take_length] at hall
        have HA3 := Lib.hid hall
        have hz : w.heap.size < wr.heap.size := by have := hb.size; simp at this; omega
        clear HA
        have hu : btw u 1 200 = true := by
          have := List.all_eq_true.1 hall ls[0] (List.getElem_mem (by omega))
          unfold lineOk at this
          rw [Bool.and_eq_true] at this
          exact this.1
        obtain ⟨u0, u1⟩ := (btw_iff _ _ _).1 hu
        rw [List.take_length] at hbd ⊢
        clear hu hall
        by_cases hcol : (!(btw g 1 8) || !(btw k 1 8) || (g == k)) = true
        · have HQ : Hid (PanelEnd w u g k ls = FaceEnd w 0 0 0 [] 2) := Lib.hid (panelEnd_err (panE_col hcol) (by decide))
          by_cases hg : btw g 1 8 = true
          · by_cases hk : btw k 1 8 = true
            · have hgk : (g == k) = true := by rw [hg, hk] at hcol; simpa using hcol
              have Hg := Lib.hid hg
              have Hk := Lib.hid hk
              clear hg hk hcol
              go_wp2_with (first | (go_at_call 11; refine (colourValid_any _ _).mono ?_; rintro e w' ⟨rfl, rfl⟩; first | rw [Hg.out] | rw [Hk.out]))
              rw [HQ.out]
              refine bodyPost_ret (v := .tuple #[.agg #[.int .i64 0, .int .i64 0, .int .i64 0, .slice none 0 0], .int .i64 2]) (by simp [results, Tryz.results5, go_sem, hc]) rfl ⟨?_, none, 0, rfl, items_nil _⟩
              repeat (refine Below.setCell ?_ (by simp) _)
              exact hB
            · have hk' : btw k 1 8 = false := by simpa using hk
              have Hg := Lib.hid hg
              have Hk := Lib.hid hk'
              clear hg hk hk' hcol
              go_wp2_with (first | (go_at_call 11; refine (colourValid_any _ _).mono ?_; rintro e w' ⟨rfl, rfl⟩; first | rw [Hg.out] | rw [Hk.out]))
              rw [HQ.out]
              refine bodyPost_ret (v := .tuple #[.agg #[.int .i64 0, .int .i64 0, .int .i64 0, .slice none 0 0], .int .i64 2]) (by simp [results, Tryz.results5, go_sem, hc]) rfl ⟨?_, none, 0, rfl, items_nil _⟩
              repeat (refine Below.setCell ?_ (by simp) _)
              exact hB
          · have hg' : btw g 1 8 = false := by simpa using hg
            have Hg := Lib.hid hg'
            have Hk := Lib.hid hg'
            clear hg hg' hcol
            go_wp2_with (first | (go_at_call 11; refine (colourValid_any _ _).mono ?_; rintro e w' ⟨rfl, rfl⟩; first | rw [Hg.out] | rw [Hk.out]))
            rw [HQ.out]
            refine bodyPost_ret (v := .tuple #[.agg #[.int .i64 0, .int .i64 0, .int .i64 0, .slice none 0 0], .int .i64 2]) (by simp [results, Tryz.results5, go_sem, hc]) rfl ⟨?_, none, 0, rfl, items_nil _⟩
            repeat (refine Below.setCell ?_ (by simp) _)
            exact hB
        · have hcol' : (!(btw g 1 8) || !(btw k 1 8) || (g == k)) = false := by simpa using hcol
          have hg : btw g 1 8 = true := by revert hcol'; cases btw g 1 8 <;> simp
          have hk : btw k 1 8 = true := by revert hcol'; cases btw k 1 8 <;> simp
          have hgk : (g == k) = false := by revert hcol'; cases (g == k) <;> simp
          have Hg := Lib.hid hg
          have Hk := Lib.hid hk
          have HCol := Lib.hid hcol'
          clear hg hk hcol hcol'
          obtain ⟨q, hq⟩ : ∃ q, (11 * ((ls.length : Int) - 1) + 7 + 6) * u = q := ⟨_, rfl⟩
          have q0 : 0 ≤ q := by rw [← hq]; exact Int.mul_nonneg (by omega) (by omega)
          have q1 : q ≤ 18000 := by rw [← hq]; exact Int.mul_le_mul (show _ ≤ (90 : Int) by omega) u1 (by omega) (by omega)
          obtain ⟨S, hS⟩ : ∃ S, (longest u ls + 6 * u + 5 - 1) / 5 * 5 = S := ⟨_, rfl⟩
          obtain ⟨H, hH⟩ : ∃ H, (q + 5 - 1) / 5 * 5 = H := ⟨_, rfl⟩
          have eS : panW u ls = S := by rw [← hS]; unfold panW; omega
          have eN : panN u ls.length = q := by rw [← hq]; unfold panN; congr 1; omega
          have eH : panH u ls.length = H := by unfold panH; rw [eN, ← hH]; omega
          by_cases hw : S ≤ 200 ∧ H ≤ 200
          · exact absurd (panE_ok H1.out HA3.out HCol.out (by omega)) hne
          · have HQ : Hid (PanelEnd w u g k ls = FaceEnd w 0 0 0 [] 11) := Lib.hid (panelEnd_err (panE_wide H1.out HA3.out HCol.out (by omega)) (by decide))
            clear eS eN eH
            by_cases hw1 : S ≤ 200
            · have hw2 : ¬ H ≤ 200 := fun h => hw ⟨hw1, h⟩
              clear hw
              go_wp2_with (first | (go_at_call 11; refine (colourValid_any _ _).mono ?_; rintro e w' ⟨rfl, rfl⟩; first | rw [Hg.out] | rw [Hk.out]) | (go_at_call 12; refine (roundUp_any _ _ _ (by omega) (by omega) (by omega) (by omega)).mono ?_; rintro e w' ⟨rfl, rfl⟩))
              rw [HQ.out]
              refine bodyPost_ret (v := .tuple #[.agg #[.int .i64 0, .int .i64 0, .int .i64 0, .slice none 0 0], .int .i64 11]) (by simp [results, Tryz.results5, go_sem, hc, hz]) rfl ⟨?_, none, 0, rfl, items_nil _⟩
              exact ((((hB.setCell (by simp) _).setCell (by simp) _).setCell (by simp) _).setCell (by simp) _).alloc (by simp; omega) _
            · clear hw
              go_wp2_with (first | (go_at_call 11; refine (colourValid_any _ _).mono ?_; rintro e w' ⟨rfl, rfl⟩; first | rw [Hg.out] | rw [Hk.out]) | (go_at_call 12; refine (roundUp_any _ _ _ (by omega) (by omega) (by omega) (by omega)).mono ?_; rintro e w' ⟨rfl, rfl⟩))
              rw [HQ.out]
              refine bodyPost_ret (v := .tuple #[.agg #[.int .i64 0, .int .i64 0, .int .i64 0, .slice none 0 0], .int .i64 11]) (by simp [results, Tryz.results5, go_sem, hc, hz]) rfl ⟨?_, none, 0, rfl, items_nil _⟩
              exact ((((hB.setCell (by simp) _).setCell (by simp) _).setCell (by simp) _).setCell (by simp) _).alloc (by simp; omega) _
  · have h1' : btw ls.length 1 8 = false := by simpa using h1
    have H1 := Lib.hid h1'
    have HQ : Hid (PanelEnd w u g k ls = FaceEnd w 0 0 0 [] 2) := Lib.hid (panelEnd_err (panE_len h1') (by decide))
    clear h1 h1'
    go_enter Tryz.func5, Tryz.ntmps5
    go_wp2_with (first | (go_at_call 10; refine (between_any _ _ _ _).mono ?_; rintro e w' ⟨rfl, rfl⟩; rw [H1.out]))
    rw [HQ.out]
    refine bodyPost_ret (v := .tuple #[.agg #[.int .i64 0, .int .i64 0, .int .i64 0, .slice none 0 0], .int .i64 2]) (by simp [results, Tryz.results5, go_sem]) rfl ⟨?_, none, 0, rfl, items_nil _⟩
    go_grown
end Go.Proofs.YtbogmdelceikgaaGreatDoor
