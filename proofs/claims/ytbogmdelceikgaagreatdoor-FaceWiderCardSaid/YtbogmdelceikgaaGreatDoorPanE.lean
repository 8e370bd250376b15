/-
  The walk of the reference's Panel where it refuses; both Panels. By an AI agent.
-/
import Derived.Test.YtbogmdelceikgaaGreatDoorPanC
import Derived.Test.YtbogmdelceikgaaGreatDoorPanD
namespace Go.Proofs.YtbogmdelceikgaaGreatDoor
open Go.RowKit

theorem panE_zero {u g k : Int} {ls : List ByteArray} (h : panE u g k ls = 0) : btw ls.length 1 8 = true ∧ ls.all (lineOk u) = true ∧ (!(btw g 1 8) || !(btw k 1 8) || (g == k)) = false ∧ ¬ (panW u ls > 200 ∨ panH u ls.length > 200) := by
  unfold panE at h
  by_cases h1 : (!btw ls.length 1 8 || !ls.all (lineOk u) || (!btw g 1 8 || !btw k 1 8 || g == k)) = true
  · rw [if_pos h1] at h; cases h
  · rw [if_neg h1] at h
    by_cases h2 : panW u ls > 200 ∨ panH u ls.length > 200
    · rw [if_pos h2] at h; cases h
    · have h3 : (!btw ls.length 1 8 || !ls.all (lineOk u) || (!btw g 1 8 || !btw k 1 8 || g == k)) = false := by simpa using h1
      rw [Bool.or_eq_false_iff, Bool.or_eq_false_iff] at h3
      exact ⟨by simpa using h3.1.1, by simpa using h3.1.2, h3.2, h2⟩
theorem panE_unit {u g k : Int} {ls : List ByteArray} (h1 : btw ls.length 1 8 = true) (h : btw u 1 200 = false) : panE u g k ls = 2 := by
  apply panE_lines
  rw [List.all_eq_false]
  obtain ⟨n1, _⟩ := (btw_iff _ _ _).1 h1
  exact ⟨ls[0], List.getElem_mem (by omega), by unfold lineOk; rw [h]; simp⟩

set_option maxRecDepth 100000 in
set_option maxHeartbeats 4000000 in
theorem refPanel_two (u g k : Int) (a : Option Addr) (cap : Nat) (ls : List ByteArray) (w : World) (hlen : ls.length ≤ 9223372036854775807) (hbad : btw ls.length 1 8 = false ∨ btw u 1 200 = false ∨ (!(btw g 1 8) || !(btw k 1 8) || (g == k)) = true) :
    Calls Tryz.prog 6 #[.slice a ls.length cap, .int .i64 u, .int .i64 g, .int .i64 k] w (PanelEnd w u g k ls) := by
  have HQ : Hid (PanelEnd w u g k ls = FaceEnd w 0 0 0 [] 2) := Lib.hid (panelEnd_err (by
    by_cases h1 : btw ls.length 1 8 = true
    · rcases hbad with h | h | h
      · rw [h1] at h; cases h
      · exact panE_unit h1 h
      · exact panE_col h
    · exact panE_len (by simpa using h1)) (by decide))
  by_cases c1 : (ls.length : Int) < 1
  · have Hu : Hid True := Lib.hid trivial
    have Hg : Hid True := Lib.hid trivial
    have Hk : Hid True := Lib.hid trivial
    clear hbad
    go_enter Tryz.func6, Tryz.ntmps6
    go_wp2_with (first | (go_at_call 14; refine (within_any _ _ _ _).mono ?_; rintro e w' ⟨rfl, rfl⟩; first | rw [Hu.out] | rw [Hg.out] | rw [Hk.out]))
    rw [HQ.out]
    refine bodyPost_ret (v := .tuple #[.agg #[.int .i64 0, .int .i64 0, .int .i64 0, .slice none 0 0], .int .i64 2]) (by simp [results, Tryz.results6, go_sem]) rfl ⟨?_, none, 0, rfl, items_nil _⟩
    go_grown
  · by_cases c2 : 8 < (ls.length : Int)
    · have Hu : Hid True := Lib.hid trivial
      have Hg : Hid True := Lib.hid trivial
      have Hk : Hid True := Lib.hid trivial
      clear hbad
      go_enter Tryz.func6, Tryz.ntmps6
      go_wp2_with (first | (go_at_call 14; refine (within_any _ _ _ _).mono ?_; rintro e w' ⟨rfl, rfl⟩; first | rw [Hu.out] | rw [Hg.out] | rw [Hk.out]))
      rw [HQ.out]
      refine bodyPost_ret (v := .tuple #[.agg #[.int .i64 0, .int .i64 0, .int .i64 0, .slice none 0 0], .int .i64 2]) (by simp [results, Tryz.results6, go_sem]) rfl ⟨?_, none, 0, rfl, items_nil _⟩
      go_grown
    · have hb1 : btw ls.length 1 8 = true := (btw_iff _ _ _).2 ⟨by omega, by omega⟩
      rw [hb1] at hbad
      cases hu : btw u 1 200
      · have Hu := Lib.hid hu
        have Hg := Lib.hid hu
        have Hk := Lib.hid hu
        clear hbad hu hb1
        go_enter Tryz.func6, Tryz.ntmps6
        go_wp2_with (first | (go_at_call 14; refine (within_any _ _ _ _).mono ?_; rintro e w' ⟨rfl, rfl⟩; first | rw [Hu.out] | rw [Hg.out] | rw [Hk.out]))
        rw [HQ.out]
        refine bodyPost_ret (v := .tuple #[.agg #[.int .i64 0, .int .i64 0, .int .i64 0, .slice none 0 0], .int .i64 2]) (by simp [results, Tryz.results6, go_sem]) rfl ⟨?_, none, 0, rfl, items_nil _⟩
        go_grown
      · rw [hu] at hbad
        have hcol : (!(btw g 1 8) || !(btw k 1 8) || (g == k)) = true := by simpa using hbad
        have Hu := Lib.hid hu
        cases hg : btw g 1 8
        · have Hg := Lib.hid hg
          have Hk := Lib.hid hg
          clear hbad hu hb1 hg hcol
          go_enter Tryz.func6, Tryz.ntmps6
          go_wp2_with (first | (go_at_call 14; refine (within_any _ _ _ _).mono ?_; rintro e w' ⟨rfl, rfl⟩; first | rw [Hu.out] | rw [Hg.out] | rw [Hk.out]))
          rw [HQ.out]
          refine bodyPost_ret (v := .tuple #[.agg #[.int .i64 0, .int .i64 0, .int .i64 0, .slice none 0 0], .int .i64 2]) (by simp [results, Tryz.results6, go_sem]) rfl ⟨?_, none, 0, rfl, items_nil _⟩
          go_grown
        · have Hg := Lib.hid hg
          cases hk : btw k 1 8
          · have Hk := Lib.hid hk
            clear hbad hu hb1 hg hk hcol
            go_enter Tryz.func6, Tryz.ntmps6
            go_wp2_with (first | (go_at_call 14; refine (within_any _ _ _ _).mono ?_; rintro e w' ⟨rfl, rfl⟩; first | rw [Hu.out] | rw [Hg.out] | rw [Hk.out]))
            rw [HQ.out]
            refine bodyPost_ret (v := .tuple #[.agg #[.int .i64 0, .int .i64 0, .int .i64 0, .slice none 0 0], .int .i64 2]) (by simp [results, Tryz.results6, go_sem]) rfl ⟨?_, none, 0, rfl, items_nil _⟩
            go_grown
          · have Hk := Lib.hid hk
            have hgk : (g == k) = true := by rw [hg, hk] at hcol; simpa using hcol
            clear hbad hu hb1 hg hk hcol
            go_enter Tryz.func6, Tryz.ntmps6
            go_wp2_with (first | (go_at_call 14; refine (within_any _ _ _ _).mono ?_; rintro e w' ⟨rfl, rfl⟩; first | rw [Hu.out] | rw [Hg.out] | rw [Hk.out]))
            rw [HQ.out]
            refine bodyPost_ret (v := .tuple #[.agg #[.int .i64 0, .int .i64 0, .int .i64 0, .slice none 0 0], .int .i64 2]) (by simp [results, Tryz.results6, go_sem]) rfl ⟨?_, none, 0, rfl, items_nil _⟩
            go_grown

set_option maxRecDepth 100000 in
set_option maxHeartbeats 4000000 in
theorem refPanel_more (u g k : Int) (a : Option Addr) (cap : Nat) (ls : List ByteArray) (w : World) (hI : LinesAt w a ls) (h1 : btw ls.length 1 8 = true) (hu : btw u 1 200 = true) (hcol' : (!(btw g 1 8) || !(btw k 1 8) || (g == k)) = false) (hne : panE u g k ls ≠ 0) :
    Calls Tryz.prog 6 #[.slice a ls.length cap, .int .i64 u, .int .i64 g, .int .i64 k] w (PanelEnd w u g k ls) := by
  obtain ⟨hlen, hst, blk, off, hadr, hce⟩ := hI
  have HL := Lib.hid fun W (s : ByteArray) (hs : s.size ≤ maxLen) => refLength_any s u W hs
  obtain ⟨n1, n8⟩ := (btw_iff _ _ _).1 h1
  obtain ⟨u0, u1⟩ := (btw_iff _ _ _).1 hu
  have hg : btw g 1 8 = true := by revert hcol'; cases btw g 1 8 <;> simp
  have hk : btw k 1 8 = true := by revert hcol'; cases btw k 1 8 <;> simp
  have hgk : (g == k) = false := by revert hcol'; cases (g == k) <;> simp
  have H1 := Lib.hid h1
  have Hu := Lib.hid hu
  have Hg := Lib.hid hg
  have Hk := Lib.hid hk
  have HCol := Lib.hid hcol'
  have HNE := Lib.hid hne
  clear hg hk hcol' hu h1 hne
  obtain ⟨x, hx⟩ : ∃ x, (ls.length : Int) * u = x := ⟨_, rfl⟩
  obtain ⟨A1, hA1⟩ : ∃ x, (ls.length : Int) * 7 * u = x := ⟨_, rfl⟩
  obtain ⟨A2, hA2⟩ : ∃ x, ((ls.length : Int) - 1) * 4 * u = x := ⟨_, rfl⟩
  have x0 : 0 ≤ x := by rw [← hx]; exact Int.mul_nonneg (by omega) (by omega)
  have x1 : x ≤ 8 * 200 := by rw [← hx]; exact Int.mul_le_mul (by omega) u1 (by omega) (by omega)
  have eA1 : A1 = 7 * x := by rw [← hA1, ← hx, Int.mul_comm (ls.length : Int) 7, Int.mul_assoc]
  have eA2 : A2 = 4 * x - 4 * u := by rw [← hA2, ← hx, Int.mul_comm _ 4, Int.mul_assoc, Int.sub_mul, Int.mul_sub, Int.one_mul]
  have eQ : panN u ls.length = 11 * x + 2 * u := by unfold panN; rw [Int.add_mul, Int.mul_assoc, hx]
  obtain ⟨q, hq⟩ : ∃ q, A1 + A2 + 6 * u = q := ⟨_, rfl⟩
  have eN : panN u ls.length = q := by rw [eQ, ← hq, eA1, eA2]; omega
  have a0 : 0 ≤ A1 := by omega
  have a1 : A1 ≤ 20000 := by omega
  have a2 : -1000 ≤ A2 := by omega
  have a3 : A2 ≤ 20000 := by omega
  have q0 : 0 ≤ q := by omega
  have q1 : q ≤ 18000 := by omega
  have HA1 := Lib.hid hA1
  have HA2 := Lib.hid hA2
  have Hq := Lib.hid hq
  have HN := Lib.hid eN
  clear hA1 hA2 hx eA1 eA2 eQ x0 x1 hq eN
  go_enter Tryz.func6, Tryz.ntmps6
  go_wp2_with (first | (go_at_call 14; refine (within_any _ _ _ _).mono ?_; rintro e w' ⟨rfl, rfl⟩; first | rw [Hu.out] | rw [Hg.out] | rw [Hk.out]))
  go_loopw [10, 11] (fun m i wr => ∃ j : Nat, j ≤ ls.length ∧ i = .int .i64 j ∧ m = .int .i64 (longest u (ls.take j)) ∧ Hid ((ls.take j).all (lineOk u) = true) ∧ Below (w.alloc faceZero).heap.size (w.alloc faceZero) wr) (fun _ i _ => ls.length - (intOf i).toNat)
  case atStart => exact ⟨0, Nat.zero_le _, rfl, rfl, Lib.hid rfl, Below.refl _ _⟩
  case round =>
    obtain ⟨j, hj, rfl, rfl, HA, hb⟩ := hrel
    obtain ⟨hc, hf⟩ := bcell hb
    have hB := box_below hb
    have hbd := longest_bd u ls j
    by_cases hlt : j < ls.length
    · obtain rfl := hadr (fun h => by rw [h] at hlt; simp at hlt)
      have hcj := (hB.cell (p := ⟨blk, off + j, none⟩) (block_lt (hce j hlt))).trans (hce j hlt)
      have hsj := hst ls[j] (List.getElem_mem hlt)
      have HSN := Lib.hid (longest_snoc u ls j hlt)
      have HAN := Lib.hid (all_line u ls j hlt HA.out)
      have HNO := Lib.hid (all_line_no u ls j hlt)
      have hvb := lenV_bd ls[j] u
      have HC := Lib.hid (HL.out wr ls[j] hsj)
      clear hce hst hadr HA
      by_cases hok : lineOk u ls[j] = true
      · have He := Lib.hid (lenE_ok hok)
        have HA2' : Hid ((ls.take (j + 1)).all (lineOk u) = true) := Lib.hid (HAN.out.trans hok)
        clear HAN HNO hok
        generalize longest u (ls.take j) = m at *
        generalize ls[j] = s at *
        go_wp2_with (go_at_call 15; refine HC.out.mono ?_; rintro e w1 ⟨rfl, hb1⟩; rw [He.out])
        go_roundw
        case rel => exact ⟨j + 1, by omega, by go_num, by rw [HSN.out], HA2', hb.trans (hb1.mono hb.size)⟩
        case measure => simp [intOf]; omega
      · have hok' : lineOk u ls[j] = false := by simpa using hok
        have He := Lib.hid (lenE_bad hok')
        have HQ : Hid (PanelEnd w u g k ls = FaceEnd w 0 0 0 [] 2) := Lib.hid (panelEnd_err (panE_lines (HNO.out hok')) (by decide))
        clear HAN HNO hok hok'
        generalize longest u (ls.take j) = m at *
        generalize ls[j] = s at *
        go_wp2_with (go_at_call 15; refine HC.out.mono ?_; rintro e w1 ⟨rfl, hb1⟩; rw [He.out]; obtain ⟨hc1, hf1⟩ := bcell (hb.trans (hb1.mono hb.size)))
        rw [HQ.out]
        refine bodyPost_ret (v := .tuple #[.agg #[.int .i64 0, .int .i64 0, .int .i64 0, .slice none 0 0], .int .i64 2]) (by simp [results, Tryz.results6, go_sem, hc1]) rfl ⟨?_, none, 0, rfl, items_nil _⟩
        repeat (refine Below.setCell ?_ (by simp) _)
        exact hB.trans (hb1.mono hB.size)
    · have e : j = ls.length := by omega
      subst e
      have hall := HA.out
      rw [List.take_length] at hall
      have hz : w.heap.size < wr.heap.size := by have := hb.size; simp at this; omega
      rw [List.take_length] at hbd ⊢
      have hA1 := HA1.out
      have hA2 := HA2.out
      have hq := Hq.out
      obtain ⟨S, hS⟩ : ∃ S, (longest u ls + 6 * u + 4) / 5 * 5 = S := ⟨_, rfl⟩
      obtain ⟨H, hH⟩ : ∃ H, (q + 4) / 5 * 5 = H := ⟨_, rfl⟩
      have eS : panW u ls = S := by rw [← hS]; rfl
      have eH : panH u ls.length = H := by unfold panH; rw [HN.out, ← hH]
      have hwide : S > 200 ∨ H > 200 := by
        apply Classical.byContradiction
        intro hc
        exact HNE.out (panE_ok H1.out hall HCol.out (by rw [eS, eH]; exact hc))
      have HQ : Hid (PanelEnd w u g k ls = FaceEnd w 0 0 0 [] 11) := Lib.hid (panelEnd_err (panE_wide H1.out hall HCol.out (by rw [eS, eH]; exact hwide)) (by decide))
      clear HA hall eS eH
      by_cases hw1 : S ≤ 200
      · have hw2 : ¬ H ≤ 200 := by omega
        clear hwide
        go_wp2_with fail
        rw [HQ.out]
        refine bodyPost_ret (v := .tuple #[.agg #[.int .i64 0, .int .i64 0, .int .i64 0, .slice none 0 0], .int .i64 11]) (by simp [results, Tryz.results6, go_sem, hc, hz]) rfl ⟨?_, none, 0, rfl, items_nil _⟩
        exact ((((hB.setCell (by simp) _).setCell (by simp) _).setCell (by simp) _).setCell (by simp) _).alloc (by simp; omega) _
      · clear hwide
        go_wp2_with fail
        rw [HQ.out]
        refine bodyPost_ret (v := .tuple #[.agg #[.int .i64 0, .int .i64 0, .int .i64 0, .slice none 0 0], .int .i64 11]) (by simp [results, Tryz.results6, go_sem, hc, hz]) rfl ⟨?_, none, 0, rfl, items_nil _⟩
        exact ((((hB.setCell (by simp) _).setCell (by simp) _).setCell (by simp) _).setCell (by simp) _).alloc (by simp; omega) _

theorem panel_any (u g k : Int) (a : Option Addr) (cap : Nat) (ls : List ByteArray) (w : World) (hL : LettersAt w) (hI : LinesAt w a ls) :
    Calls Tryz.prog 5 #[.slice a ls.length cap, .int .i64 u, .int .i64 g, .int .i64 k] w (PanelEnd w u g k ls) := by
  by_cases h0 : panE u g k ls = 0
  · rw [panelEnd_ok h0]
    obtain ⟨h1, h2, h3, h4⟩ := panE_zero h0
    exact panel_ok u g k a cap ls w hL hI h1 h2 h3 h4
  · exact panel_err u g k a cap ls w hL hI h0
theorem refPanel_any (u g k : Int) (a : Option Addr) (cap : Nat) (ls : List ByteArray) (w : World) (hI : LinesAt w a ls) :
    Calls Tryz.prog 6 #[.slice a ls.length cap, .int .i64 u, .int .i64 g, .int .i64 k] w (PanelEnd w u g k ls) := by
  by_cases h0 : panE u g k ls = 0
  · rw [panelEnd_ok h0]
    obtain ⟨h1, h2, h3, h4⟩ := panE_zero h0
    exact refPanel_ok u g k a cap ls w hI h1 h2 h3 h4
  · by_cases h1 : btw ls.length 1 8 = true
    · by_cases hu : btw u 1 200 = true
      · by_cases hc : (!(btw g 1 8) || !(btw k 1 8) || (g == k)) = true
        · exact refPanel_two u g k a cap ls w hI.1 (.inr (.inr hc))
        · exact refPanel_more u g k a cap ls w hI h1 hu (by simpa using hc) h0
      · exact refPanel_two u g k a cap ls w hI.1 (.inr (.inl (by simpa using hu)))
    · exact refPanel_two u g k a cap ls w hI.1 (.inl (by simpa using h1))
end Go.Proofs.YtbogmdelceikgaaGreatDoor
