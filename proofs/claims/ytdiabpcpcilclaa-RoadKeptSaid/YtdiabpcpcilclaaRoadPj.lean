/-
  The reference's Joined. By an AI agent.
-/
import Derived.Test.YtdiabpcpcilclaaRoadV
import Derived.Deep.RegionHeld3
import Derived.Deep.DeepCutAuto
namespace Go.Proofs.Ytdiabpcpcilclaa
set_option linter.unusedVariables false
set_option linter.unusedSimpArgs false
open Go.RowKit

theorem owns_far {w w' : World} {base : Nat} {e : TypeId} {size : Nat} {v : Value} {n : Nat} {xs : List Value} (h : w.ownsRow base e size v n xs) (hb : ∀ g, base ≤ g → w'.heap[g]? = w.heap[g]?) : w'.ownsRow base e size v n xs := by
  refine ⟨h.1, ?_⟩
  rcases h.2 with h2 | ⟨g, cap, cur, h1, h2, h3, h4⟩
  · exact .inl h2
  · exact .inr ⟨g, cap, cur, h1, h2, by rw [hb g h2]; exact h3, h4⟩
theorem insK_len {x : Spn} {out : List Spn} : ∀ k, (insK x out k).1.length ≤ k + (if (insK x out k).2.2 then 1 else 0)
  | 0 => by simp [insK]
  | k + 1 => by
    have ih := insK_len (x := x) (out := out) k
    rw [insK]
    split
    · simp only [List.length_append, List.length_singleton]; omega
    · split
      · cases h : (insK x out k).2.2 with
        | true => rw [h] at ih; simp at ih ⊢; omega
        | false => rw [h] at ih; simp at ih ⊢; omega
      · simp only []; omega
/-- The state as it is in memory: x lies in the block B, the list in memory from B + 1 on. -/
def InsS (wu : World) (B : Nat) (st : List Spn × Spn × Bool) (v : Value) (wi : World) : Prop := wi.cell? ⟨B, 0, none⟩ = some (.int .i64 st.2.1.1) ∧ wi.cell? ⟨B, 1, none⟩ = some (.int .i64 st.2.1.2) ∧ wi.frozen? ⟨B, 0, none⟩ = false ∧ wi.frozen? ⟨B, 1, none⟩ = false ∧ wi.ownsRow (B + 1) 26 2 v st.1.length (clS st.1) ∧ Below B wu wi ∧ B < wi.heap.size
set_option maxRecDepth 100000 in
set_option maxHeartbeats 4000000 in
theorem joined_any (a : Option Addr) (l : List Spn) (ca : Nat) (w : World) (hA : PairsS w a l) (hn : l.length ≤ 10000000) (hV : AllV l) (hI : InV 10000000 l) :
    Calls Try.prog 42 #[.slice a l.length ca] w (OwnE w (canL l)) := by
  obtain ⟨n0, hi, hz0, hz1, hz2⟩ := info_parts spanInfo
  obtain ⟨-, -, blk, off, hadr, hcell⟩ := hA
  have HC := Lib.hid hcell
  have HL : Hid (0 < l.length → a = some ⟨blk, off, none⟩) := Lib.hid fun h => hadr (pos_ne (n := 0) h)
  have HK : Hid (∀ m, m ≤ l.length → InV 10000000 (jndK l m) ∧ (jndK l m).length ≤ m) := Lib.hid fun m hm => by
    obtain ⟨h1, h2, h3⟩ := jnd_canon hV m hm
    refine ⟨fun p hp => ?_, h3⟩
    have hv := h1.2 p hp
    obtain ⟨x, hx, x1, x2⟩ := (h2 p.1).1 ⟨p, hp, Int.le_refl _, hv⟩
    obtain ⟨y, hy, y1, y2⟩ := (h2 (p.2 - 1)).1 ⟨p, hp, by omega, by omega⟩
    have := hI x (List.mem_of_mem_take hx)
    have := hI y (List.mem_of_mem_take hy)
    omega
  have HJN : Hid (∀ m, jndK l (m + 1) = insL (gp l m) (jndK l m)) := Lib.hid fun m => rfl
  have HE : Hid (∀ W b c, W.ownsRow w.heap.size 26 2 (.slice b (jndK l l.length).length c) (jndK l l.length).length (clS (jndK l l.length)) → Below w.heap.size w W → OwnE w (canL l) (.returned (.slice b (jndK l l.length).length c)) W) := Lib.hid fun W b c h1 h2 => ⟨b, c, rfl, h1, h2⟩
  clear hcell hadr hV hI
  go_enter Try.func42, Try.ntmps42
  go_wp2_with fail
  go_loopw [3, 4] (fun v i wr => ∃ m : Nat, m ≤ l.length ∧ i = .int .i64 m ∧ (∃ a c, v = .slice a (jndK l m).length c) ∧ Hid (wr.ownsRow w.heap.size 26 2 v (jndK l m).length (clS (jndK l m))) ∧ Below w.heap.size w wr) (fun _ i _ => l.length - (intOf i).toNat)
  case atStart => exact ⟨0, Nat.zero_le _, rfl, ⟨none, 0, rfl⟩, Lib.hid ⟨rfl, .inl ⟨rfl, rfl⟩⟩, Below.refl _ _⟩
  case round =>
    obtain ⟨m, hm, rfl, ⟨ao, co, rfl⟩, HRow, hbu⟩ := hrel
    by_cases hlt : m < l.length
    · obtain rfl := HL.out (by omega)
      obtain ⟨e0, e1⟩ := HC.out m hlt
      have e0 := cell_below e0 hbu
      have e1 := cell_below e1 hbu
      obtain ⟨hki, hkl⟩ := HK.out m hm
      have HJn : Hid (jndK l (m + 1) = insL (gp l m) (jndK l m)) := Lib.hid (HJN.out m)
      have HPO : Hid (PairsS wr ao (jndK l m)) := Lib.hid (pairs_own HRow.out (by omega) fun j hj => inV_64 hki (Int.le_refl _) hj)
      obtain ⟨wu, rfl⟩ : ∃ wu : World, wu = wr := ⟨_, rfl⟩
      obtain ⟨X, hX⟩ : ∃ X : Spn, gp l m = X := ⟨_, rfl⟩
      obtain ⟨out, hO⟩ : ∃ out, jndK l m = out := ⟨_, rfl⟩
      rw [hX] at HJn e0 e1
      rw [hO] at HJn HPO hki hkl HRow ⊢
      have hmeasO : l.length - (m + 1) < l.length - m := by omega
      have hm1 : m + 1 ≤ l.length := by omega
      have hml : (m : Int) < (l.length : Int) := by omega
      have hol : out.length ≤ 10000000 := by omega
      obtain ⟨-, -, ob, oo, hoa, hoc⟩ := HPO.out
      have HOC := Lib.hid hoc
      have HOL : Hid (0 < out.length → ao = some ⟨ob, oo, none⟩) := Lib.hid fun h => hoa (pos_ne (n := 0) h)
      clear hX hO HPO HC HL HK HJN HE HRow hoa hoc hki
      go_wp2_with fail
      obtain ⟨B, hB⟩ : ∃ B, wu.heap.size = B := ⟨_, rfl⟩
      obtain ⟨wx, hwx⟩ : ∃ wx, wu.alloc (.cells #[.int .i64 X.1, .int .i64 X.2] 26) = wx := ⟨_, rfl⟩
      have HS0 : Hid (InsS wu B ([], X, false) (.slice none 0 0) wx) := Lib.hid (by
        rw [← hwx, ← hB]
        exact ⟨by simp [go_sem], by simp [go_sem], by simp [go_sem], by simp [go_sem], ⟨rfl, .inl ⟨rfl, rfl⟩⟩, (Below.refl _ _).alloc (Nat.le_refl _) _, by simp⟩)
      rw [hwx, hB]
      clear hwx e0 e1
      go_loopw [6, 7, 8] (fun v p i wi => ∃ k : Nat, k ≤ out.length ∧ i = .int .i64 k ∧ p = .bool (insK X out k).2.2 ∧ (∃ a c, v = .slice a (insK X out k).1.length c) ∧ InsS wu B (insK X out k) v wi) (fun _ _ i _ => out.length - (intOf i).toNat)
      case atStart => exact ⟨0, Nat.zero_le _, rfl, rfl, ⟨none, 0, rfl⟩, HS0.out⟩
      case round =>
        obtain ⟨k, hk, rfl, rfl, ⟨av, cv, rfl⟩, hst⟩ := hrel
        obtain ⟨wi, rfl⟩ : ∃ wi : World, wi = wr := ⟨_, rfl⟩
        by_cases hlk : k < out.length
        · obtain rfl := HOL.out (by omega)
          obtain ⟨d0, d1⟩ := HOC.out k hlk
          have hsl := insK_len (x := X) (out := out) k
          have HN : Hid (insK X out (k + 1) = if (gp out k).2 < (insK X out k).2.1.1 then ((insK X out k).1 ++ [gp out k], (insK X out k).2)
            else if (insK X out k).2.1.2 < (gp out k).1 then
              ((if (insK X out k).2.2 then (insK X out k).1 else (insK X out k).1 ++ [(insK X out k).2.1]) ++ [gp out k], (insK X out k).2.1, true)
            else ((insK X out k).1, hull (insK X out k).2.1 (gp out k), (insK X out k).2.2)) := Lib.hid rfl
          obtain ⟨x0, x1, f0, f1, hrow, hbi, hBi⟩ := hst
          have hB2 : wu.heap.size ≤ B := Nat.le_of_eq hB
          have d0 := (hbi.cell (p := ⟨ob, oo + k * 2, none⟩) (by rw [← hB]; exact block_lt d0)).trans d0
          have d1 := (hbi.cell (p := ⟨ob, oo + k * 2 + 1, none⟩) (by rw [← hB]; exact block_lt d1)).trans d1
          have HRow := Lib.hid hrow
          have hk1 : k + 1 ≤ out.length := by omega
          have hkl2 : (k : Int) < (out.length : Int) := by omega
          have hmeas : out.length - (k + 1) < out.length - k := by omega
          clear hrow HOC HOL HJn HS0 hB
          generalize insK X out k = st at *
          obtain ⟨nx, ⟨z0, z1⟩, pl⟩ := st
          obtain ⟨y, hy⟩ : ∃ y : Spn, gp out k = y := ⟨_, rfl⟩
          rw [hy] at HN d0 d1
          clear hy
          obtain ⟨y0, y1⟩ := y
          simp only [] at x0 x1 d0 d1 HN HRow hsl ⊢
          have hsl2 : nx.length ≤ 10000001 := by
            have : (if pl = true then 1 else 0) ≤ 1 := by split <;> omega
            omega
          clear hsl
          by_cases h1 : y1 < z0
          · have HN2 : Hid (insK X out (k + 1) = (nx ++ [(y0, y1)], (z0, z1), pl)) := Lib.hid (by rw [HN.out, if_pos h1])
            clear HN
            have HN := HN2
            clear HN2
            go_upto_region 14 with (fail)
            obtain ⟨wq, hwq⟩ : ∃ wq, wi.alloc (.cells #[.int .i64 y0, .int .i64 y1] 26) = wq := ⟨_, rfl⟩
            have hbq : Below (B + 1) wi wq := by rw [← hwq]; exact (Below.refl _ _).alloc (by omega) _
            have hqs : wi.heap.size < wq.heap.size := by rw [← hwq]; simp
            have j0 : wq.cell? ⟨wi.heap.size, 0, none⟩ = some (.int .i64 y0) := by rw [← hwq]; simp [go_sem]
            have j1 : wq.cell? ⟨wi.heap.size, 1, none⟩ = some (.int .i64 y1) := by rw [← hwq]; simp [go_sem]
            have x0' : wq.cell? ⟨B, 0, none⟩ = some (.int .i64 z0) := (hbq.cell (p := ⟨B, 0, none⟩) (Nat.lt_succ_self B)).trans x0
            have x1' : wq.cell? ⟨B, 1, none⟩ = some (.int .i64 z1) := (hbq.cell (p := ⟨B, 1, none⟩) (Nat.lt_succ_self B)).trans x1
            have hne : some wi.heap.size ≠ (Value.slice av nx.length cv).ownBlock := fun h => Nat.lt_irrefl _ (HRow.out.lt _ h.symm).2
            have HRow0 := HRow.out.alloc (.cells #[.int .i64 y0, .int .i64 y1] 26)
            rw [hwq] at HRow0 ⊢
            have HRow := Lib.hid HRow0
            have X0 := Lib.hid x0
            have X1 := Lib.hid x1
            have F0 := Lib.hid f0
            have F1 := Lib.hid f1
            clear HRow0 hwq d0 d1 x0 x1 f0 f1
            have hown := Lib.hid (HRow.out.alloc (.cells #[.int .i64 y0, .int .i64 y1] 26))
            have hbs : B + 1 ≤ wq.heap.size := by omega
            have hnw6 := Lib.hid (World.news_of_block (w := wq.alloc (.cells #[.int .i64 y0, .int .i64 y1] 26)) (B := wq.heap.size) (cs := #[.int .i64 y0, .int .i64 y1]) (t := 26) (fr := (0, 0)) (heap_alloc_new _ _))
            go_wp2_with (first | (at_builtin; go_loud (refine wpList_append_lies _ rfl _ _ 30 rfl (B + 1) 26 n0 _ 2 16 Try.underlying30 hi hz0 hz1 hz2 rfl (by decide) (.slice av nx.length cv) (nx.length) _ (by rfl) hown.out ⟨wq.heap.size, 0, none⟩ 1 1 [.int .i64 y0, .int .i64 y1] (by rfl) (by rfl) (by exact hnw6.out) (by simp [Value.oneCell']) (by decide) (by unfold maxLen; omega) (by omega) (by first | (simp; omega) | simp | omega) _ rfl ?_)))
            intro g6 c6 w6 hown6 hgrow6 hat6 hlt6
            have hb6 : Below (B + 1) wi w6 := ((hbq.alloc hbs _).grown hgrow6 (by first | (simp; omega) | simp | omega) (fun z hz => owns_block hown.out hz))
            have hin : Hid (InsS wu B (insK X out (k + 1)) (.slice (some ⟨g6, 0, none⟩) (nx.length + 1) c6) w6) := Lib.hid (by
              rw [HN.out]
              refine ⟨(hb6.cell (p := ⟨B, 0, none⟩) (Nat.lt_succ_self B)).trans X0.out, (hb6.cell (p := ⟨B, 1, none⟩) (Nat.lt_succ_self B)).trans X1.out, (hb6.frozen (p := ⟨B, 0, none⟩) (Nat.lt_succ_self B)).trans F0.out, (hb6.frozen (p := ⟨B, 1, none⟩) (Nat.lt_succ_self B)).trans F1.out, ?_, hbi.trans (hb6.mono (Nat.le_succ B)), Nat.lt_of_lt_of_le hBi hb6.size⟩
              have h := hown6
              simp only [List.length_append, List.length_singleton, clS_app]
              exact h)
            clear X0 X1 F0 F1 j0 j1 x0' x1' hgrow6 hat6 hown6 hown HRow hne
            go_wp2_with fail
            go_roundw
            case rel => exact ⟨k + 1, hk1, by go_num, by rw [HN.out], ⟨some ⟨g6, 0, none⟩, c6, by rw [HN.out]; simp⟩, by exact hin.out⟩
            case measure => first | (simp [intOf]; exact hmeas) | simpa [intOf] using hmeas

          · by_cases h2 : z1 < y0
            · cases pl with
              | true =>
                have HN2 : Hid (insK X out (k + 1) = (nx ++ [(y0, y1)], (z0, z1), true)) := Lib.hid (by rw [HN.out, if_neg h1, if_pos h2]; rfl)
                clear HN
                have HN := HN2
                clear HN2
                go_upto_region 18 with (fail)
                obtain ⟨wq, hwq⟩ : ∃ wq, wi.alloc (.cells #[.int .i64 y0, .int .i64 y1] 26) = wq := ⟨_, rfl⟩
                have hbq : Below (B + 1) wi wq := by rw [← hwq]; exact (Below.refl _ _).alloc (by omega) _
                have hqs : wi.heap.size < wq.heap.size := by rw [← hwq]; simp
                have j0 : wq.cell? ⟨wi.heap.size, 0, none⟩ = some (.int .i64 y0) := by rw [← hwq]; simp [go_sem]
                have j1 : wq.cell? ⟨wi.heap.size, 1, none⟩ = some (.int .i64 y1) := by rw [← hwq]; simp [go_sem]
                have x0' : wq.cell? ⟨B, 0, none⟩ = some (.int .i64 z0) := (hbq.cell (p := ⟨B, 0, none⟩) (Nat.lt_succ_self B)).trans x0
                have x1' : wq.cell? ⟨B, 1, none⟩ = some (.int .i64 z1) := (hbq.cell (p := ⟨B, 1, none⟩) (Nat.lt_succ_self B)).trans x1
                have hne : some wi.heap.size ≠ (Value.slice av nx.length cv).ownBlock := fun h => Nat.lt_irrefl _ (HRow.out.lt _ h.symm).2
                have HRow0 := HRow.out.alloc (.cells #[.int .i64 y0, .int .i64 y1] 26)
                rw [hwq] at HRow0 ⊢
                have HRow := Lib.hid HRow0
                have X0 := Lib.hid x0
                have X1 := Lib.hid x1
                have F0 := Lib.hid f0
                have F1 := Lib.hid f1
                clear HRow0 hwq d0 d1 x0 x1 f0 f1
                have hown := Lib.hid (HRow.out.alloc (.cells #[.int .i64 y0, .int .i64 y1] 26))
                have hbs : B + 1 ≤ wq.heap.size := by omega
                have hnw7 := Lib.hid (World.news_of_block (w := wq.alloc (.cells #[.int .i64 y0, .int .i64 y1] 26)) (B := wq.heap.size) (cs := #[.int .i64 y0, .int .i64 y1]) (t := 26) (fr := (0, 0)) (heap_alloc_new _ _))
                go_wp2_with (first | (at_builtin; go_loud (refine wpList_append_lies _ rfl _ _ 30 rfl (B + 1) 26 n0 _ 2 16 Try.underlying30 hi hz0 hz1 hz2 rfl (by decide) (.slice av nx.length cv) (nx.length) _ (by rfl) hown.out ⟨wq.heap.size, 0, none⟩ 1 1 [.int .i64 y0, .int .i64 y1] (by rfl) (by rfl) (by exact hnw7.out) (by simp [Value.oneCell']) (by decide) (by unfold maxLen; omega) (by omega) (by first | (simp; omega) | simp | omega) _ rfl ?_)))
                intro g7 c7 w7 hown7 hgrow7 hat7 hlt7
                have hb7 : Below (B + 1) wi w7 := ((hbq.alloc hbs _).grown hgrow7 (by first | (simp; omega) | simp | omega) (fun z hz => owns_block hown.out hz))
                have hin : Hid (InsS wu B (insK X out (k + 1)) (.slice (some ⟨g7, 0, none⟩) (nx.length + 1) c7) w7) := Lib.hid (by
                  rw [HN.out]
                  refine ⟨(hb7.cell (p := ⟨B, 0, none⟩) (Nat.lt_succ_self B)).trans X0.out, (hb7.cell (p := ⟨B, 1, none⟩) (Nat.lt_succ_self B)).trans X1.out, (hb7.frozen (p := ⟨B, 0, none⟩) (Nat.lt_succ_self B)).trans F0.out, (hb7.frozen (p := ⟨B, 1, none⟩) (Nat.lt_succ_self B)).trans F1.out, ?_, hbi.trans (hb7.mono (Nat.le_succ B)), Nat.lt_of_lt_of_le hBi hb7.size⟩
                  have h := hown7
                  simp only [List.length_append, List.length_singleton, clS_app]
                  exact h)
                clear X0 X1 F0 F1 j0 j1 x0' x1' hgrow7 hat7 hown7 hown HRow hne
                go_wp2_with fail
                go_roundw
                case rel => exact ⟨k + 1, hk1, by go_num, by rw [HN.out], ⟨some ⟨g7, 0, none⟩, c7, by rw [HN.out]; simp⟩, by exact hin.out⟩
                case measure => first | (simp [intOf]; exact hmeas) | simpa [intOf] using hmeas

              | false =>
                have HN2 : Hid (insK X out (k + 1) = (nx ++ [(z0, z1)] ++ [(y0, y1)], (z0, z1), true)) := Lib.hid (by rw [HN.out, if_neg h1, if_pos h2]; rfl)
                clear HN
                have HN := HN2
                clear HN2
                go_upto_region 17 with (fail)
                obtain ⟨wq, hwq⟩ : ∃ wq, wi.alloc (.cells #[.int .i64 y0, .int .i64 y1] 26) = wq := ⟨_, rfl⟩
                have hbq : Below (B + 1) wi wq := by rw [← hwq]; exact (Below.refl _ _).alloc (by omega) _
                have hqs : wi.heap.size < wq.heap.size := by rw [← hwq]; simp
                have j0 : wq.cell? ⟨wi.heap.size, 0, none⟩ = some (.int .i64 y0) := by rw [← hwq]; simp [go_sem]
                have j1 : wq.cell? ⟨wi.heap.size, 1, none⟩ = some (.int .i64 y1) := by rw [← hwq]; simp [go_sem]
                have x0' : wq.cell? ⟨B, 0, none⟩ = some (.int .i64 z0) := (hbq.cell (p := ⟨B, 0, none⟩) (Nat.lt_succ_self B)).trans x0
                have x1' : wq.cell? ⟨B, 1, none⟩ = some (.int .i64 z1) := (hbq.cell (p := ⟨B, 1, none⟩) (Nat.lt_succ_self B)).trans x1
                have hne : some wi.heap.size ≠ (Value.slice av nx.length cv).ownBlock := fun h => Nat.lt_irrefl _ (HRow.out.lt _ h.symm).2
                have HRow0 := HRow.out.alloc (.cells #[.int .i64 y0, .int .i64 y1] 26)
                rw [hwq] at HRow0 ⊢
                have HRow := Lib.hid HRow0
                have X0 := Lib.hid x0
                have X1 := Lib.hid x1
                have F0 := Lib.hid f0
                have F1 := Lib.hid f1
                clear HRow0 hwq d0 d1 x0 x1 f0 f1
                have hown := Lib.hid (HRow.out.alloc (.cells #[.int .i64 z0, .int .i64 z1] 26))
                have hbs : B + 1 ≤ wq.heap.size := by omega
                have hnw8 := Lib.hid (World.news_of_block (w := wq.alloc (.cells #[.int .i64 z0, .int .i64 z1] 26)) (B := wq.heap.size) (cs := #[.int .i64 z0, .int .i64 z1]) (t := 26) (fr := (0, 0)) (heap_alloc_new _ _))
                go_wp2_with (first | (at_builtin; go_loud (refine wpList_append_lies _ rfl _ _ 30 rfl (B + 1) 26 n0 _ 2 16 Try.underlying30 hi hz0 hz1 hz2 rfl (by decide) (.slice av nx.length cv) (nx.length) _ (by rfl) hown.out ⟨wq.heap.size, 0, none⟩ 1 1 [.int .i64 z0, .int .i64 z1] (by rfl) (by rfl) (by exact hnw8.out) (by simp [Value.oneCell']) (by decide) (by unfold maxLen; omega) (by omega) (by first | (simp; omega) | simp | omega) _ rfl ?_)))
                intro g8 c8 w8 hown8 hgrow8 hat8 hlt8
                have hb8 : Below (B + 1) wi w8 := ((hbq.alloc hbs _).grown hgrow8 (by first | (simp; omega) | simp | omega) (fun z hz => owns_block hown.out hz))
                have j0' : w8.cell? ⟨wi.heap.size, 0, none⟩ = some (.int .i64 y0) := ((gcellR hgrow8).1 wi.heap.size 0 (by simp; omega) hne).trans ((World.cell?_alloc_old _ _ ⟨wi.heap.size, 0, none⟩ (Nat.ne_of_lt (by omega))).trans j0)
                have j1' : w8.cell? ⟨wi.heap.size, 1, none⟩ = some (.int .i64 y1) := ((gcellR hgrow8).1 wi.heap.size 1 (by simp; omega) hne).trans ((World.cell?_alloc_old _ _ ⟨wi.heap.size, 1, none⟩ (Nat.ne_of_lt (by omega))).trans j1)
                have h8s := hb8.size
                have HRow := Lib.hid hown8
                clear j0 j1 x0' x1' hgrow8 hat8 hown hne hbs
                go_upto_region 18 with (fail)
                have hown := Lib.hid (HRow.out.alloc (.cells #[.int .i64 y0, .int .i64 y1] 26))
                have hbs : B + 1 ≤ w8.heap.size := by omega
                have hnw9 := Lib.hid (World.news_of_block (w := w8.alloc (.cells #[.int .i64 y0, .int .i64 y1] 26)) (B := w8.heap.size) (cs := #[.int .i64 y0, .int .i64 y1]) (t := 26) (fr := (0, 0)) (heap_alloc_new _ _))
                go_wp2_with (first | (at_builtin; go_loud (refine wpList_append_lies _ rfl _ _ 30 rfl (B + 1) 26 n0 _ 2 16 Try.underlying30 hi hz0 hz1 hz2 rfl (by decide) (.slice (some ⟨g8, 0, none⟩) (nx.length + 1) c8) ((nx.length + 1)) _ (by rfl) hown.out ⟨w8.heap.size, 0, none⟩ 1 1 [.int .i64 y0, .int .i64 y1] (by rfl) (by rfl) (by exact hnw9.out) (by simp [Value.oneCell']) (by decide) (by unfold maxLen; omega) (by omega) (by first | (simp; omega) | simp | omega) _ rfl ?_)))
                intro g9 c9 w9 hown9 hgrow9 hat9 hlt9
                have hb9 : Below (B + 1) wi w9 := ((hb8.alloc hbs _).grown hgrow9 (by first | (simp; omega) | simp | omega) (fun z hz => owns_block hown.out hz))
                have hin : Hid (InsS wu B (insK X out (k + 1)) (.slice (some ⟨g9, 0, none⟩) (nx.length + 1 + 1) c9) w9) := Lib.hid (by
                  rw [HN.out]
                  refine ⟨(hb9.cell (p := ⟨B, 0, none⟩) (Nat.lt_succ_self B)).trans X0.out, (hb9.cell (p := ⟨B, 1, none⟩) (Nat.lt_succ_self B)).trans X1.out, (hb9.frozen (p := ⟨B, 0, none⟩) (Nat.lt_succ_self B)).trans F0.out, (hb9.frozen (p := ⟨B, 1, none⟩) (Nat.lt_succ_self B)).trans F1.out, ?_, hbi.trans (hb9.mono (Nat.le_succ B)), Nat.lt_of_lt_of_le hBi hb9.size⟩
                  have h := hown9
                  have e1 : (nx ++ [(z0, z1)] ++ [(y0, y1)]).length = nx.length + 1 + 1 := by simp
                  have e2 : clS (nx ++ [(z0, z1)] ++ [(y0, y1)]) = clS nx ++ [.int .i64 z0, .int .i64 z1, .int .i64 y0, .int .i64 y1] := by simp [clS]
                  show w9.ownsRow _ _ _ _ (nx ++ [(z0, z1)] ++ [(y0, y1)]).length (clS (nx ++ [(z0, z1)] ++ [(y0, y1)]))
                  rw [e1, e2]
                  first | exact h | simpa using h)
                clear X0 X1 F0 F1 j0' j1' hgrow9 hat9 hown9 hown hown8 HRow
                go_wp2_with fail
                go_roundw
                case rel => exact ⟨k + 1, hk1, by go_num, by rw [HN.out], ⟨some ⟨g9, 0, none⟩, c9, by rw [HN.out]; simp⟩, by exact hin.out⟩
                case measure => first | (simp [intOf]; exact hmeas) | simpa [intOf] using hmeas

            · have HN2 : Hid (insK X out (k + 1) = (nx, (min z0 y0, max z1 y1), pl)) := Lib.hid (by rw [HN.out, if_neg h1, if_neg h2]; rfl)
              clear HN
              have HN := HN2
              clear HN2
              go_upto_region 12 with (fail)
              obtain ⟨wq, hwq⟩ : ∃ wq, wi.alloc (.cells #[.int .i64 y0, .int .i64 y1] 26) = wq := ⟨_, rfl⟩
              have hbq : Below (B + 1) wi wq := by rw [← hwq]; exact (Below.refl _ _).alloc (by omega) _
              have hqs : wi.heap.size < wq.heap.size := by rw [← hwq]; simp
              have j0 : wq.cell? ⟨wi.heap.size, 0, none⟩ = some (.int .i64 y0) := by rw [← hwq]; simp [go_sem]
              have j1 : wq.cell? ⟨wi.heap.size, 1, none⟩ = some (.int .i64 y1) := by rw [← hwq]; simp [go_sem]
              have x0' : wq.cell? ⟨B, 0, none⟩ = some (.int .i64 z0) := (hbq.cell (p := ⟨B, 0, none⟩) (Nat.lt_succ_self B)).trans x0
              have x1' : wq.cell? ⟨B, 1, none⟩ = some (.int .i64 z1) := (hbq.cell (p := ⟨B, 1, none⟩) (Nat.lt_succ_self B)).trans x1
              have hne : some wi.heap.size ≠ (Value.slice av nx.length cv).ownBlock := fun h => Nat.lt_irrefl _ (HRow.out.lt _ h.symm).2
              have HRow0 := HRow.out.alloc (.cells #[.int .i64 y0, .int .i64 y1] 26)
              rw [hwq] at HRow0 ⊢
              have HRow := Lib.hid HRow0
              have X0 := Lib.hid x0
              have X1 := Lib.hid x1
              have F0 := Lib.hid f0
              have F1 := Lib.hid f1
              clear HRow0 hwq d0 d1 x0 x1 f0 f1
              have f0' : wq.frozen? ⟨B, 0, none⟩ = false := (hbq.frozen (p := ⟨B, 0, none⟩) (Nat.lt_succ_self B)).trans F0.out
              have f1' : wq.frozen? ⟨B, 1, none⟩ = false := (hbq.frozen (p := ⟨B, 1, none⟩) (Nat.lt_succ_self B)).trans F1.out
              have hin : Hid (InsS wu B (insK X out (k + 1)) (.slice av nx.length cv) ((wq.setCell ⟨B, 0, none⟩ (.int .i64 (min z0 y0))).setCell ⟨B, 1, none⟩ (.int .i64 (max z1 y1)))) := Lib.hid (by
                rw [HN.out]
                refine ⟨by simp [go_sem, x0', x1'], by simp [go_sem, x0', x1'], by simp [go_sem, f0', f1'], by simp [go_sem, f0', f1'], ?_, ?_, by simp; omega⟩
                · exact owns_far HRow.out fun g hg => by rw [Below.heap_setCell _ _ _ _ (by show g ≠ B; omega), Below.heap_setCell _ _ _ _ (by show g ≠ B; omega)]
                · exact ((hbi.trans (hbq.mono (Nat.le_succ B))).setCell (p := ⟨B, 0, none⟩) (Nat.le_refl B) _).setCell (p := ⟨B, 1, none⟩) (Nat.le_refl B) _)
              clear X0 X1 F0 F1 HRow hne
              go_wp2_with fail
              go_roundw
              case rel => exact ⟨k + 1, hk1, by go_num, by rw [HN.out], ⟨av, cv, by rw [HN.out]⟩, by exact hin.out⟩
              case measure => first | (simp [intOf]; exact hmeas) | simpa [intOf] using hmeas

        · obtain rfl : k = out.length := by omega
          have hsl := insK_len (x := X) (out := out) out.length
          have HJ : Hid (jndK l (m + 1) = if (insK X out out.length).2.2 then (insK X out out.length).1 else (insK X out out.length).1 ++ [(insK X out out.length).2.1]) := Lib.hid HJn.out
          obtain ⟨x0, x1, f0, f1, hrow, hbi, hBi⟩ := hst
          have HRow := Lib.hid hrow
          clear hrow
          generalize insK X out out.length = st at *
          obtain ⟨nx, ⟨z0, z1⟩, pl⟩ := st
          simp only [] at x0 x1 HRow HJ hsl ⊢
          have HE : Hid (∀ b c n W, W.ownsRow (B + 1) 26 2 (.slice b n c) (jndK l (m + 1)).length (clS (jndK l (m + 1))) → n = (jndK l (m + 1)).length → Below B wu W → (∃ a c', Value.slice b n c = .slice a (jndK l (m + 1)).length c') ∧ Hid (W.ownsRow w.heap.size 26 2 (.slice b n c) (jndK l (m + 1)).length (clS (jndK l (m + 1)))) ∧ Below w.heap.size w W) := Lib.hid fun b c n W h1 h2 h3 => ⟨⟨b, c, by rw [h2]⟩, Lib.hid (owns_base h1 (by have := hbu.size; omega)), by rw [← hB] at h3; exact below_on hbu h3⟩
          cases pl with
          | true =>
            have hj := HJ.out
            rw [if_pos rfl] at hj
            have hE := Lib.hid (HE.out av cv nx.length wi (by rw [hj]; exact HRow.out) (by rw [hj]) hbi)
            clear HE HJ HJn HRow x0 x1 f0 f1 hj
            go_wp2_with fail
            go_roundw
            case rel => exact ⟨m + 1, hm1, by go_num, hE.out.1, hE.out.2.1, hE.out.2.2⟩
            case measure => first | (simp [intOf]; exact hmeasO) | simpa [intOf] using hmeasO
          | false =>
            have hj := HJ.out
            rw [if_neg (by simp)] at hj
            have hsl2 : nx.length ≤ 10000000 := by simp at hsl; omega
            go_upto_region 20 with (fail)
            have hbi1 : Below (B + 1) wi wi := Below.refl _ _
            have hown := Lib.hid (HRow.out.alloc (.cells #[.int .i64 z0, .int .i64 z1] 26))
            have hbs : B + 1 ≤ wi.heap.size := by omega
            have hnw5 := Lib.hid (World.news_of_block (w := wi.alloc (.cells #[.int .i64 z0, .int .i64 z1] 26)) (B := wi.heap.size) (cs := #[.int .i64 z0, .int .i64 z1]) (t := 26) (fr := (0, 0)) (heap_alloc_new _ _))
            go_wp2_with (first | (at_builtin; go_loud (refine wpList_append_lies _ rfl _ _ 30 rfl (B + 1) 26 n0 _ 2 16 Try.underlying30 hi hz0 hz1 hz2 rfl (by decide) (.slice av nx.length cv) (nx.length) _ (by rfl) hown.out ⟨wi.heap.size, 0, none⟩ 1 1 [.int .i64 z0, .int .i64 z1] (by rfl) (by rfl) (by exact hnw5.out) (by simp [Value.oneCell']) (by decide) (by unfold maxLen; omega) (by omega) (by first | (simp; omega) | simp | omega) _ rfl ?_)))
            intro g5 c5 w5 hown5 hgrow5 hat5 hlt5
            have hb5 : Below (B + 1) wi w5 := ((hbi1.alloc hbs _).grown hgrow5 (by first | (simp; omega) | simp | omega) (fun z hz => owns_block hown.out hz))
            have hE := Lib.hid (HE.out (some ⟨g5, 0, none⟩) c5 (nx.length + 1) w5 (by
              have h := hown5
              rw [hj]
              simp only [List.length_append, List.length_singleton, clS_app]
              exact h) (by rw [hj]; simp) (hbi.trans (hb5.mono (Nat.le_succ B))))
            clear HE HJ HJn HRow x0 x1 f0 f1 hj hown hown5 hgrow5 hat5
            go_wp2_with fail
            go_roundw
            case rel => exact ⟨m + 1, hm1, by go_num, hE.out.1, hE.out.2.1, hE.out.2.2⟩
            case measure => first | (simp [intOf]; exact hmeasO) | simpa [intOf] using hmeasO

    · obtain rfl : m = l.length := by omega
      have hE := Lib.hid (HE.out _ _ _ HRow.out hbu)
      clear HC HL HK HJN HE HRow
      go_wp2_with fail
      go_ret
      exact hE.out
end Go.Proofs.Ytdiabpcpcilclaa
