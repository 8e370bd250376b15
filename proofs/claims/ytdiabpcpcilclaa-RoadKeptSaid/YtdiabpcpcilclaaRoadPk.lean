/-
  The reference's left and Metres. By an AI agent.
-/
import Derived.Test.YtdiabpcpcilclaaRoadH
import Derived.Deep.RegionHeld3
import Derived.BigRegion
import Derived.StillTailTactics
import Derived.Deep.DeepCutAuto
namespace Go.Proofs.Ytdiabpcpcilclaa
set_option linter.unusedVariables false
set_option linter.unusedSimpArgs false
open Go.RowKit

/-- What left returns: the stretches that are left, in memory of its own. -/
def LefE (w : World) (q : List Spn) (e : Ending) (w' : World) : Prop := ∃ b c, e = .returned (.slice b q.length c) ∧ w'.ownsRow w.heap.size 26 2 (.slice b q.length c) q.length (clS q) ∧ Below w.heap.size w w'
set_option maxRecDepth 100000 in
set_option maxHeartbeats 4000000 in
theorem left_any (A B D : Int) (aq : Option Addr) (q : List Spn) (cq : Nat) (len len' : Int) (w : World) (hP : PairsS w aq q) (hs : swOk len len' (A, B, D)) (hq : InV len q) (hsum : sumL q ≤ 10000000) :
    Calls Try.prog 44 #[.agg #[.int .i64 A, .int .i64 B, .int .i64 D], .slice aq q.length cq] w (LefE w (stepL (A, B, D) q)) := by
  obtain ⟨i0, hi, hz0, hz1, hz2⟩ := info_parts spanInfo
  have n0 := i0
  obtain ⟨n0, hi, hz0, hz1, hz2⟩ := info_parts spanInfo
  obtain ⟨hlen, -, bq, oq, hadr, hc⟩ := hP
  have HC := Lib.hid hc
  have HL : Hid (0 < q.length → aq = some ⟨bq, oq, none⟩) := Lib.hid fun h => hadr (pos_ne (n := 0) h)
  have HPL := Lib.hid (fun m => part_len hs hq hsum m)
  have HIn := Lib.hid hq
  have hsb := sw_bd hs
  have hlx := hs.2.2.2.1
  have HSt := Lib.hid (fun m (hm : m < q.length) => stepL_take (s := (A, B, D)) (q := q) hm)
  obtain ⟨⟨A0, A1⟩, ⟨B0, B1⟩, D0, D1⟩ := hsb
  obtain ⟨l0, l1⟩ := hlx
  simp only [] at A0 A1 B0 B1 D0 D1
  clear hc hadr hs hq hsum
  go_enter Try.func44, Try.ntmps44
  go_wp2_with fail
  obtain ⟨wo, hwo⟩ : ∃ wo, w.alloc (.cells #[.int .i64 A, .int .i64 B, .int .i64 D] 76) = wo := ⟨_, rfl⟩
  have hbo : Below w.heap.size w wo := by rw [← hwo]; exact (Below.refl _ _).alloc (Nat.le_refl _) _
  have s0 : wo.cell? ⟨w.heap.size, 0, none⟩ = some (.int .i64 A) := by rw [← hwo]; simp [go_sem]
  have s1 : wo.cell? ⟨w.heap.size, 1, none⟩ = some (.int .i64 B) := by rw [← hwo]; simp [go_sem]
  have s2 : wo.cell? ⟨w.heap.size, 2, none⟩ = some (.int .i64 D) := by rw [← hwo]; simp [go_sem]
  rw [hwo]
  clear hwo
  go_loopw [5, 6] (fun v i wr => ∃ m : Nat, m ≤ q.length ∧ i = .int .i64 m ∧ (∃ a c, v = .slice a (stepL (A, B, D) (q.take m)).length c) ∧ Hid (wr.ownsRow wo.heap.size 26 2 v (stepL (A, B, D) (q.take m)).length (clS (stepL (A, B, D) (q.take m)))) ∧ Below wo.heap.size wo wr) (fun _ i _ => q.length - (intOf i).toNat)
  case atStart => exact ⟨0, Nat.zero_le _, rfl, ⟨none, 0, rfl⟩, Lib.hid ⟨rfl, .inl ⟨rfl, rfl⟩⟩, Below.refl _ _⟩
  case round =>
    obtain ⟨m, hm, rfl, ⟨av, cv, rfl⟩, HRow, hbr⟩ := hrel
    by_cases hmt : m < q.length
    · obtain rfl := HL.out (by omega)
      have HL0 := HL
      clear HL0
      obtain ⟨e0, e1⟩ := HC.out m hmt
      have E0 := Lib.hid e0
      have E1 := Lib.hid e1
      have S0 := Lib.hid s0
      have S1 := Lib.hid s1
      have S2 := Lib.hid s2
      have e0 := cell_below e0 (below_on hbo hbr)
      have e1 := cell_below e1 (below_on hbo hbr)
      have s0 := cell_below s0 hbr
      have s1 := cell_below s1 hbr
      have s2 := cell_below s2 hbr
      obtain ⟨x0, xy, y1⟩ := HIn.out _ (gp_mem hmt)
      have HStm := Lib.hid (HSt.out m hmt)
      have hlm := HPL.out (m + 1)
      have hlm0 := HPL.out m
      have HK : Hid (keptStep (A, B, D) (gp q m) = keepL ((gp q m).1, min (gp q m).2 A) (max (gp q m).1 (A + B) + (D - B), (gp q m).2 + (D - B))) := Lib.hid rfl
      obtain ⟨M, hM⟩ : ∃ M, stepL (A, B, D) (q.take m) = M := ⟨_, rfl⟩
      rw [hM] at HRow HStm hlm0 ⊢
      rw [HStm.out, List.length_append] at hlm
      obtain ⟨P, hP⟩ : ∃ P, keptStep (A, B, D) (gp q m) = P := ⟨_, rfl⟩
      rw [hP] at HStm hlm HK
      clear hM hP HPL HSt HIn HC HL
      generalize (gp q m).1 = x at *
      generalize (gp q m).2 = y at *
      have hmlt : (m : Int) < (q.length : Int) := by omega
      have hmz : (0 : Int) ≤ (m : Int) := by omega
      have hmeas : q.length - (m + 1) < q.length - m := by omega
      have hm1 : m + 1 ≤ q.length := by omega
      obtain ⟨nn, hnn⟩ : ∃ nn, min y A = nn := ⟨_, rfl⟩
      obtain ⟨mx, hmx⟩ : ∃ mx, max x (A + B) = mx := ⟨_, rfl⟩
      have wAB : IntKind.i64.wrap (A + B) = A + B := IntWalk.i64_in _ (by omega)
      rw [hnn, hmx] at HK
      have hnn0 : 0 ≤ nn := by omega
      have hnn1 : nn ≤ 10000000 := by omega
      have hmx0 : 0 ≤ mx := by omega
      have hmx1 : mx ≤ 20000000 := by omega
      have hyb : y ≤ 10000000 := by omega
      go_wp2_with fail
      have z0 := block_lt e0
      have z1 := block_lt s0
      have n0' : bq ≠ wr.heap.size := by omega
      have n1' : w.heap.size ≠ wr.heap.size := by omega
      have qa : ∀ c o, ((wr.alloc (.cells c 26)).drew).cell? ⟨bq, o, none⟩ = wr.cell? ⟨bq, o, none⟩ := fun c o => (((Below.refl _ _).alloc (Nat.le_refl _) _ : Below wr.heap.size wr (wr.alloc (.cells c 26))).drew).cell (p := ⟨bq, o, none⟩) z0
      have qb : ∀ c o, ((wr.alloc (.cells c 26)).drew).cell? ⟨w.heap.size, o, none⟩ = wr.cell? ⟨w.heap.size, o, none⟩ := fun c o => (((Below.refl _ _).alloc (Nat.le_refl _) _ : Below wr.heap.size wr (wr.alloc (.cells c 26))).drew).cell (p := ⟨w.heap.size, o, none⟩) z1
      go_region

      obtain ⟨wX, hwX⟩ : ∃ wz, (wr.alloc (.cells #[.int .i64 x, .int .i64 nn] 26)).drew = wz := ⟨_, rfl⟩
      have hxx : Below wr.heap.size wr wX := by rw [← hwX]; exact ((Below.refl _ _).alloc (Nat.le_refl _) _).drew
      have b0 : wX.cell? ⟨wr.heap.size, 0, none⟩ = some (.int .i64 x) := by rw [← hwX]; simp [go_sem]
      have b1 : wX.cell? ⟨wr.heap.size, 1, none⟩ = some (.int .i64 nn) := by rw [← hwX]; simp [go_sem]
      rw [hwX]
      clear hwX qa qb
      have hbX := below_on hbr hxx
      have HRow := Lib.hid (owns_below HRow.out hxx)
      have e0 := cell_below e0 hxx
      have e1 := cell_below e1 hxx
      have s0 := cell_below s0 hxx
      have s1 := cell_below s1 hxx
      have s2 := cell_below s2 hxx
      clear hxx z0 z1 n0' n1'
      obtain ⟨P1, hP1⟩ : ∃ P1 : List Spn, (if x < nn then [(x, nn)] else []) = P1 := ⟨_, rfl⟩
      obtain ⟨P2, hP2⟩ : ∃ P2 : List Spn, (if mx < y then [(mx + (D - B), y + (D - B))] else []) = P2 := ⟨_, rfl⟩
      have HP2 := Lib.hid hP2.symm
      obtain ⟨M1, hM1⟩ : ∃ M1, M ++ P1 = M1 := ⟨_, rfl⟩
      have hPP : P = P1 ++ P2 := by
        rw [HK.out]
        unfold keepL
        simp only []
        rw [hP1, ← hP2]
        by_cases g : mx < y
        · rw [if_pos g, if_pos (by omega)]
        · rw [if_neg g, if_neg (by omega)]
      have HM2 : Hid (stepL (A, B, D) (q.take (m + 1)) = M1 ++ P2) := Lib.hid (by rw [HStm.out, hPP, ← hM1, List.append_assoc])
      have hM1l : M1.length ≤ 10000000 := by
        have h1 : P.length = P1.length + P2.length := by rw [hPP, List.length_append]
        have h2 : M1.length = M.length + P1.length := by rw [← hM1, List.length_append]
        omega
      have HM1 := Lib.hid hM1
      have HP1 := Lib.hid hP1
      clear HK HStm hPP hlm hlm0 hP1 hP2 hM1
      go_upto_if 33 with (fail)
      go_cut [5] (fun v wx => (∃ a c, v = .slice a M1.length c) ∧ Hid (wx.ownsRow wo.heap.size 26 2 v M1.length (clS M1)) ∧ Below wo.heap.size wo wx)
      case first =>
        by_cases hx : x < nn
        · have hnx : Hid (M.length + 1 = M1.length ∧ clS M ++ [.int .i64 x, .int .i64 nn] = clS M1) := Lib.hid (by
            rw [← HM1.out, ← HP1.out, if_pos hx, clS_app]
            exact ⟨by simp, rfl⟩)
          have hml : M.length ≤ 10000000 := by have := hnx.out.1; omega
          clear HM1 HP1 HM2 HP2
          have hown := Lib.hid (HRow.out.alloc (.cells #[.int .i64 x, .int .i64 nn] 26))
          have hbs := hbX.size
          go_wp2_with (first | (at_builtin; go_loud (refine wpList_append_lies _ rfl _ _ 30 rfl wo.heap.size 26 n0 _ 2 16 Try.underlying30 hi hz0 hz1 hz2 rfl (by decide) (.slice av M.length cv) M.length _ (by rfl) hown.out ⟨wX.heap.size, 0, none⟩ 1 1 [.int .i64 x, .int .i64 nn] (by rfl) (by rfl) ?d1 ?d2 (by decide) ?d3 ?d4 ?d5 _ rfl ?_)))
          case d1 =>
            refine World.news_of_block (cs := #[.int .i64 x, .int .i64 nn]) (t := 26) (fr := (0, 0)) ?_
            exact heap_alloc_new _ _
          case d2 => simp [Value.oneCell']
          case d3 => unfold maxLen; omega
          case d4 => omega
          case d5 => first | (simp; omega) | simp | omega
          intro g6 c6 w6 hown6 hgrow6 hat6 hlt6
          have hb6 : Below wo.heap.size wo w6 := ((hbX.alloc hbs _).grown hgrow6 (by first | (simp; omega) | simp | omega) (fun z hz => owns_block hown.out hz))

          go_wp2_with fail
          go_meet
          exact ⟨⟨_, c6, by rw [← hnx.out.1]⟩, Lib.hid (by rw [← hnx.out.1, ← hnx.out.2]; exact hown6), hb6⟩
        · have hnx : Hid (M.length = M1.length ∧ clS M = clS M1) := Lib.hid (by
            rw [← HM1.out, ← HP1.out, if_neg hx, List.append_nil]
            exact ⟨rfl, rfl⟩)
          clear HM1 HP1 HM2 HP2
          go_wp2_with fail
          go_meet
          exact ⟨⟨av, cv, by rw [← hnx.out.1]⟩, Lib.hid (by rw [← hnx.out.1, ← hnx.out.2]; exact HRow.out), hbX⟩
      case rest =>
        clear HRow hbX e0 e1 s0 s1 s2 b0 b1 HM1 HP1
        obtain ⟨⟨av2, cv2, rfl⟩, HRow, hbP⟩ := hcut
        obtain ⟨wP, rfl⟩ : ∃ wP : World, wP = wc := ⟨_, rfl⟩
        have e0 := cell_below E0.out (below_on hbo hbP)
        have e1 := cell_below E1.out (below_on hbo hbP)
        have s0 := cell_below S0.out hbP
        have s1 := cell_below S1.out hbP
        have s2 := cell_below S2.out hbP
        go_wp2_with fail
        go_upto_region 8 with (fail)
        go_cut [8] (fun v wx => ∃ g : Nat, v = .pointer (some ⟨g, 0, none⟩) ∧ wx.cell? ⟨g, 0, none⟩ = some (.int .i64 mx) ∧ wx.cell? ⟨g, 1, none⟩ = some (.int .i64 y) ∧ Below wP.heap.size wP wx)
        case first =>
          clear HRow HM2 HP2
          have z0 := block_lt e0
          have z1 := block_lt s0
          go_region_held3 (fun w' => w'.cell? ⟨bq, oq + m * 2, none⟩ = some (.int .i64 x) ∧ w'.cell? ⟨bq, oq + m * 2 + 1, none⟩ = some (.int .i64 y) ∧ w'.cell? ⟨w.heap.size, 0, none⟩ = some (.int .i64 A) ∧ w'.cell? ⟨w.heap.size, 1, none⟩ = some (.int .i64 B)) (go_keep) (fail)
          all_goals
            obtain ⟨wY, hwX⟩ : ∃ wz, (wP.alloc (.cells #[.int .i64 mx, .int .i64 y] 26)).drew = wz := ⟨_, rfl⟩
            have hxx : Below wP.heap.size wP wY := by rw [← hwX]; exact ((Below.refl _ _).alloc (Nat.le_refl _) _).drew
            have c0 : wY.cell? ⟨wP.heap.size, 0, none⟩ = some (.int .i64 mx) := by rw [← hwX]; simp [go_sem]
            have c1 : wY.cell? ⟨wP.heap.size, 1, none⟩ = some (.int .i64 y) := by rw [← hwX]; simp [go_sem]
            rw [hwX]
            clear hwX
            have HX := Lib.hid (And.intro c0 (And.intro c1 hxx))
            clear c0 c1 hxx hnn hmx wAB
            go_wp2_with fail
            go_meet
            exact ⟨_, rfl, HX.out.1, HX.out.2.1, HX.out.2.2⟩
        case rest =>
          clear e0 e1 s0 s1 s2
          obtain ⟨bg, rfl, c0, c1, hxx⟩ := hcut
          obtain ⟨wY, rfl⟩ : ∃ wY : World, wY = wc := ⟨_, rfl⟩
          have hbY := below_on hbP hxx
          have HRow := Lib.hid (owns_below HRow.out hxx)
          have e0 := cell_below E0.out (below_on hbo hbY)
          have e1 := cell_below E1.out (below_on hbo hbY)
          have s0 := cell_below S0.out hbY
          have s1 := cell_below S1.out hbY
          have s2 := cell_below S2.out hbY
          clear hxx hnn hmx wAB E0 E1 S0 S1 S2
          by_cases hy : mx < y
          · have hPe : P2 = [(mx + (D - B), y + (D - B))] := by rw [HP2.out, if_pos hy]
            have hnx : Hid (M1.length + 1 = (stepL (A, B, D) (q.take (m + 1))).length ∧ clS M1 ++ [.int .i64 (mx + D - B), .int .i64 (y + D - B)] = clS (stepL (A, B, D) (q.take (m + 1)))) := Lib.hid (by
              rw [HM2.out, hPe, show mx + D - B = mx + (D - B) by omega, show y + D - B = y + (D - B) by omega, clS_app]
              exact ⟨by simp, rfl⟩)
            clear HM2 hPe HP2
            have hown := Lib.hid (HRow.out.alloc (.cells #[.int .i64 (mx + D - B), .int .i64 (y + D - B)] 26))
            have hbs := hbY.size
            go_wp2_with (first | (at_builtin; go_loud (refine wpList_append_lies _ rfl _ _ 30 rfl wo.heap.size 26 n0 _ 2 16 Try.underlying30 hi hz0 hz1 hz2 rfl (by decide) (.slice av2 M1.length cv2) M1.length _ (by rfl) hown.out ⟨wY.heap.size, 0, none⟩ 1 1 [.int .i64 (mx + D - B), .int .i64 (y + D - B)] (by rfl) (by rfl) ?d1 ?d2 (by decide) ?d3 ?d4 ?d5 _ rfl ?_)))
            case d1 =>
              refine World.news_of_block (cs := #[.int .i64 (mx + D - B), .int .i64 (y + D - B)]) (t := 26) (fr := (0, 0)) ?_
              exact heap_alloc_new _ _
            case d2 => simp [Value.oneCell']
            case d3 => unfold maxLen; omega
            case d4 => omega
            case d5 => first | (simp; omega) | simp | omega
            intro g6 c6 w6 hown6 hgrow6 hat6 hlt6
            have hb6 : Below wo.heap.size wo w6 := ((hbY.alloc hbs _).grown hgrow6 (by first | (simp; omega) | simp | omega) (fun z hz => owns_block hown.out hz))

            go_wp2_with fail
            go_roundw
            case rel => exact ⟨m + 1, hm1, by go_num, ⟨_, c6, by rw [← hnx.out.1]⟩, Lib.hid (by rw [← hnx.out.1, ← hnx.out.2]; exact hown6), hb6⟩
            case measure => first | (simp [intOf]; exact hmeas) | simpa [intOf] using hmeas
          · have hPe : P2 = [] := by rw [HP2.out, if_neg hy]
            have hnx : Hid (M1.length = (stepL (A, B, D) (q.take (m + 1))).length ∧ clS M1 = clS (stepL (A, B, D) (q.take (m + 1)))) := Lib.hid (by
              rw [HM2.out, hPe, List.append_nil]
              exact ⟨rfl, rfl⟩)
            clear HM2 hPe HP2
            go_wp2_with fail
            go_roundw
            case rel => exact ⟨m + 1, hm1, by go_num, ⟨av2, cv2, by rw [← hnx.out.1]⟩, Lib.hid (by rw [← hnx.out.1, ← hnx.out.2]; exact HRow.out), hbY⟩
            case measure => first | (simp [intOf]; exact hmeas) | simpa [intOf] using hmeas


    · obtain rfl : m = q.length := by omega
      have hnx : stepL (A, B, D) (q.take q.length) = stepL (A, B, D) q := by rw [List.take_length]
      rw [hnx] at HRow ⊢
      have hE : Hid (LefE w (stepL (A, B, D) q) (.returned (.slice av (stepL (A, B, D) q).length cv)) wr) := Lib.hid ⟨av, cv, rfl, owns_base HRow.out hbo.size, below_on hbo hbr⟩
      clear HRow HC HL HPL HIn HSt hnx
      go_wp2_with fail
      go_ret
      exact hE.out
end Go.Proofs.Ytdiabpcpcilclaa
