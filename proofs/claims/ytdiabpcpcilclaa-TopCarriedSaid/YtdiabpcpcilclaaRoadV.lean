/-
  outside of package road. By an AI agent.
-/
import Derived.Test.YtdiabpcpcilclaaRoadU
import Derived.Deep.RegionHeld3
import Derived.Deep.DeepCutAuto
namespace Go.Proofs.Ytdiabpcpcilclaa
set_option linter.unusedVariables false
set_option linter.unusedSimpArgs false
open Go.RowKit

theorem gcellR {W w1 : World} {row : Option Nat} (hg : W.grownBy w1 row) : (∀ b o, b < W.heap.size → some b ≠ row → w1.cell? ⟨b, o, none⟩ = W.cell? ⟨b, o, none⟩) ∧ (∀ b o, b < W.heap.size → some b ≠ row → w1.frozen? ⟨b, o, none⟩ = W.frozen? ⟨b, o, none⟩) :=
  ⟨fun b o h hn => hg.cell_far ⟨b, o, none⟩ h hn, fun b o h hn => hg.frozen_far ⟨b, o, none⟩ h hn⟩
/-- What returns a list in memory of its own. -/
def OwnE (w : World) (q : List Spn) (e : Ending) (w' : World) : Prop := ∃ b c, e = .returned (.slice b q.length c) ∧ w'.ownsRow w.heap.size 26 2 (.slice b q.length c) q.length (clS q) ∧ Below w.heap.size w w'
theorem UniE.own {w w' : World} {X : List Spn} {e : Ending} (h : UniE w X e w') (hV : AllV X) : OwnE w (canL X) e w' := by
  obtain ⟨d, hp, hA, b, c, he, ho, hb⟩ := h
  have hj := (join_eq hV hp hA).1
  rw [hj] at he ho
  exact ⟨b, c, he, ho, hb⟩
theorem OwnE.pairs {w w' : World} {b : Option Addr} {c : Nat} {q : List Spn} (h : w'.ownsRow w.heap.size 26 2 (.slice b q.length c) q.length (clS q)) (hI : InV 10000000 q) (hl : q.length ≤ 100000000) : PairsS w' b q :=
  pairs_own h (by omega) fun j hj => inV_64 hI (Int.le_refl _) hj
set_option maxRecDepth 100000 in
set_option maxHeartbeats 4000000 in
theorem outside_any (a : Option Addr) (l : List Spn) (ca : Nat) (w : World) (hA : PairsS w a l) (hn : l.length ≤ 10000) (hV : AllV l) (hI : InV 10000000 l) :
    Calls Try.prog 43 #[.slice a l.length ca] w (OwnE w (outC 10000000 (canL l))) := by
  have HU := Lib.hid (fun e w' (h : UniE w l e w') => h.own hV)
  have HCl := Lib.hid (union_raw a l ca w hA (by omega))
  have hcl := (canL_ok hV).2.2
  have hcI := inV_canL hI hV
  obtain ⟨n0, hi, hz0, hz1, hz2⟩ := info_parts spanInfo
  have hoe : outC 10000000 (canL l) = outK (canL l ++ [(10000000, 10000000)]) (canL l ++ [(10000000, 10000000)]).length := by unfold outC; rw [List.length_append]; rfl
  rw [hoe]
  generalize canL l = C at *
  have hcl2 : C.length ≤ 10000 := by omega
  obtain ⟨D, hD⟩ : ∃ D, C ++ [((10000000 : Int), (10000000 : Int))] = D := ⟨_, rfl⟩
  have HDI : Hid (InV 10000000 D) := Lib.hid (by
    rw [← hD]; intro p hp
    rcases List.mem_append.1 hp with hp | hp
    · exact hcI p hp
    · simp at hp; subst hp; decide)
  have HDC : Hid (C.length + 1 = D.length ∧ clS C ++ [.int .i64 10000000, .int .i64 10000000] = clS D) := Lib.hid (by rw [← hD, clS_app]; exact ⟨by simp, rfl⟩)
  have hdl : D.length ≤ 10001 := by rw [← hD]; simp; omega
  rw [hD]
  clear hD hoe hcl hcI hA hV hI
  go_enter Try.func43, Try.ntmps43
  go_wp2_with fail
  refine HCl.out.mono ?_
  rintro e w1 hu
  obtain ⟨b, c, rfl, ho, hb1⟩ := HU.out _ _ hu
  have HRow := Lib.hid ho
  clear ho hu HU HCl
  have hown := Lib.hid (HRow.out.alloc (.cells #[.int .i64 10000000, .int .i64 10000000] 26))
  have hbs := hb1.size
  go_wp2_with (first | (at_builtin; go_loud (refine wpList_append_lies _ rfl _ _ 30 rfl w.heap.size 26 n0 _ 2 16 Try.underlying30 hi hz0 hz1 hz2 rfl (by decide) (.slice b C.length c) C.length _ (by rfl) hown.out ⟨w1.heap.size, 0, none⟩ 1 1 [.int .i64 10000000, .int .i64 10000000] (by rfl) (by rfl) ?d1 ?d2 (by decide) ?d3 ?d4 ?d5 _ rfl ?_)))
  case d1 =>
    refine World.news_of_block (cs := #[.int .i64 10000000, .int .i64 10000000]) (t := 26) (fr := (0, 0)) ?_
    exact heap_alloc_new _ _
  case d2 => simp [Value.oneCell']
  case d3 => unfold maxLen; omega
  case d4 => omega
  case d5 => first | (simp; omega) | simp | omega
  intro g6 c6 w6 hown6 hgrow6 hat6 hlt6
  have hb6 : Below w.heap.size w w6 := ((hb1.alloc hbs _).grown hgrow6 (by first | (simp; omega) | simp | omega) (fun z hz => owns_block hown.out hz))

  have HD6 : Hid (PairsS w6 (some ⟨g6, 0, none⟩) D) := Lib.hid (by
    have h := hown6
    rw [HDC.out.1, HDC.out.2] at h
    exact pairs_own h (by omega) fun j hj => inV_64 HDI.out (Int.le_refl _) hj)
  rw [HDC.out.1]
  have HG : Hid (∀ k, k < D.length → (0 ≤ (gp D k).1 ∧ (gp D k).1 ≤ 10000000) ∧ 0 ≤ (gp D k).2 ∧ (gp D k).2 ≤ 10000000) := Lib.hid fun k hk => by have := HDI.out _ (gp_mem hk); omega
  have HB : Hid (∀ k, 0 ≤ frm D k ∧ frm D k ≤ 10000000) := Lib.hid fun k => by
    cases k with
    | zero => simp [frm]
    | succ k =>
      by_cases h : k < D.length
      · exact (HG.out k h).2
      · have e : gp D k = (0, 0) := by unfold gp; rw [List.getD_eq_getElem?_getD, List.getElem?_eq_none (by omega)]; rfl
        rw [frm, e]; decide
  clear HRow hown hbs hown6 hgrow6 hat6 HDC
  obtain ⟨-, -, blk, off, hadr, hcell⟩ := HD6.out
  have HC := Lib.hid hcell
  have HL : Hid (0 < D.length → (some ⟨g6, 0, none⟩ : Option Addr) = some ⟨blk, off, none⟩) := Lib.hid fun h => hadr (pos_ne (n := 0) h)
  have HE : Hid (∀ W b c, W.ownsRow w6.heap.size 26 2 (.slice b (outK D D.length).length c) (outK D D.length).length (clS (outK D D.length)) → Below w6.heap.size w6 W → OwnE w (outK D D.length) (.returned (.slice b (outK D D.length).length c)) W) := Lib.hid fun W b c h1 h2 => ⟨b, c, rfl, owns_base h1 hb6.size, below_on hb6 h2⟩
  obtain ⟨ag, hag⟩ : ∃ ag : Option Addr, (some ⟨g6, 0, none⟩ : Option Addr) = ag := ⟨_, rfl⟩
  rw [hag] at HL
  have hdlb : D.length ≤ 10001 := hdl
  clear hcell hadr HD6 HDI
  obtain ⟨wo, rfl⟩ : ∃ wo : World, wo = w6 := ⟨_, rfl⟩
  rw [hag]
  clear hag
  go_wp2_with fail
  go_loopw [3, 4, 13] (fun v f i wr => ∃ k : Nat, k ≤ D.length ∧ i = .int .i64 k ∧ f = .int .i64 (frm D k) ∧ (∃ a c, v = .slice a (outK D k).length c) ∧ Hid (wr.ownsRow wo.heap.size 26 2 v (outK D k).length (clS (outK D k))) ∧ Below wo.heap.size wo wr) (fun _ _ i _ => D.length - (intOf i).toNat)
  case atStart => exact ⟨0, Nat.zero_le _, rfl, rfl, ⟨none, 0, rfl⟩, Lib.hid ⟨rfl, .inl ⟨rfl, rfl⟩⟩, Below.refl _ _⟩
  case round =>
    obtain ⟨k, hk, rfl, rfl, ⟨av, cv, rfl⟩, HRow, hbr⟩ := hrel
    by_cases hlt : k < D.length
    · obtain rfl := HL.out (by omega)
      clear HL
      obtain ⟨c0, c1⟩ := HC.out k hlt
      have c0 := cell_below c0 hbr
      have c1 := cell_below c1 hbr
      have HN : Hid (outK D (k + 1) = outK D k ++ gapL (frm D k) (gp D k).1) := Lib.hid rfl
      have HF : Hid (frm D (k + 1) = (gp D k).2) := Lib.hid rfl
      obtain ⟨f0, f1⟩ := HB.out k
      obtain ⟨⟨x0, x1⟩, y0, y1⟩ := HG.out k hlt
      have hol := outK_len D k
      have hkd : (k : Int) < (D.length : Int) := by omega
      clear HC HB HG HE
      obtain ⟨f, hf⟩ : ∃ f, frm D k = f := ⟨_, rfl⟩
      obtain ⟨x, hx⟩ : ∃ x, (gp D k).1 = x := ⟨_, rfl⟩
      obtain ⟨y, hy⟩ : ∃ y, (gp D k).2 = y := ⟨_, rfl⟩
      obtain ⟨O, hO⟩ : ∃ O, outK D k = O := ⟨_, rfl⟩
      rw [hf, hx, hO] at HN
      rw [hO] at HRow hol ⊢
      rw [hf] at f0 f1 ⊢
      rw [hx] at c0 x0 x1
      rw [hy] at c1 HF y0 y1
      clear hf hx hy hO
      have hmeas : D.length - (k + 1) < D.length - k := by omega
      by_cases hlt2 : f < x
      · have hnx : Hid (O.length + 1 = (outK D (k + 1)).length ∧ clS O ++ [.int .i64 f, .int .i64 x] = clS (outK D (k + 1))) := Lib.hid (by
          rw [HN.out]; unfold gapL; rw [if_pos hlt2, clS_app]
          exact ⟨by simp, rfl⟩)
        clear HN
        go_upto_region 7 with (fail)
        obtain ⟨wq, hwq⟩ : ∃ wq, wr.alloc (.cells #[.int .i64 x, .int .i64 y] 26) = wq := ⟨_, rfl⟩
        have hbq : Below wo.heap.size wo wq := by rw [← hwq]; exact hbr.alloc hbr.size _
        have s0 : wq.cell? ⟨wr.heap.size, 0, none⟩ = some (.int .i64 x) := by rw [← hwq]; simp [go_sem]
        have s1 : wq.cell? ⟨wr.heap.size, 1, none⟩ = some (.int .i64 y) := by rw [← hwq]; simp [go_sem]
        have hne : some wr.heap.size ≠ (Value.slice av O.length cv).ownBlock := fun h => Nat.lt_irrefl _ (HRow.out.lt _ h.symm).2
        have hsz : wr.heap.size < wq.heap.size := by rw [← hwq]; simp
        have HRow0 := HRow.out.alloc (.cells #[.int .i64 x, .int .i64 y] 26)
        rw [hwq] at HRow0 ⊢
        have HRow := Lib.hid HRow0
        clear HRow0 hwq c0 c1
        have hown := Lib.hid (HRow.out.alloc (.cells #[.int .i64 f, .int .i64 x] 26))
        have hbs := hbq.size
        go_wp2_with (first | (at_builtin; go_loud (refine wpList_append_lies _ rfl _ _ 30 rfl wo.heap.size 26 n0 _ 2 16 Try.underlying30 hi hz0 hz1 hz2 rfl (by decide) (.slice av O.length cv) O.length _ (by rfl) hown.out ⟨wq.heap.size, 0, none⟩ 1 1 [.int .i64 f, .int .i64 x] (by rfl) (by rfl) ?d1 ?d2 (by decide) ?d3 ?d4 ?d5 _ rfl ?_)))
        case d1 =>
          refine World.news_of_block (cs := #[.int .i64 f, .int .i64 x]) (t := 26) (fr := (0, 0)) ?_
          exact heap_alloc_new _ _
        case d2 => simp [Value.oneCell']
        case d3 => unfold maxLen; omega
        case d4 => omega
        case d5 => first | (simp; omega) | simp | omega
        intro g6 c6 w6 hown6 hgrow6 hat6 hlt6
        have hb6 : Below wo.heap.size wo w6 := ((hbq.alloc hbs _).grown hgrow6 (by first | (simp; omega) | simp | omega) (fun z hz => owns_block hown.out hz))

        have s1 : w6.cell? ⟨wr.heap.size, 1, none⟩ = some (.int .i64 y) := ((gcellR hgrow6).1 wr.heap.size 1 (by simp; omega) hne).trans ((World.cell?_alloc_old _ _ ⟨wr.heap.size, 1, none⟩ (Nat.ne_of_lt hsz)).trans s1)
        clear s0 hne hgrow6 hat6 hlt6 hown
        go_wp2_with fail
        go_roundw
        case rel => exact ⟨k + 1, by omega, by go_num, by rw [HF.out], ⟨_, c6, by rw [← hnx.out.1]⟩, Lib.hid (by rw [← hnx.out.1, ← hnx.out.2]; exact hown6), hb6⟩
        case measure => first | (simp [intOf]; exact hmeas) | simpa [intOf] using hmeas
      · have hnx : Hid (outK D (k + 1) = O) := Lib.hid (by
          rw [HN.out]; unfold gapL; rw [if_neg hlt2, List.append_nil])
        clear HN
        have HRow1 : Hid ((wr.alloc (.cells #[.int .i64 x, .int .i64 y] 26)).ownsRow wo.heap.size 26 2 (.slice av O.length cv) O.length (clS O)) := Lib.hid (HRow.out.alloc _)
        have hbq : Below wo.heap.size wo (wr.alloc (.cells #[.int .i64 x, .int .i64 y] 26)) := hbr.alloc hbr.size _
        clear HRow
        go_wp2_with fail
        go_roundw
        case rel => exact ⟨k + 1, by omega, by go_num, by rw [HF.out], ⟨av, cv, by rw [hnx.out]⟩, Lib.hid (by rw [hnx.out]; exact HRow1.out), hbq⟩
        case measure => first | (simp [intOf]; exact hmeas) | simpa [intOf] using hmeas

    · obtain rfl : k = D.length := by omega
      have hE := Lib.hid (HE.out _ _ _ HRow.out hbr)
      clear HC HB HG HE HL HRow
      go_wp2_with fail
      go_ret
      exact hE.out
end Go.Proofs.Ytdiabpcpcilclaa
