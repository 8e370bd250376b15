/-
  Judge of both for any plan of a valid shop. By an AI agent.; End of both. By an AI agent.; Library functions laid at this program, in plain words. By an AI agent.; The order of placed steps; slices.SortFunc at them; inOrder. By an AI agent.
-/
import Derived.Test.YtgphkfonjfdifaaMgShopOrders8
import Derived.Test.YtgphkfonjfdifaaMgShopOrders9
import Derived.Deep.RegionHeld3
import Derived.BigRegion
import Derived.BigQuiet
import Derived.Shelf.SlSortCmp.WholeK
import Derived.Shelf.SlicesE.Clone
import Derived.Ground.SlsfProg
import Derived.Ground.SlgnProg
import Derived.Test.YtgphkfonjfdifaaProg
import Derived.Shelf.SlSortCmp.NoneTotal
import Derived.Lib.AppendIntMem
import Derived.Lib.OwnBridge

namespace Go.Proofs.Ytgphkfonjfdifaa
set_option linter.unusedVariables false
set_option linter.unusedSimpArgs false
open Go.RowKit

theorem judV_ok {s : Sh} {P : List (List Int)} (h : PlanOk s P) : judV s P = judT s (plcL s P) := by unfold judV; rw [if_pos (planB_t h)]
theorem judV_bad {s : Sh} {P : List (List Int)} (h : ¬ PlanOk s P) : judV s P = (0, 0, 2) := by unfold judV; rw [if_neg (by rw [planB_f h]; decide)]
set_option maxRecDepth 100000 in
set_option maxHeartbeats 2000000 in
theorem judge_no (s : Sh) (ap : Option Addr) (P : List (List Int)) (cp : Nat) (w : World) (hI : ShS w s) (hV : ShOk s) (hP : RowsS w ap P) (hO : ¬ PlanOk s P) :
    Calls Try.prog 15 #[.agg #[.int .i64 s.O, .int .i64 s.C, .slice s.aH s.H.length s.cH, .int .i64 s.M, .slice s.aS s.S.length s.cS, .slice s.aJ s.J.length s.cJ], .slice ap P.length cp] w fun e w' => e = .returned (.tuple #[.int .i64 0, .int .i64 0, .int .i64 2]) ∧ Below w.heap.size w w' := by
  have HV := Lib.hid (fun W (hW : Below w.heap.size w W) => Valid_sh s W (hI.below hW))
  rw [shB_t hV] at HV
  have HP := Lib.hid (fun W (hW : Below w.heap.size w W) => isPlan_sh s ap P cp W (hI.below hW) (hP.below hW))
  rw [planB_f hO] at HP
  clear hI hV hP hO
  have HB := Lib.hid (ShBox.start w s 25)
  go_enter Try.func15, Try.ntmps15
  go_wp2_with fail
  obtain ⟨wB, hwB⟩ : ∃ wB, w.alloc (.cells #[.int .i64 s.O, .int .i64 s.C, .slice s.aH s.H.length s.cH, .int .i64 s.M, .slice s.aS s.S.length s.cS, .slice s.aJ s.J.length s.cJ] 25) = wB := ⟨_, rfl⟩
  rw [hwB] at HB ⊢
  clear hwB
  obtain ⟨hb, p0, p1, p2, p3, p4, p5⟩ := HB.out
  clear HB
  go_wp2_with (first | (go_at_call 35; refine (HV.out _ hb).mono ?_; rintro e w1 ⟨rfl, hb1⟩; replace hb := hb.trans (hb1.mono hb.size); replace p0 := cell_below p0 hb1; replace p1 := cell_below p1 hb1; replace p2 := cell_below p2 hb1; replace p3 := cell_below p3 hb1; replace p4 := cell_below p4 hb1; replace p5 := cell_below p5 hb1; clear hb1) | (go_at_call 36; refine (HP.out _ hb).mono ?_; rintro e w1 ⟨rfl, hb1⟩; replace hb := hb.trans (hb1.mono hb.size); replace p0 := cell_below p0 hb1; replace p1 := cell_below p1 hb1; replace p2 := cell_below p2 hb1; replace p3 := cell_below p3 hb1; replace p4 := cell_below p4 hb1; replace p5 := cell_below p5 hb1; clear hb1))
  go_ret3
  exact ⟨rfl, hb⟩
set_option maxRecDepth 100000 in
set_option maxHeartbeats 2000000 in
theorem refJudge_no (s : Sh) (ap : Option Addr) (P : List (List Int)) (cp : Nat) (w : World) (hI : ShS w s) (hV : ShOk s) (hP : RowsS w ap P) (hO : ¬ PlanOk s P) :
    Calls Try.prog 16 #[.agg #[.int .i64 s.O, .int .i64 s.C, .slice s.aH s.H.length s.cH, .int .i64 s.M, .slice s.aS s.S.length s.cS, .slice s.aJ s.J.length s.cJ], .slice ap P.length cp] w fun e w' => e = .returned (.tuple #[.int .i64 0, .int .i64 0, .int .i64 2]) ∧ Below w.heap.size w w' := by
  have HP := Lib.hid (fun W (hW : Below w.heap.size w W) => shaped_sh s ap P cp W (hI.below hW) hV (hP.below hW))
  rw [planB_f hO] at HP
  clear hI hV hP hO
  have HB := Lib.hid (ShBox.start w s 25)
  go_enter Try.func16, Try.ntmps16
  go_wp2_with fail
  obtain ⟨wB, hwB⟩ : ∃ wB, w.alloc (.cells #[.int .i64 s.O, .int .i64 s.C, .slice s.aH s.H.length s.cH, .int .i64 s.M, .slice s.aS s.S.length s.cS, .slice s.aJ s.J.length s.cJ] 25) = wB := ⟨_, rfl⟩
  rw [hwB] at HB ⊢
  clear hwB
  obtain ⟨hb, p0, p1, p2, p3, p4, p5⟩ := HB.out
  clear HB
  go_wp2_with (first | (go_at_call 46; refine (HP.out _ hb).mono ?_; rintro e w1 ⟨rfl, hb1⟩; replace hb := hb.trans (hb1.mono hb.size); replace p0 := cell_below p0 hb1; replace p1 := cell_below p1 hb1; replace p2 := cell_below p2 hb1; replace p3 := cell_below p3 hb1; replace p4 := cell_below p4 hb1; replace p5 := cell_below p5 hb1; clear hb1))
  go_ret3
  exact ⟨rfl, hb⟩
theorem judge_any (s : Sh) (ap : Option Addr) (P : List (List Int)) (cp : Nat) (w : World) (hI : ShS w s) (hV : ShOk s) (hP : RowsS w ap P) :
    Calls Try.prog 15 #[.agg #[.int .i64 s.O, .int .i64 s.C, .slice s.aH s.H.length s.cH, .int .i64 s.M, .slice s.aS s.S.length s.cS, .slice s.aJ s.J.length s.cJ], .slice ap P.length cp] w fun e w' => e = .returned (.tuple #[.int .i64 (judV s P).1, .int .i64 (judV s P).2.1, .int .i64 (judV s P).2.2]) ∧ Below w.heap.size w w' := by
  by_cases hO : PlanOk s P
  · rw [judV_ok hO]
    exact judge_good s ap P cp w hI hV hP hO
  · rw [judV_bad hO]
    exact judge_no s ap P cp w hI hV hP hO
theorem refJudge_any (s : Sh) (ap : Option Addr) (P : List (List Int)) (cp : Nat) (w : World) (hI : ShS w s) (hV : ShOk s) (hP : RowsS w ap P) :
    Calls Try.prog 16 #[.agg #[.int .i64 s.O, .int .i64 s.C, .slice s.aH s.H.length s.cH, .int .i64 s.M, .slice s.aS s.S.length s.cS, .slice s.aJ s.J.length s.cJ], .slice ap P.length cp] w fun e w' => e = .returned (.tuple #[.int .i64 (judV s P).1, .int .i64 (judV s P).2.1, .int .i64 (judV s P).2.2]) ∧ Below w.heap.size w w' := by
  by_cases hO : PlanOk s P
  · rw [judV_ok hO]
    exact refJudge_good s ap P cp w hI hV hP hO
  · rw [judV_bad hO]
    exact refJudge_no s ap P cp w hI hV hP hO
end Go.Proofs.Ytgphkfonjfdifaa

namespace Go.Proofs.Ytgphkfonjfdifaa
set_option linter.unusedVariables false
set_option linter.unusedSimpArgs false
open Go.RowKit

theorem endN_pl {s : Sh} {P : List (List Int)} {k : Nat} (h : k < (plcL s P).length) : endN s P (k + 1) = max (endN s P k) ((gc (plcL s P) k).st + (gc (plcL s P) k).mi) := by
  rw [plcL_len] at h
  rw [endN, plcL_at s P h]
  rfl
theorem endN_bd {s : Sh} {P : List (List Int)} (h : ShOk s) (hO : PlanOk s P) : ∀ k, k ≤ (plcL s P).length → 0 ≤ endN s P k ∧ endN s P k ≤ 100001440
  | 0, _ => by simp [endN]
  | k + 1, hk => by
    have ih := endN_bd h hO k (by omega)
    have hp := plcOk_of h hO (show k < (plcL s P).length by omega)
    rw [endN_pl (by omega)]
    unfold PlcOk at hp
    omega
/-- What End returns. -/
noncomputable def endA (s : Sh) (P : List (List Int)) : Int := if (judV s P).2.2 = 0 then endV s P else 0
theorem judV_plan {s : Sh} {P : List (List Int)} (h : (judV s P).2.2 = 0) : PlanOk s P := by
  rcases Classical.em (PlanOk s P) with h1 | h1
  · exact h1
  · rw [judV_bad h1] at h
    exact absurd h (by decide)
set_option maxRecDepth 100000 in
set_option maxHeartbeats 2000000 in
theorem end_any (s : Sh) (ap : Option Addr) (P : List (List Int)) (cp : Nat) (w : World) (hI : ShS w s) (hV : ShOk s) (hP : RowsS w ap P) :
    Calls Try.prog 17 #[.agg #[.int .i64 s.O, .int .i64 s.C, .slice s.aH s.H.length s.cH, .int .i64 s.M, .slice s.aS s.S.length s.cS, .slice s.aJ s.J.length s.cJ], .slice ap P.length cp] w fun e w' => e = .returned (.tuple #[.int .i64 (endA s P), .int .i64 (judV s P).2.2]) ∧ Below w.heap.size w w' := by
  have HJ := Lib.hid (fun W (hW : Below w.heap.size w W) => judge_any s ap P cp W (hI.below hW) hV (hP.below hW))
  have HB := Lib.hid (ShBox.start w s 25)
  by_cases hE : (judV s P).2.2 = 0
  · have hO := judV_plan hE
    have HA := Lib.hid (fun W (hW : Below w.heap.size w W) => allPlaced_sh s ap P cp W (hI.below hW) hV (hP.below hW) hO)
    have HPS := Lib.hid (fun W a (h : PlacedS W s P a (flP s.J)) => plcS_of h (by have := flI_len hV s.J.length (Nat.le_refl _); have := hV.2.2.2.1; unfold flP; omega))
    have HOk := Lib.hid (fun k (hk : k < (plcL s P).length) => plcOk_of hV hO hk)
    have HEN := Lib.hid (fun k (hk : k < (plcL s P).length) => endN_pl (s := s) (P := P) hk)
    have HBd := Lib.hid (endN_bd hV hO)
    have hfl2 : (flP s.J).length = (plcL s P).length := (plcL_len s P).symm
    have HEA : Hid (endA s P = endN s P (plcL s P).length) := Lib.hid (by unfold endA; rw [if_pos hE]; unfold endV; rw [hfl2])
    have h200 : (plcL s P).length ≤ 200 := by have := flI_len hV s.J.length (Nat.le_refl _); have := hV.2.2.2.1; rw [← hfl2]; unfold flP; omega
    rw [hfl2] at HA
    obtain ⟨J3, hJ3⟩ : ∃ J3, judV s P = J3 := ⟨_, rfl⟩
    rw [hJ3] at HJ hE ⊢
    clear hJ3
    obtain ⟨j1, j2, j3⟩ := J3
    have hE : j3 = 0 := hE
    subst hE
    clear hI hV hP hfl2 hO
    generalize plcL s P = l at *
    generalize endA s P = EA at *
    go_enter Try.func17, Try.ntmps17
    go_wp2_with fail
    obtain ⟨wB, hwB⟩ : ∃ wB, w.alloc (.cells #[.int .i64 s.O, .int .i64 s.C, .slice s.aH s.H.length s.cH, .int .i64 s.M, .slice s.aS s.S.length s.cS, .slice s.aJ s.J.length s.cJ] 25) = wB := ⟨_, rfl⟩
    rw [hwB] at HB ⊢
    clear hwB
    obtain ⟨hb, p0, p1, p2, p3, p4, p5⟩ := HB.out
    clear HB
    go_wp2_with (first | (go_at_call 15; refine (HJ.out _ hb).mono ?_; rintro e w1 ⟨rfl, hb1⟩; replace hb := hb.trans (hb1.mono hb.size); replace p0 := cell_below p0 hb1; replace p1 := cell_below p1 hb1; replace p2 := cell_below p2 hb1; replace p3 := cell_below p3 hb1; replace p4 := cell_below p4 hb1; replace p5 := cell_below p5 hb1; clear hb1) | (go_at_call 37; refine (HA.out _ hb).mono ?_; rintro e w1 ⟨a, c, rfl, hPS, hle, hb1⟩; replace hb := hb.trans (hb1.mono hb.size); replace p0 := cell_below p0 hb1; replace p1 := cell_below p1 hb1; replace p2 := cell_below p2 hb1; replace p3 := cell_below p3 hb1; replace p4 := cell_below p4 hb1; replace p5 := cell_below p5 hb1; clear hb1; have HPL := Lib.hid (HPS.out _ _ hPS); clear hPS))
    obtain ⟨wL, rfl⟩ : ∃ wL : World, wL = w1 := ⟨_, rfl⟩
    obtain ⟨hl9, blk, off, hadr, hc⟩ := HPL.out
    have HC := Lib.hid hc
    have HLa : Hid (0 < l.length → a = some ⟨blk, off, none⟩) := Lib.hid fun h => hadr (List.ne_nil_of_length_pos h)
    have HBL := Lib.hid hb
    clear hc hadr HPL HPS HJ HA hb p0 p1 p2 p3 p4 p5
    go_loopw [9, 26] (fun u i wr => ∃ k : Nat, k ≤ l.length ∧ i = .int .i64 k ∧ u = .int .i64 (endN s P k) ∧ Below wL.heap.size wL wr) (fun _ i _ => l.length - (intOf i).toNat)
    case atStart => exact ⟨0, Nat.zero_le _, rfl, rfl, Below.refl _ _⟩
    case round =>
      obtain ⟨k, hk, rfl, rfl, hbr⟩ := hrel
      by_cases hlt : k < l.length
      · obtain rfl := HLa.out (by omega)
        obtain ⟨c0, c1, c2, c3, c4, c5, c6⟩ := HC.out k hlt
        have c0 := cell_below c0 hbr
        have c1 := cell_below c1 hbr
        have c2 := cell_below c2 hbr
        have c3 := cell_below c3 hbr
        have c4 := cell_below c4 hbr
        have c5 := cell_below c5 hbr
        have c6 := cell_below c6 hbr
        have hkI : (k : Int) < l.length := by omega
        have hx := HOk.out k hlt
        have HX := Lib.hid (HEN.out k hlt)
        have hm := HBd.out k hk
        clear HC HLa HOk HEN HBd HEA
        generalize gc l k = x at *
        have HEnd := Lib.hid (fun W => end_pl x.m x.mi x.c x.d x.j x.n x.st W (by unfold PlcOk at hx; omega) (by unfold PlcOk at hx; omega))
        have hv0 : 0 ≤ x.st + x.mi ∧ x.st + x.mi ≤ 200000000 := by unfold PlcOk at hx; omega
        clear hx
        generalize x.st + x.mi = v at *
        generalize endN s P k = mc at *
        rcases Int.lt_trichotomy mc v with hl | hl | hl
        · have HR := Lib.hid (HX.out.trans (show max mc v = v by omega))
          clear HX
          go_wp2_with (go_at_call 52; refine (HEnd.out _).mono ?_; rintro e w2 ⟨rfl, hb2⟩)
          go_roundw
          case rel => exact ⟨k + 1, by omega, by go_num, by rw [HR.out]; try (congr 1; omega), hbr.trans ((((Below.refl _ _).alloc (Nat.le_refl _) _ : Below wr.heap.size wr (wr.alloc _)).trans (hb2.mono (by simp))).mono hbr.size)⟩
          case measure => first | (simp [intOf]; done) | (simp [intOf]; omega)
        · have HR := Lib.hid (HX.out.trans (show max mc v = v by omega))
          clear HX
          subst hl
          go_wp2_with (go_at_call 52; refine (HEnd.out _).mono ?_; rintro e w2 ⟨rfl, hb2⟩)
          go_roundw
          case rel => exact ⟨k + 1, by omega, by go_num, by rw [HR.out]; try (congr 1; omega), hbr.trans ((((Below.refl _ _).alloc (Nat.le_refl _) _ : Below wr.heap.size wr (wr.alloc _)).trans (hb2.mono (by simp))).mono hbr.size)⟩
          case measure => first | (simp [intOf]; done) | (simp [intOf]; omega)
        · have HR := Lib.hid (HX.out.trans (show max mc v = mc by omega))
          have hl2 : ¬ (mc < v) := by omega
          clear HX
          go_wp2_with (go_at_call 52; refine (HEnd.out _).mono ?_; rintro e w2 ⟨rfl, hb2⟩)
          go_roundw
          case rel => exact ⟨k + 1, by omega, by go_num, by rw [HR.out]; try (congr 1; omega), hbr.trans ((((Below.refl _ _).alloc (Nat.le_refl _) _ : Below wr.heap.size wr (wr.alloc _)).trans (hb2.mono (by simp))).mono hbr.size)⟩
          case measure => first | (simp [intOf]; done) | (simp [intOf]; omega)
      · obtain rfl : l.length = k := by omega
        go_wp2_with fail
        go_ret2
        rw [HEA.out]
        exact ⟨rfl, HBL.out.trans (hbr.mono HBL.out.size)⟩
  · have h0 : endA s P = 0 := by unfold endA; rw [if_neg hE]
    rw [h0]
    obtain ⟨J3, hJ3⟩ : ∃ J3, judV s P = J3 := ⟨_, rfl⟩
    rw [hJ3] at HJ hE ⊢
    clear hJ3
    obtain ⟨j1, j2, j3⟩ := J3
    have hE : ¬ j3 = 0 := hE
    have d1 : (j3 != 0) = true := by simpa using hE
    clear hI hV hP hE h0
    go_enter Try.func17, Try.ntmps17
    go_wp2_with fail
    obtain ⟨wB, hwB⟩ : ∃ wB, w.alloc (.cells #[.int .i64 s.O, .int .i64 s.C, .slice s.aH s.H.length s.cH, .int .i64 s.M, .slice s.aS s.S.length s.cS, .slice s.aJ s.J.length s.cJ] 25) = wB := ⟨_, rfl⟩
    rw [hwB] at HB ⊢
    clear hwB
    obtain ⟨hb, p0, p1, p2, p3, p4, p5⟩ := HB.out
    clear HB
    go_wp2_with (go_at_call 15; refine (HJ.out _ hb).mono ?_; rintro e w1 ⟨rfl, hb1⟩; replace hb := hb.trans (hb1.mono hb.size); replace p0 := cell_below p0 hb1; replace p1 := cell_below p1 hb1; replace p2 := cell_below p2 hb1; replace p3 := cell_below p3 hb1; replace p4 := cell_below p4 hb1; replace p5 := cell_below p5 hb1; clear hb1)
    go_ret2
    exact ⟨rfl, hb⟩
set_option maxRecDepth 100000 in
set_option maxHeartbeats 4000000 in
theorem refEnd_good (s : Sh) (ap : Option Addr) (P : List (List Int)) (cp : Nat) (w : World) (hI : ShS w s) (hV : ShOk s) (hP : RowsS w ap P) (hO : PlanOk s P) :
    Calls Try.prog 19 #[.agg #[.int .i64 s.O, .int .i64 s.C, .slice s.aH s.H.length s.cH, .int .i64 s.M, .slice s.aS s.S.length s.cS, .slice s.aJ s.J.length s.cJ], .slice ap P.length cp] w fun e w' => e = .returned (.int .i64 (endV s P)) ∧ Below w.heap.size w w' := by
  have HLs := Lib.hid (fun W (hW : Below w.heap.size w W) => list_sh s W (hI.below hW) hV)
  have HAt := Lib.hid (fun a b (ha : a < s.J.length) (hb : b < (gj s.J a).length) W (hW : Below w.heap.size w W) => at_sh s a b W (hI.below hW) hV ha hb)
  have HEN : Hid (∀ k, endN s P (k + 1) = max (endN s P k) (sttP P (gp (flP s.J) k) + (stpP s (gp (flP s.J) k)).2.1)) := Lib.hid fun k => rfl
  have HBd := Lib.hid (endN_bd hV hO)
  rw [plcL_len] at HBd
  have hfl : (flP s.J).length ≤ 200 := by have := flI_len hV s.J.length (Nat.le_refl _); have := hV.2.2.2.1; unfold flP; omega
  obtain ⟨hlP, pb, po, ad, cq, hadr, hc⟩ := hP
  have HR0 : Hid (∀ a, a < P.length → w.cell? ⟨pb, po + a, none⟩ = some (.slice (ad a) (gr P a).length (cq a)) ∧ IntsS w (ad a) (gr P a)) := Lib.hid fun a ha => ⟨(hc a ha).1, (hc a ha).2.1⟩
  have HLa : Hid (0 < P.length → ap = some ⟨pb, po, none⟩) := Lib.hid fun h => hadr (List.ne_nil_of_length_pos h)
  have HO := Lib.hid hO
  have HVV := Lib.hid hV
  have HPJ := Lib.hid hO.1
  have HEV : Hid (endV s P = endN s P (flP s.J).length) := Lib.hid rfl
  obtain ⟨N, hN⟩ : ∃ N, (flP s.J).length = N := ⟨_, rfl⟩
  rw [hN] at HLs hfl HBd HEV
  generalize endV s P = EV at *
  clear hI hO hV hadr hc
  have HB := Lib.hid (ShBox.start w s 25)
  have HNN := Lib.hid hN
  clear hN
  go_enter Try.func19, Try.ntmps19
  go_wp2_with fail
  obtain ⟨wB, hwB⟩ : ∃ wB, w.alloc (.cells #[.int .i64 s.O, .int .i64 s.C, .slice s.aH s.H.length s.cH, .int .i64 s.M, .slice s.aS s.S.length s.cS, .slice s.aJ s.J.length s.cJ] 25) = wB := ⟨_, rfl⟩
  rw [hwB] at HB ⊢
  clear hwB
  obtain ⟨hb, p0, p1, p2, p3, p4, p5⟩ := HB.out
  clear HB
  go_wp2_with (go_at_call 47; refine (HLs.out _ hb).mono ?_; rintro e w1 ⟨la, lc, rfl, hPS, hb1⟩; replace hb := hb.trans (hb1.mono hb.size); replace p0 := cell_below p0 hb1; replace p1 := cell_below p1 hb1; replace p2 := cell_below p2 hb1; replace p3 := cell_below p3 hb1; replace p4 := cell_below p4 hb1; replace p5 := cell_below p5 hb1; clear hb1)
  obtain ⟨wL, rfl⟩ : ∃ wL : World, wL = w1 := ⟨_, rfl⟩
  obtain ⟨hl9, hi64, lb, lo, hadr, hc⟩ := hPS
  rw [HNN.out] at hc
  have HC := Lib.hid hc
  have HLl : Hid (0 < N → la = some ⟨lb, lo, none⟩) := Lib.hid fun h => hadr (by intro e; have h9 := HNN.out; rw [e] at h9; simp at h9; omega)
  have HR : Hid (∀ a, a < P.length → wL.cell? ⟨pb, po + a, none⟩ = some (.slice (ad a) (gr P a).length (cq a)) ∧ IntsS wL (ad a) (gr P a)) := Lib.hid fun a ha => ⟨cell_below (HR0.out a ha).1 hb, (HR0.out a ha).2.below hb⟩
  have HP0 := Lib.hid p0
  have HP1 := Lib.hid p1
  have HP2 := Lib.hid p2
  have HP3 := Lib.hid p3
  have HP4 := Lib.hid p4
  have HP5 := Lib.hid p5
  have HBL := Lib.hid hb
  clear hadr hc hi64 hl9 p0 p1 p2 p3 p4 p5 hb HLs HR0
  go_loopw [5, 7] (fun u i wr => ∃ n : Nat, n ≤ N ∧ i = .int .i64 n ∧ u = .int .i64 (endN s P n) ∧ Below wL.heap.size wL wr) (fun _ i _ => N - (intOf i).toNat)
  case atStart => exact ⟨0, Nat.zero_le _, rfl, rfl, Below.refl _ _⟩
  case round =>
    obtain ⟨n, hn, rfl, rfl, hbr⟩ := hrel
    by_cases hlt : n < N
    · obtain rfl := HLl.out (by omega)
      have hnl : n < (flP s.J).length := by rw [HNN.out]; exact hlt
      obtain ⟨a, b, egc, hac, hbc⟩ := flP_at (J := s.J) (n := n) hnl
      have haPc : a < P.length := by have := HO.out.1; omega
      have hbPc : b < (gr P a).length := by have := (HO.out.2 a haPc).1; omega
      obtain ⟨c0, c1⟩ := HC.out n (by omega)
      rw [egc] at c0 c1
      obtain ⟨gc, hrowc⟩ := HR.out a haPc
      obtain ⟨rb, ro, eac, hc⟩ := row_cell hrowc hbPc
      rw [eac] at gc
      have hstc := (HO.out.2 a haPc).2 b hbPc
      have hspc := (HVV.out.2.2.2.2 a hac).2 b hbc
      obtain rfl := HLa.out (by omega)
      have p0 := cell_below HP0.out hbr
      have p1 := cell_below HP1.out hbr
      have p2 := cell_below HP2.out hbr
      have p3 := cell_below HP3.out hbr
      have p4 := cell_below HP4.out hbr
      have p5 := cell_below HP5.out hbr
      have hzp := block_lt p0
      have c0 := cell_below c0 hbr
      have c1 := cell_below c1 hbr
      have gc := cell_below gc hbr
      have hc := cell_below hc hbr
      have hzc := block_lt c0
      have hzg := block_lt gc
      have hzh := block_lt hc
      have haI : (a : Int) < P.length := by omega
      have hbI : (b : Int) < (gr P a).length := by omega
      have hnI : (n : Int) < N := by omega
      have HbR := Lib.hid (HBL.out.trans (hbr.mono HBL.out.size))
      have Hbr := Lib.hid hbr
      have HAtn := Lib.hid (fun W (hW : Below w.heap.size w W) => HAt.out a b hac hbc W hW)
      have HX := Lib.hid (HEN.out n)
      have hm := HBd.out n hn
      rw [egc] at HX
      have HX : Hid (endN s P (n + 1) = max (endN s P n) (gi (gr P a) b + (gs (gj s.J a) b).2.1)) := Lib.hid (by
        rw [HX.out]
        unfold sttP stpP
        simp only [Int.toNat_natCast])
      have hv0 : 0 ≤ gi (gr P a) b + (gs (gj s.J a) b).2.1 ∧ gi (gr P a) b + (gs (gj s.J a) b).2.1 ≤ 200000000 := by unfold stpOk at hspc; have := HVV.out.1; omega
      generalize gi (gr P a) b = x at *
      generalize gs (gj s.J a) b = y at *
      have f1 : ∀ W, (Instr.field 57 (.agg #[.int .i64 y.1, .int .i64 y.2.1, .int .i64 y.2.2.1, .int .i64 y.2.2.2]) 1).run Try.prog W = .ok (.int .i64 y.2.1) W := fun _ => by kernel_rfl
      obtain ⟨v, hv⟩ : ∃ v, x + y.2.1 = v := ⟨_, rfl⟩
      have hw : IntKind.i64.wrap (x + y.2.1) = v := by rw [hv]; exact IntWalk.i64_in _ (by omega)
      rw [hv] at HX hv0
      clear hv
      generalize endN s P n = mc at *
      clear hbr HAt HEN HBd HR HLa HC HO HVV HPJ egc hac hbc haPc hbPc hrowc eac hstc hspc HEV
      rcases Int.lt_trichotomy mc v with hl | hl | hl
      · have HR := Lib.hid (HX.out.trans (show max mc v = v by omega))
        clear HX
        go_wp2_with fail
        refine wp_region_held_drew (S := fun w' => Below wr.heap.size wr w') (by kernel_rfl) ((Below.refl _ _).drew) (fun hHeld => ?_)
        refine takeU (i := 0) (some 16) (.int .i64 mc) (by kernel_rfl) (by kernel_rfl) (by kernel_rfl) (by kernel_rfl) (by kernel_rfl) (fun _ => by kernel_rfl) (fun _ _ _ h => h) hHeld ?_
        refine takeU (i := 1) (some 17) (.slice (some ⟨pb, po, none⟩) P.length cp) (by kernel_rfl) (by kernel_rfl) (by kernel_rfl) (by kernel_rfl) (by kernel_rfl) (fun _ => by kernel_rfl) (fun _ _ _ h => h) hHeld ?_
        refine takeU (i := 2) (some 18) (.slice (some ⟨lb, lo, none⟩) N lc) (by kernel_rfl) (by kernel_rfl) (by kernel_rfl) (by kernel_rfl) (by kernel_rfl) (fun _ => by kernel_rfl) (fun _ _ _ h => h) hHeld ?_
        refine takeU (i := 3) (some 19) (.int .i64 n) (by kernel_rfl) (by kernel_rfl) (by kernel_rfl) (by kernel_rfl) (by kernel_rfl) (fun _ => by kernel_rfl) (fun _ _ _ h => h) hHeld ?_
        refine wpAnyH_take (i := 4) (oi := { dst := some 20, op := Go.Op.indexAddr 36 (Go.Operand.tmp 18) (Go.Operand.tmp 19), type := 0, pos := "ref.go:184", after := #[{ on := 2, ground := Go.Ground.data }, { on := 3, ground := Go.Ground.data }], guard := none }) (v := .pointer (some ⟨lb, lo + n * 2, none⟩)) rfl (by kernel_rfl) (by kernel_rfl) (by kernel_rfl) (fun _ _ _ h => h) (.inl ⟨by kernel_rfl, fun w9 h9 => by
          clear hHeld h9
          go_simp⟩) hHeld ?_
        refine wpAnyH_take (i := 5) (oi := { dst := some 21, op := Go.Op.indexAddr 76 (Go.Operand.tmp 20) (Go.Operand.const (Go.Value.int Go.IntKind.i64 0)), type := 0, pos := "ref.go:184", after := #[{ on := 4, ground := Go.Ground.data }], guard := none }) (v := .pointer (some ⟨lb, lo + n * 2, none⟩)) rfl (by kernel_rfl) (by kernel_rfl) (by kernel_rfl) (fun _ _ _ h => h) (.inl ⟨by kernel_rfl, fun w9 h9 => by
          clear hHeld h9
          go_simp⟩) hHeld ?_
        refine wpAnyH_take (i := 6) (oi := { dst := some 22, op := Go.Op.load 3 (Go.Operand.tmp 21), type := 3, pos := "ref.go:184", after := #[{ on := 5, ground := Go.Ground.data }], guard := none }) (v := .int .i64 a) rfl (by kernel_rfl) (by kernel_rfl) (by kernel_rfl) (fun _ _ _ h => h) (.inl ⟨by kernel_rfl, fun w9 h9 => by
          clear hHeld
          have d0 := (h9.cell (p := ⟨lb, lo + n * 2, none⟩) hzc).trans c0
          clear h9
          go_simp⟩) hHeld ?_
        refine wpAnyH_take (i := 7) (oi := { dst := some 23, op := Go.Op.indexAddr 26 (Go.Operand.tmp 17) (Go.Operand.tmp 22), type := 0, pos := "ref.go:184", after := #[{ on := 1, ground := Go.Ground.data }, { on := 6, ground := Go.Ground.data }], guard := none }) (v := .pointer (some ⟨pb, po + a, none⟩)) rfl (by kernel_rfl) (by kernel_rfl) (by kernel_rfl) (fun _ _ _ h => h) (.inl ⟨by kernel_rfl, fun w9 h9 => by
          clear hHeld h9
          go_simp⟩) hHeld ?_
        refine wpAnyH_take (i := 8) (oi := { dst := some 24, op := Go.Op.load 22 (Go.Operand.tmp 23), type := 22, pos := "ref.go:184", after := #[{ on := 7, ground := Go.Ground.data }], guard := none }) (v := .slice (some ⟨rb, ro, none⟩) (gr P a).length (cq a)) rfl (by kernel_rfl) (by kernel_rfl) (by kernel_rfl) (fun _ _ _ h => h) (.inl ⟨by kernel_rfl, fun w9 h9 => by
          clear hHeld
          have d0 := (h9.cell (p := ⟨pb, po + a, none⟩) hzg).trans gc
          clear h9
          go_simp⟩) hHeld ?_
        refine takeU (i := 9) (some 25) (.slice (some ⟨lb, lo, none⟩) N lc) (by kernel_rfl) (by kernel_rfl) (by kernel_rfl) (by kernel_rfl) (by kernel_rfl) (fun _ => by kernel_rfl) (fun _ _ _ h => h) hHeld ?_
        refine takeU (i := 10) (some 26) (.int .i64 n) (by kernel_rfl) (by kernel_rfl) (by kernel_rfl) (by kernel_rfl) (by kernel_rfl) (fun _ => by kernel_rfl) (fun _ _ _ h => h) hHeld ?_
        refine wpAnyH_take (i := 11) (oi := { dst := some 27, op := Go.Op.indexAddr 36 (Go.Operand.tmp 25) (Go.Operand.tmp 26), type := 0, pos := "ref.go:184", after := #[{ on := 9, ground := Go.Ground.data }, { on := 10, ground := Go.Ground.data }], guard := none }) (v := .pointer (some ⟨lb, lo + n * 2, none⟩)) rfl (by kernel_rfl) (by kernel_rfl) (by kernel_rfl) (fun _ _ _ h => h) (.inl ⟨by kernel_rfl, fun w9 h9 => by
          clear hHeld h9
          go_simp⟩) hHeld ?_
        refine wpAnyH_take (i := 12) (oi := { dst := some 28, op := Go.Op.indexAddr 76 (Go.Operand.tmp 27) (Go.Operand.const (Go.Value.int Go.IntKind.i64 1)), type := 0, pos := "ref.go:184", after := #[{ on := 11, ground := Go.Ground.data }], guard := none }) (v := .pointer (some ⟨lb, lo + n * 2 + 1, none⟩)) rfl (by kernel_rfl) (by kernel_rfl) (by kernel_rfl) (fun _ _ _ h => h) (.inl ⟨by kernel_rfl, fun w9 h9 => by
          clear hHeld h9
          go_simp⟩) hHeld ?_
        refine wpAnyH_take (i := 13) (oi := { dst := some 29, op := Go.Op.load 3 (Go.Operand.tmp 28), type := 3, pos := "ref.go:184", after := #[{ on := 12, ground := Go.Ground.data }], guard := none }) (v := .int .i64 b) rfl (by kernel_rfl) (by kernel_rfl) (by kernel_rfl) (fun _ _ _ h => h) (.inl ⟨by kernel_rfl, fun w9 h9 => by
          clear hHeld
          have d0 := (h9.cell (p := ⟨lb, lo + n * 2 + 1, none⟩) hzc).trans c1
          clear h9
          go_simp⟩) hHeld ?_
        refine wpAnyH_take (i := 14) (oi := { dst := some 30, op := Go.Op.indexAddr 22 (Go.Operand.tmp 24) (Go.Operand.tmp 29), type := 0, pos := "ref.go:184", after := #[{ on := 8, ground := Go.Ground.data }, { on := 13, ground := Go.Ground.data }], guard := none }) (v := .pointer (some ⟨rb, ro + b, none⟩)) rfl (by kernel_rfl) (by kernel_rfl) (by kernel_rfl) (fun _ _ _ h => h) (.inl ⟨by kernel_rfl, fun w9 h9 => by
          clear hHeld h9
          go_simp⟩) hHeld ?_
        refine wpAnyH_take (i := 15) (oi := { dst := some 31, op := Go.Op.load 3 (Go.Operand.tmp 30), type := 3, pos := "ref.go:184", after := #[{ on := 14, ground := Go.Ground.data }], guard := none }) (v := .int .i64 x) rfl (by kernel_rfl) (by kernel_rfl) (by kernel_rfl) (fun _ _ _ h => h) (.inl ⟨by kernel_rfl, fun w9 h9 => by
          clear hHeld
          have d0 := (h9.cell (p := ⟨rb, ro + b, none⟩) hzh).trans hc
          clear h9
          go_simp⟩) hHeld ?_
        refine wpAnyH_take (i := 16) (oi := { dst := some 32, op := Go.Op.load 25 (Go.Operand.tmp 2), type := 25, pos := "ref.go:184", after := #[], guard := none }) (v := .agg #[.int .i64 s.O, .int .i64 s.C, .slice s.aH s.H.length s.cH, .int .i64 s.M, .slice s.aS s.S.length s.cS, .slice s.aJ s.J.length s.cJ]) rfl (by kernel_rfl) (by kernel_rfl) (by kernel_rfl) (fun _ _ _ h => h) (.inl ⟨by kernel_rfl, fun w9 h9 => by
          clear hHeld
          have d0 := (h9.cell (p := ⟨w.heap.size, 0, none⟩) hzp).trans p0
          have d1 := (h9.cell (p := ⟨w.heap.size, 1, none⟩) hzp).trans p1
          have d2 := (h9.cell (p := ⟨w.heap.size, 2, none⟩) hzp).trans p2
          have d3 := (h9.cell (p := ⟨w.heap.size, 3, none⟩) hzp).trans p3
          have d4 := (h9.cell (p := ⟨w.heap.size, 4, none⟩) hzp).trans p4
          have d5 := (h9.cell (p := ⟨w.heap.size, 5, none⟩) hzp).trans p5
          clear h9
          go_simp⟩) hHeld ?_
        refine takeU (i := 17) (some 33) (.slice (some ⟨lb, lo, none⟩) N lc) (by kernel_rfl) (by kernel_rfl) (by kernel_rfl) (by kernel_rfl) (by kernel_rfl) (fun _ => by kernel_rfl) (fun _ _ _ h => h) hHeld ?_
        refine takeU (i := 18) (some 34) (.int .i64 n) (by kernel_rfl) (by kernel_rfl) (by kernel_rfl) (by kernel_rfl) (by kernel_rfl) (fun _ => by kernel_rfl) (fun _ _ _ h => h) hHeld ?_
        refine wpAnyH_take (i := 19) (oi := { dst := some 35, op := Go.Op.indexAddr 36 (Go.Operand.tmp 33) (Go.Operand.tmp 34), type := 0, pos := "ref.go:184", after := #[{ on := 17, ground := Go.Ground.data }, { on := 18, ground := Go.Ground.data }], guard := none }) (v := .pointer (some ⟨lb, lo + n * 2, none⟩)) rfl (by kernel_rfl) (by kernel_rfl) (by kernel_rfl) (fun _ _ _ h => h) (.inl ⟨by kernel_rfl, fun w9 h9 => by
          clear hHeld h9
          go_simp⟩) hHeld ?_
        refine wpAnyH_take (i := 20) (oi := { dst := some 36, op := Go.Op.load 76 (Go.Operand.tmp 35), type := 76, pos := "ref.go:184", after := #[{ on := 19, ground := Go.Ground.data }], guard := none }) (v := .agg #[.int .i64 a, .int .i64 b]) rfl (by kernel_rfl) (by kernel_rfl) (by kernel_rfl) (fun _ _ _ h => h) (.inl ⟨by kernel_rfl, fun w9 h9 => by
          clear hHeld
          have d0 := (h9.cell (p := ⟨lb, lo + n * 2, none⟩) hzc).trans c0
          have d1 := (h9.cell (p := ⟨lb, lo + n * 2 + 1, none⟩) hzc).trans c1
          clear h9
          go_simp⟩) hHeld ?_
        try simp only [Act.put, List.setIfInBounds_toArray, List.set_cons_zero, List.set_cons_succ]
        refine wpAnyH_ready (rs := [21]) (by kernel_rfl) (by simp) ?_
        refine AllReadyH.cons (o := { dst := some 37, op := Go.Op.call { callee := Go.Callee.value (Go.Operand.func 49), args := #[Go.Operand.tmp 32, Go.Operand.tmp 36], argTypes := #[25, 76] }, type := 57, pos := "ref.go:184", after := #[{ on := 16, ground := Go.Ground.data }, { on := 20, ground := Go.Ground.data }], guard := none }) rfl (fun K hK => ?_) AllReadyH.nil
        go_simp
        go_at_call 49
        refine (HAtn.out _ (HbR.out.trans (hHeld.mono HbR.out.size))).mono ?_
        rintro e w219 ⟨rfl, hb219⟩
        refine hK.out _ _ (hHeld.trans (hb219.mono hHeld.size)) (fun hHeld => ?_)
        clear hK K hb219
        try simp only [Act.put, List.setIfInBounds_toArray, List.set_cons_zero, List.set_cons_succ]
        refine wpAnyH_take (i := 22) (oi := { dst := some 38, op := Go.Op.field 57 (Go.Operand.tmp 37) 1, type := 3, pos := "ref.go:184", after := #[{ on := 21, ground := Go.Ground.data }], guard := none }) (v := .int .i64 y.2.1) rfl (by kernel_rfl) (by kernel_rfl) (by kernel_rfl) (fun _ _ _ h => h) (.inl ⟨by kernel_rfl, fun w9 h9 => by
          clear hHeld h9
          go_simp⟩) hHeld ?_
        refine wpAnyH_take (i := 23) (oi := { dst := some 39, op := Go.Op.binOp Go.BinOp.add 3 (Go.Operand.tmp 31) (Go.Operand.tmp 38) 3, type := 3, pos := "ref.go:184", after := #[{ on := 15, ground := Go.Ground.data }, { on := 22, ground := Go.Ground.data }], guard := none }) (v := .int .i64 v) rfl (by kernel_rfl) (by kernel_rfl) (by kernel_rfl) (fun _ _ _ h => h) (.inl ⟨by kernel_rfl, fun w9 h9 => by
          clear hHeld h9
          go_simp⟩) hHeld ?_
        refine wpAnyH_take (i := 24) (oi := { dst := some 40, op := Go.Op.call { callee := Go.Callee.builtin Go.Builtin.max, args := #[Go.Operand.tmp 16, Go.Operand.tmp 39], argTypes := #[3, 3] }, type := 3, pos := "ref.go:184", after := #[{ on := 0, ground := Go.Ground.data }, { on := 23, ground := Go.Ground.data }], guard := none }) (v := .int .i64 v) rfl (by kernel_rfl) (by kernel_rfl) (by kernel_rfl) (fun _ _ _ h => h) (.inl ⟨by kernel_rfl, fun w9 h9 => by
          clear hHeld h9
          go_simp
          all_goals (first | omega | (intro h9; omega))⟩) hHeld ?_
        refine takeU (i := 25) (some 5) (.int .i64 v) (by kernel_rfl) (by kernel_rfl) (by kernel_rfl) (by kernel_rfl) (by kernel_rfl) (fun _ => by kernel_rfl) (fun _ _ _ h => h) hHeld ?_
        refine wpAnyH_done (by kernel_rfl) ?_ _
        try simp only [Act.put, List.setIfInBounds_toArray, List.set_cons_zero, List.set_cons_succ]
        have HbY := Lib.hid (Hbr.out.trans (hHeld.mono Hbr.out.size))
        clear p0 p1 p2 p3 p4 p5 c0 c1 gc hc hzp hzc hzg hzh HbR Hbr hHeld
        go_wp2_with fail
        go_roundw
        case rel => first | exact ⟨n + 1, by omega, by go_num, by rw [HR.out], HbY.out⟩ | ((repeat apply Exists.intro); exact ⟨⟨n + 1, by omega, by go_num, by rw [HR.out], HbY.out⟩, rfl⟩)
        case measure => first | (simp [intOf]; done) | (simp [intOf]; omega)
      · have HR := Lib.hid (HX.out.trans (show max mc v = v by omega))
        clear HX
        subst hl
        go_wp2_with fail
        refine wp_region_held_drew (S := fun w' => Below wr.heap.size wr w') (by kernel_rfl) ((Below.refl _ _).drew) (fun hHeld => ?_)
        refine takeU (i := 0) (some 16) (.int .i64 mc) (by kernel_rfl) (by kernel_rfl) (by kernel_rfl) (by kernel_rfl) (by kernel_rfl) (fun _ => by kernel_rfl) (fun _ _ _ h => h) hHeld ?_
        refine takeU (i := 1) (some 17) (.slice (some ⟨pb, po, none⟩) P.length cp) (by kernel_rfl) (by kernel_rfl) (by kernel_rfl) (by kernel_rfl) (by kernel_rfl) (fun _ => by kernel_rfl) (fun _ _ _ h => h) hHeld ?_
        refine takeU (i := 2) (some 18) (.slice (some ⟨lb, lo, none⟩) N lc) (by kernel_rfl) (by kernel_rfl) (by kernel_rfl) (by kernel_rfl) (by kernel_rfl) (fun _ => by kernel_rfl) (fun _ _ _ h => h) hHeld ?_
        refine takeU (i := 3) (some 19) (.int .i64 n) (by kernel_rfl) (by kernel_rfl) (by kernel_rfl) (by kernel_rfl) (by kernel_rfl) (fun _ => by kernel_rfl) (fun _ _ _ h => h) hHeld ?_
        refine wpAnyH_take (i := 4) (oi := { dst := some 20, op := Go.Op.indexAddr 36 (Go.Operand.tmp 18) (Go.Operand.tmp 19), type := 0, pos := "ref.go:184", after := #[{ on := 2, ground := Go.Ground.data }, { on := 3, ground := Go.Ground.data }], guard := none }) (v := .pointer (some ⟨lb, lo + n * 2, none⟩)) rfl (by kernel_rfl) (by kernel_rfl) (by kernel_rfl) (fun _ _ _ h => h) (.inl ⟨by kernel_rfl, fun w9 h9 => by
          clear hHeld h9
          go_simp⟩) hHeld ?_
        refine wpAnyH_take (i := 5) (oi := { dst := some 21, op := Go.Op.indexAddr 76 (Go.Operand.tmp 20) (Go.Operand.const (Go.Value.int Go.IntKind.i64 0)), type := 0, pos := "ref.go:184", after := #[{ on := 4, ground := Go.Ground.data }], guard := none }) (v := .pointer (some ⟨lb, lo + n * 2, none⟩)) rfl (by kernel_rfl) (by kernel_rfl) (by kernel_rfl) (fun _ _ _ h => h) (.inl ⟨by kernel_rfl, fun w9 h9 => by
          clear hHeld h9
          go_simp⟩) hHeld ?_
        refine wpAnyH_take (i := 6) (oi := { dst := some 22, op := Go.Op.load 3 (Go.Operand.tmp 21), type := 3, pos := "ref.go:184", after := #[{ on := 5, ground := Go.Ground.data }], guard := none }) (v := .int .i64 a) rfl (by kernel_rfl) (by kernel_rfl) (by kernel_rfl) (fun _ _ _ h => h) (.inl ⟨by kernel_rfl, fun w9 h9 => by
          clear hHeld
          have d0 := (h9.cell (p := ⟨lb, lo + n * 2, none⟩) hzc).trans c0
          clear h9
          go_simp⟩) hHeld ?_
        refine wpAnyH_take (i := 7) (oi := { dst := some 23, op := Go.Op.indexAddr 26 (Go.Operand.tmp 17) (Go.Operand.tmp 22), type := 0, pos := "ref.go:184", after := #[{ on := 1, ground := Go.Ground.data }, { on := 6, ground := Go.Ground.data }], guard := none }) (v := .pointer (some ⟨pb, po + a, none⟩)) rfl (by kernel_rfl) (by kernel_rfl) (by kernel_rfl) (fun _ _ _ h => h) (.inl ⟨by kernel_rfl, fun w9 h9 => by
          clear hHeld h9
          go_simp⟩) hHeld ?_
        refine wpAnyH_take (i := 8) (oi := { dst := some 24, op := Go.Op.load 22 (Go.Operand.tmp 23), type := 22, pos := "ref.go:184", after := #[{ on := 7, ground := Go.Ground.data }], guard := none }) (v := .slice (some ⟨rb, ro, none⟩) (gr P a).length (cq a)) rfl (by kernel_rfl) (by kernel_rfl) (by kernel_rfl) (fun _ _ _ h => h) (.inl ⟨by kernel_rfl, fun w9 h9 => by
          clear hHeld
          have d0 := (h9.cell (p := ⟨pb, po + a, none⟩) hzg).trans gc
          clear h9
          go_simp⟩) hHeld ?_
        refine takeU (i := 9) (some 25) (.slice (some ⟨lb, lo, none⟩) N lc) (by kernel_rfl) (by kernel_rfl) (by kernel_rfl) (by kernel_rfl) (by kernel_rfl) (fun _ => by kernel_rfl) (fun _ _ _ h => h) hHeld ?_
        refine takeU (i := 10) (some 26) (.int .i64 n) (by kernel_rfl) (by kernel_rfl) (by kernel_rfl) (by kernel_rfl) (by kernel_rfl) (fun _ => by kernel_rfl) (fun _ _ _ h => h) hHeld ?_
        refine wpAnyH_take (i := 11) (oi := { dst := some 27, op := Go.Op.indexAddr 36 (Go.Operand.tmp 25) (Go.Operand.tmp 26), type := 0, pos := "ref.go:184", after := #[{ on := 9, ground := Go.Ground.data }, { on := 10, ground := Go.Ground.data }], guard := none }) (v := .pointer (some ⟨lb, lo + n * 2, none⟩)) rfl (by kernel_rfl) (by kernel_rfl) (by kernel_rfl) (fun _ _ _ h => h) (.inl ⟨by kernel_rfl, fun w9 h9 => by
          clear hHeld h9
          go_simp⟩) hHeld ?_
        refine wpAnyH_take (i := 12) (oi := { dst := some 28, op := Go.Op.indexAddr 76 (Go.Operand.tmp 27) (Go.Operand.const (Go.Value.int Go.IntKind.i64 1)), type := 0, pos := "ref.go:184", after := #[{ on := 11, ground := Go.Ground.data }], guard := none }) (v := .pointer (some ⟨lb, lo + n * 2 + 1, none⟩)) rfl (by kernel_rfl) (by kernel_rfl) (by kernel_rfl) (fun _ _ _ h => h) (.inl ⟨by kernel_rfl, fun w9 h9 => by
          clear hHeld h9
          go_simp⟩) hHeld ?_
        refine wpAnyH_take (i := 13) (oi := { dst := some 29, op := Go.Op.load 3 (Go.Operand.tmp 28), type := 3, pos := "ref.go:184", after := #[{ on := 12, ground := Go.Ground.data }], guard := none }) (v := .int .i64 b) rfl (by kernel_rfl) (by kernel_rfl) (by kernel_rfl) (fun _ _ _ h => h) (.inl ⟨by kernel_rfl, fun w9 h9 => by
          clear hHeld
          have d0 := (h9.cell (p := ⟨lb, lo + n * 2 + 1, none⟩) hzc).trans c1
          clear h9
          go_simp⟩) hHeld ?_
        refine wpAnyH_take (i := 14) (oi := { dst := some 30, op := Go.Op.indexAddr 22 (Go.Operand.tmp 24) (Go.Operand.tmp 29), type := 0, pos := "ref.go:184", after := #[{ on := 8, ground := Go.Ground.data }, { on := 13, ground := Go.Ground.data }], guard := none }) (v := .pointer (some ⟨rb, ro + b, none⟩)) rfl (by kernel_rfl) (by kernel_rfl) (by kernel_rfl) (fun _ _ _ h => h) (.inl ⟨by kernel_rfl, fun w9 h9 => by
          clear hHeld h9
          go_simp⟩) hHeld ?_
        refine wpAnyH_take (i := 15) (oi := { dst := some 31, op := Go.Op.load 3 (Go.Operand.tmp 30), type := 3, pos := "ref.go:184", after := #[{ on := 14, ground := Go.Ground.data }], guard := none }) (v := .int .i64 x) rfl (by kernel_rfl) (by kernel_rfl) (by kernel_rfl) (fun _ _ _ h => h) (.inl ⟨by kernel_rfl, fun w9 h9 => by
          clear hHeld
          have d0 := (h9.cell (p := ⟨rb, ro + b, none⟩) hzh).trans hc
          clear h9
          go_simp⟩) hHeld ?_
        refine wpAnyH_take (i := 16) (oi := { dst := some 32, op := Go.Op.load 25 (Go.Operand.tmp 2), type := 25, pos := "ref.go:184", after := #[], guard := none }) (v := .agg #[.int .i64 s.O, .int .i64 s.C, .slice s.aH s.H.length s.cH, .int .i64 s.M, .slice s.aS s.S.length s.cS, .slice s.aJ s.J.length s.cJ]) rfl (by kernel_rfl) (by kernel_rfl) (by kernel_rfl) (fun _ _ _ h => h) (.inl ⟨by kernel_rfl, fun w9 h9 => by
          clear hHeld
          have d0 := (h9.cell (p := ⟨w.heap.size, 0, none⟩) hzp).trans p0
          have d1 := (h9.cell (p := ⟨w.heap.size, 1, none⟩) hzp).trans p1
          have d2 := (h9.cell (p := ⟨w.heap.size, 2, none⟩) hzp).trans p2
          have d3 := (h9.cell (p := ⟨w.heap.size, 3, none⟩) hzp).trans p3
          have d4 := (h9.cell (p := ⟨w.heap.size, 4, none⟩) hzp).trans p4
          have d5 := (h9.cell (p := ⟨w.heap.size, 5, none⟩) hzp).trans p5
          clear h9
          go_simp⟩) hHeld ?_
        refine takeU (i := 17) (some 33) (.slice (some ⟨lb, lo, none⟩) N lc) (by kernel_rfl) (by kernel_rfl) (by kernel_rfl) (by kernel_rfl) (by kernel_rfl) (fun _ => by kernel_rfl) (fun _ _ _ h => h) hHeld ?_
        refine takeU (i := 18) (some 34) (.int .i64 n) (by kernel_rfl) (by kernel_rfl) (by kernel_rfl) (by kernel_rfl) (by kernel_rfl) (fun _ => by kernel_rfl) (fun _ _ _ h => h) hHeld ?_
        refine wpAnyH_take (i := 19) (oi := { dst := some 35, op := Go.Op.indexAddr 36 (Go.Operand.tmp 33) (Go.Operand.tmp 34), type := 0, pos := "ref.go:184", after := #[{ on := 17, ground := Go.Ground.data }, { on := 18, ground := Go.Ground.data }], guard := none }) (v := .pointer (some ⟨lb, lo + n * 2, none⟩)) rfl (by kernel_rfl) (by kernel_rfl) (by kernel_rfl) (fun _ _ _ h => h) (.inl ⟨by kernel_rfl, fun w9 h9 => by
          clear hHeld h9
          go_simp⟩) hHeld ?_
        refine wpAnyH_take (i := 20) (oi := { dst := some 36, op := Go.Op.load 76 (Go.Operand.tmp 35), type := 76, pos := "ref.go:184", after := #[{ on := 19, ground := Go.Ground.data }], guard := none }) (v := .agg #[.int .i64 a, .int .i64 b]) rfl (by kernel_rfl) (by kernel_rfl) (by kernel_rfl) (fun _ _ _ h => h) (.inl ⟨by kernel_rfl, fun w9 h9 => by
          clear hHeld
          have d0 := (h9.cell (p := ⟨lb, lo + n * 2, none⟩) hzc).trans c0
          have d1 := (h9.cell (p := ⟨lb, lo + n * 2 + 1, none⟩) hzc).trans c1
          clear h9
          go_simp⟩) hHeld ?_
        try simp only [Act.put, List.setIfInBounds_toArray, List.set_cons_zero, List.set_cons_succ]
        refine wpAnyH_ready (rs := [21]) (by kernel_rfl) (by simp) ?_
        refine AllReadyH.cons (o := { dst := some 37, op := Go.Op.call { callee := Go.Callee.value (Go.Operand.func 49), args := #[Go.Operand.tmp 32, Go.Operand.tmp 36], argTypes := #[25, 76] }, type := 57, pos := "ref.go:184", after := #[{ on := 16, ground := Go.Ground.data }, { on := 20, ground := Go.Ground.data }], guard := none }) rfl (fun K hK => ?_) AllReadyH.nil
        go_simp
        go_at_call 49
        refine (HAtn.out _ (HbR.out.trans (hHeld.mono HbR.out.size))).mono ?_
        rintro e w219 ⟨rfl, hb219⟩
        refine hK.out _ _ (hHeld.trans (hb219.mono hHeld.size)) (fun hHeld => ?_)
        clear hK K hb219
        try simp only [Act.put, List.setIfInBounds_toArray, List.set_cons_zero, List.set_cons_succ]
        refine wpAnyH_take (i := 22) (oi := { dst := some 38, op := Go.Op.field 57 (Go.Operand.tmp 37) 1, type := 3, pos := "ref.go:184", after := #[{ on := 21, ground := Go.Ground.data }], guard := none }) (v := .int .i64 y.2.1) rfl (by kernel_rfl) (by kernel_rfl) (by kernel_rfl) (fun _ _ _ h => h) (.inl ⟨by kernel_rfl, fun w9 h9 => by
          clear hHeld h9
          go_simp⟩) hHeld ?_
        refine wpAnyH_take (i := 23) (oi := { dst := some 39, op := Go.Op.binOp Go.BinOp.add 3 (Go.Operand.tmp 31) (Go.Operand.tmp 38) 3, type := 3, pos := "ref.go:184", after := #[{ on := 15, ground := Go.Ground.data }, { on := 22, ground := Go.Ground.data }], guard := none }) (v := .int .i64 mc) rfl (by kernel_rfl) (by kernel_rfl) (by kernel_rfl) (fun _ _ _ h => h) (.inl ⟨by kernel_rfl, fun w9 h9 => by
          clear hHeld h9
          go_simp⟩) hHeld ?_
        refine wpAnyH_take (i := 24) (oi := { dst := some 40, op := Go.Op.call { callee := Go.Callee.builtin Go.Builtin.max, args := #[Go.Operand.tmp 16, Go.Operand.tmp 39], argTypes := #[3, 3] }, type := 3, pos := "ref.go:184", after := #[{ on := 0, ground := Go.Ground.data }, { on := 23, ground := Go.Ground.data }], guard := none }) (v := .int .i64 mc) rfl (by kernel_rfl) (by kernel_rfl) (by kernel_rfl) (fun _ _ _ h => h) (.inl ⟨by kernel_rfl, fun w9 h9 => by
          clear hHeld h9
          go_simp
          all_goals (first | omega | (intro h9; omega))⟩) hHeld ?_
        refine takeU (i := 25) (some 5) (.int .i64 mc) (by kernel_rfl) (by kernel_rfl) (by kernel_rfl) (by kernel_rfl) (by kernel_rfl) (fun _ => by kernel_rfl) (fun _ _ _ h => h) hHeld ?_
        refine wpAnyH_done (by kernel_rfl) ?_ _
        try simp only [Act.put, List.setIfInBounds_toArray, List.set_cons_zero, List.set_cons_succ]
        have HbY := Lib.hid (Hbr.out.trans (hHeld.mono Hbr.out.size))
        clear p0 p1 p2 p3 p4 p5 c0 c1 gc hc hzp hzc hzg hzh HbR Hbr hHeld
        go_wp2_with fail
        go_roundw
        case rel => first | exact ⟨n + 1, by omega, by go_num, by rw [HR.out], HbY.out⟩ | ((repeat apply Exists.intro); exact ⟨⟨n + 1, by omega, by go_num, by rw [HR.out], HbY.out⟩, rfl⟩)
        case measure => first | (simp [intOf]; done) | (simp [intOf]; omega)
      · have HR := Lib.hid (HX.out.trans (show max mc v = mc by omega))
        have hl2 : ¬ (mc < v) := by omega
        clear HX
        go_wp2_with fail
        refine wp_region_held_drew (S := fun w' => Below wr.heap.size wr w') (by kernel_rfl) ((Below.refl _ _).drew) (fun hHeld => ?_)
        refine takeU (i := 0) (some 16) (.int .i64 mc) (by kernel_rfl) (by kernel_rfl) (by kernel_rfl) (by kernel_rfl) (by kernel_rfl) (fun _ => by kernel_rfl) (fun _ _ _ h => h) hHeld ?_
        refine takeU (i := 1) (some 17) (.slice (some ⟨pb, po, none⟩) P.length cp) (by kernel_rfl) (by kernel_rfl) (by kernel_rfl) (by kernel_rfl) (by kernel_rfl) (fun _ => by kernel_rfl) (fun _ _ _ h => h) hHeld ?_
        refine takeU (i := 2) (some 18) (.slice (some ⟨lb, lo, none⟩) N lc) (by kernel_rfl) (by kernel_rfl) (by kernel_rfl) (by kernel_rfl) (by kernel_rfl) (fun _ => by kernel_rfl) (fun _ _ _ h => h) hHeld ?_
        refine takeU (i := 3) (some 19) (.int .i64 n) (by kernel_rfl) (by kernel_rfl) (by kernel_rfl) (by kernel_rfl) (by kernel_rfl) (fun _ => by kernel_rfl) (fun _ _ _ h => h) hHeld ?_
        refine wpAnyH_take (i := 4) (oi := { dst := some 20, op := Go.Op.indexAddr 36 (Go.Operand.tmp 18) (Go.Operand.tmp 19), type := 0, pos := "ref.go:184", after := #[{ on := 2, ground := Go.Ground.data }, { on := 3, ground := Go.Ground.data }], guard := none }) (v := .pointer (some ⟨lb, lo + n * 2, none⟩)) rfl (by kernel_rfl) (by kernel_rfl) (by kernel_rfl) (fun _ _ _ h => h) (.inl ⟨by kernel_rfl, fun w9 h9 => by
          clear hHeld h9
          go_simp⟩) hHeld ?_
        refine wpAnyH_take (i := 5) (oi := { dst := some 21, op := Go.Op.indexAddr 76 (Go.Operand.tmp 20) (Go.Operand.const (Go.Value.int Go.IntKind.i64 0)), type := 0, pos := "ref.go:184", after := #[{ on := 4, ground := Go.Ground.data }], guard := none }) (v := .pointer (some ⟨lb, lo + n * 2, none⟩)) rfl (by kernel_rfl) (by kernel_rfl) (by kernel_rfl) (fun _ _ _ h => h) (.inl ⟨by kernel_rfl, fun w9 h9 => by
          clear hHeld h9
          go_simp⟩) hHeld ?_
        refine wpAnyH_take (i := 6) (oi := { dst := some 22, op := Go.Op.load 3 (Go.Operand.tmp 21), type := 3, pos := "ref.go:184", after := #[{ on := 5, ground := Go.Ground.data }], guard := none }) (v := .int .i64 a) rfl (by kernel_rfl) (by kernel_rfl) (by kernel_rfl) (fun _ _ _ h => h) (.inl ⟨by kernel_rfl, fun w9 h9 => by
          clear hHeld
          have d0 := (h9.cell (p := ⟨lb, lo + n * 2, none⟩) hzc).trans c0
          clear h9
          go_simp⟩) hHeld ?_
        refine wpAnyH_take (i := 7) (oi := { dst := some 23, op := Go.Op.indexAddr 26 (Go.Operand.tmp 17) (Go.Operand.tmp 22), type := 0, pos := "ref.go:184", after := #[{ on := 1, ground := Go.Ground.data }, { on := 6, ground := Go.Ground.data }], guard := none }) (v := .pointer (some ⟨pb, po + a, none⟩)) rfl (by kernel_rfl) (by kernel_rfl) (by kernel_rfl) (fun _ _ _ h => h) (.inl ⟨by kernel_rfl, fun w9 h9 => by
          clear hHeld h9
          go_simp⟩) hHeld ?_
        refine wpAnyH_take (i := 8) (oi := { dst := some 24, op := Go.Op.load 22 (Go.Operand.tmp 23), type := 22, pos := "ref.go:184", after := #[{ on := 7, ground := Go.Ground.data }], guard := none }) (v := .slice (some ⟨rb, ro, none⟩) (gr P a).length (cq a)) rfl (by kernel_rfl) (by kernel_rfl) (by kernel_rfl) (fun _ _ _ h => h) (.inl ⟨by kernel_rfl, fun w9 h9 => by
          clear hHeld
          have d0 := (h9.cell (p := ⟨pb, po + a, none⟩) hzg).trans gc
          clear h9
          go_simp⟩) hHeld ?_
        refine takeU (i := 9) (some 25) (.slice (some ⟨lb, lo, none⟩) N lc) (by kernel_rfl) (by kernel_rfl) (by kernel_rfl) (by kernel_rfl) (by kernel_rfl) (fun _ => by kernel_rfl) (fun _ _ _ h => h) hHeld ?_
        refine takeU (i := 10) (some 26) (.int .i64 n) (by kernel_rfl) (by kernel_rfl) (by kernel_rfl) (by kernel_rfl) (by kernel_rfl) (fun _ => by kernel_rfl) (fun _ _ _ h => h) hHeld ?_
        refine wpAnyH_take (i := 11) (oi := { dst := some 27, op := Go.Op.indexAddr 36 (Go.Operand.tmp 25) (Go.Operand.tmp 26), type := 0, pos := "ref.go:184", after := #[{ on := 9, ground := Go.Ground.data }, { on := 10, ground := Go.Ground.data }], guard := none }) (v := .pointer (some ⟨lb, lo + n * 2, none⟩)) rfl (by kernel_rfl) (by kernel_rfl) (by kernel_rfl) (fun _ _ _ h => h) (.inl ⟨by kernel_rfl, fun w9 h9 => by
          clear hHeld h9
          go_simp⟩) hHeld ?_
        refine wpAnyH_take (i := 12) (oi := { dst := some 28, op := Go.Op.indexAddr 76 (Go.Operand.tmp 27) (Go.Operand.const (Go.Value.int Go.IntKind.i64 1)), type := 0, pos := "ref.go:184", after := #[{ on := 11, ground := Go.Ground.data }], guard := none }) (v := .pointer (some ⟨lb, lo + n * 2 + 1, none⟩)) rfl (by kernel_rfl) (by kernel_rfl) (by kernel_rfl) (fun _ _ _ h => h) (.inl ⟨by kernel_rfl, fun w9 h9 => by
          clear hHeld h9
          go_simp⟩) hHeld ?_
        refine wpAnyH_take (i := 13) (oi := { dst := some 29, op := Go.Op.load 3 (Go.Operand.tmp 28), type := 3, pos := "ref.go:184", after := #[{ on := 12, ground := Go.Ground.data }], guard := none }) (v := .int .i64 b) rfl (by kernel_rfl) (by kernel_rfl) (by kernel_rfl) (fun _ _ _ h => h) (.inl ⟨by kernel_rfl, fun w9 h9 => by
          clear hHeld
          have d0 := (h9.cell (p := ⟨lb, lo + n * 2 + 1, none⟩) hzc).trans c1
          clear h9
          go_simp⟩) hHeld ?_
        refine wpAnyH_take (i := 14) (oi := { dst := some 30, op := Go.Op.indexAddr 22 (Go.Operand.tmp 24) (Go.Operand.tmp 29), type := 0, pos := "ref.go:184", after := #[{ on := 8, ground := Go.Ground.data }, { on := 13, ground := Go.Ground.data }], guard := none }) (v := .pointer (some ⟨rb, ro + b, none⟩)) rfl (by kernel_rfl) (by kernel_rfl) (by kernel_rfl) (fun _ _ _ h => h) (.inl ⟨by kernel_rfl, fun w9 h9 => by
          clear hHeld h9
          go_simp⟩) hHeld ?_
        refine wpAnyH_take (i := 15) (oi := { dst := some 31, op := Go.Op.load 3 (Go.Operand.tmp 30), type := 3, pos := "ref.go:184", after := #[{ on := 14, ground := Go.Ground.data }], guard := none }) (v := .int .i64 x) rfl (by kernel_rfl) (by kernel_rfl) (by kernel_rfl) (fun _ _ _ h => h) (.inl ⟨by kernel_rfl, fun w9 h9 => by
          clear hHeld
          have d0 := (h9.cell (p := ⟨rb, ro + b, none⟩) hzh).trans hc
          clear h9
          go_simp⟩) hHeld ?_
        refine wpAnyH_take (i := 16) (oi := { dst := some 32, op := Go.Op.load 25 (Go.Operand.tmp 2), type := 25, pos := "ref.go:184", after := #[], guard := none }) (v := .agg #[.int .i64 s.O, .int .i64 s.C, .slice s.aH s.H.length s.cH, .int .i64 s.M, .slice s.aS s.S.length s.cS, .slice s.aJ s.J.length s.cJ]) rfl (by kernel_rfl) (by kernel_rfl) (by kernel_rfl) (fun _ _ _ h => h) (.inl ⟨by kernel_rfl, fun w9 h9 => by
          clear hHeld
          have d0 := (h9.cell (p := ⟨w.heap.size, 0, none⟩) hzp).trans p0
          have d1 := (h9.cell (p := ⟨w.heap.size, 1, none⟩) hzp).trans p1
          have d2 := (h9.cell (p := ⟨w.heap.size, 2, none⟩) hzp).trans p2
          have d3 := (h9.cell (p := ⟨w.heap.size, 3, none⟩) hzp).trans p3
          have d4 := (h9.cell (p := ⟨w.heap.size, 4, none⟩) hzp).trans p4
          have d5 := (h9.cell (p := ⟨w.heap.size, 5, none⟩) hzp).trans p5
          clear h9
          go_simp⟩) hHeld ?_
        refine takeU (i := 17) (some 33) (.slice (some ⟨lb, lo, none⟩) N lc) (by kernel_rfl) (by kernel_rfl) (by kernel_rfl) (by kernel_rfl) (by kernel_rfl) (fun _ => by kernel_rfl) (fun _ _ _ h => h) hHeld ?_
        refine takeU (i := 18) (some 34) (.int .i64 n) (by kernel_rfl) (by kernel_rfl) (by kernel_rfl) (by kernel_rfl) (by kernel_rfl) (fun _ => by kernel_rfl) (fun _ _ _ h => h) hHeld ?_
        refine wpAnyH_take (i := 19) (oi := { dst := some 35, op := Go.Op.indexAddr 36 (Go.Operand.tmp 33) (Go.Operand.tmp 34), type := 0, pos := "ref.go:184", after := #[{ on := 17, ground := Go.Ground.data }, { on := 18, ground := Go.Ground.data }], guard := none }) (v := .pointer (some ⟨lb, lo + n * 2, none⟩)) rfl (by kernel_rfl) (by kernel_rfl) (by kernel_rfl) (fun _ _ _ h => h) (.inl ⟨by kernel_rfl, fun w9 h9 => by
          clear hHeld h9
          go_simp⟩) hHeld ?_
        refine wpAnyH_take (i := 20) (oi := { dst := some 36, op := Go.Op.load 76 (Go.Operand.tmp 35), type := 76, pos := "ref.go:184", after := #[{ on := 19, ground := Go.Ground.data }], guard := none }) (v := .agg #[.int .i64 a, .int .i64 b]) rfl (by kernel_rfl) (by kernel_rfl) (by kernel_rfl) (fun _ _ _ h => h) (.inl ⟨by kernel_rfl, fun w9 h9 => by
          clear hHeld
          have d0 := (h9.cell (p := ⟨lb, lo + n * 2, none⟩) hzc).trans c0
          have d1 := (h9.cell (p := ⟨lb, lo + n * 2 + 1, none⟩) hzc).trans c1
          clear h9
          go_simp⟩) hHeld ?_
        try simp only [Act.put, List.setIfInBounds_toArray, List.set_cons_zero, List.set_cons_succ]
        refine wpAnyH_ready (rs := [21]) (by kernel_rfl) (by simp) ?_
        refine AllReadyH.cons (o := { dst := some 37, op := Go.Op.call { callee := Go.Callee.value (Go.Operand.func 49), args := #[Go.Operand.tmp 32, Go.Operand.tmp 36], argTypes := #[25, 76] }, type := 57, pos := "ref.go:184", after := #[{ on := 16, ground := Go.Ground.data }, { on := 20, ground := Go.Ground.data }], guard := none }) rfl (fun K hK => ?_) AllReadyH.nil
        go_simp
        go_at_call 49
        refine (HAtn.out _ (HbR.out.trans (hHeld.mono HbR.out.size))).mono ?_
        rintro e w219 ⟨rfl, hb219⟩
        refine hK.out _ _ (hHeld.trans (hb219.mono hHeld.size)) (fun hHeld => ?_)
        clear hK K hb219
        try simp only [Act.put, List.setIfInBounds_toArray, List.set_cons_zero, List.set_cons_succ]
        refine wpAnyH_take (i := 22) (oi := { dst := some 38, op := Go.Op.field 57 (Go.Operand.tmp 37) 1, type := 3, pos := "ref.go:184", after := #[{ on := 21, ground := Go.Ground.data }], guard := none }) (v := .int .i64 y.2.1) rfl (by kernel_rfl) (by kernel_rfl) (by kernel_rfl) (fun _ _ _ h => h) (.inl ⟨by kernel_rfl, fun w9 h9 => by
          clear hHeld h9
          go_simp⟩) hHeld ?_
        refine wpAnyH_take (i := 23) (oi := { dst := some 39, op := Go.Op.binOp Go.BinOp.add 3 (Go.Operand.tmp 31) (Go.Operand.tmp 38) 3, type := 3, pos := "ref.go:184", after := #[{ on := 15, ground := Go.Ground.data }, { on := 22, ground := Go.Ground.data }], guard := none }) (v := .int .i64 v) rfl (by kernel_rfl) (by kernel_rfl) (by kernel_rfl) (fun _ _ _ h => h) (.inl ⟨by kernel_rfl, fun w9 h9 => by
          clear hHeld h9
          go_simp⟩) hHeld ?_
        refine wpAnyH_take (i := 24) (oi := { dst := some 40, op := Go.Op.call { callee := Go.Callee.builtin Go.Builtin.max, args := #[Go.Operand.tmp 16, Go.Operand.tmp 39], argTypes := #[3, 3] }, type := 3, pos := "ref.go:184", after := #[{ on := 0, ground := Go.Ground.data }, { on := 23, ground := Go.Ground.data }], guard := none }) (v := .int .i64 mc) rfl (by kernel_rfl) (by kernel_rfl) (by kernel_rfl) (fun _ _ _ h => h) (.inl ⟨by kernel_rfl, fun w9 h9 => by
          clear hHeld h9
          go_simp
          all_goals (first | omega | (intro h9; omega))⟩) hHeld ?_
        refine takeU (i := 25) (some 5) (.int .i64 mc) (by kernel_rfl) (by kernel_rfl) (by kernel_rfl) (by kernel_rfl) (by kernel_rfl) (fun _ => by kernel_rfl) (fun _ _ _ h => h) hHeld ?_
        refine wpAnyH_done (by kernel_rfl) ?_ _
        try simp only [Act.put, List.setIfInBounds_toArray, List.set_cons_zero, List.set_cons_succ]
        have HbY := Lib.hid (Hbr.out.trans (hHeld.mono Hbr.out.size))
        clear p0 p1 p2 p3 p4 p5 c0 c1 gc hc hzp hzc hzg hzh HbR Hbr hHeld
        go_wp2_with fail
        go_roundw
        case rel => first | exact ⟨n + 1, by omega, by go_num, by rw [HR.out], HbY.out⟩ | ((repeat apply Exists.intro); exact ⟨⟨n + 1, by omega, by go_num, by rw [HR.out], HbY.out⟩, rfl⟩)
        case measure => first | (simp [intOf]; done) | (simp [intOf]; omega)
    · obtain rfl : N = n := by omega
      go_wp2_with fail
      go_ret
      rw [HEV.out]
      exact ⟨rfl, HBL.out.trans (hbr.mono HBL.out.size)⟩
end Go.Proofs.Ytgphkfonjfdifaa

namespace Go.Proofs
open Go.Shelf
def Try.laysCloneI_ren : Go.Shelf.Ren := ⟨fun | 41 => 64 | n => n, fun | 22 => 22 | 23 => 3 | 4 => 4 | n => n, fun | n => n⟩
def Try.laysCloneT_ren : Go.Shelf.Ren := ⟨fun | 41 => 65 | n => n, fun | 22 => 53 | 23 => 57 | 4 => 4 | n => n, fun | n => n⟩
def Try.laysSortQ_ren : Go.Shelf.Ren := ⟨fun | 6 => 79 | 15 => 95 | 14 => 94 | 28 => 107 | 29 => 108 | 20 => 99 | 21 => 100 | 22 => 101 | 23 => 102 | 24 => 103 | 25 => 104 | 26 => 105 | 27 => 106 | 46 => 109 | 47 => 110 | 48 => 111 | 49 => 112 | 50 => 113 | 57 => 114 | n => n, fun | 22 => 62 | 24 => 67 | 25 => 87 | 3 => 3 | 39 => 113 | 0 => 0 | 53 => 127 | 55 => 129 | 4 => 4 | 46 => 121 | 45 => 120 | 50 => 99 | 5 => 5 | 9 => 9 | 66 => 130 | 70 => 134 | 76 => 136 | 77 => 137 | n => n, fun | n => n⟩
theorem Try.laysSortQ : Go.Proofs.SlLaysF0.n6 Try.prog Try.laysSortQ_ren := {
  mixed := by kernel_rfl
  f6 := ⟨Try.f79.name, by decide, Try.func79.trans (congrArg some (by kernel_rfl))⟩
  f14 := ⟨Try.f94.name, by decide, Try.func94.trans (congrArg some (by kernel_rfl))⟩
  f15 := Try.func95.trans (congrArg some (by kernel_rfl))
  f20 := ⟨Try.f99.name, by decide, Try.func99.trans (congrArg some (by kernel_rfl))⟩
  f21 := ⟨Try.f100.name, by decide, Try.func100.trans (congrArg some (by kernel_rfl))⟩
  f22 := ⟨Try.f101.name, by decide, Try.func101.trans (congrArg some (by kernel_rfl))⟩
  f23 := ⟨Try.f102.name, by decide, Try.func102.trans (congrArg some (by kernel_rfl))⟩
  f24 := ⟨Try.f103.name, by decide, Try.func103.trans (congrArg some (by kernel_rfl))⟩
  f25 := ⟨Try.f104.name, by decide, Try.func104.trans (congrArg some (by kernel_rfl))⟩
  f26 := ⟨Try.f105.name, by decide, Try.func105.trans (congrArg some (by kernel_rfl))⟩
  f27 := ⟨Try.f106.name, by decide, Try.func106.trans (congrArg some (by kernel_rfl))⟩
  f28 := Try.func107.trans (congrArg some (by kernel_rfl))
  f29 := Try.func108.trans (congrArg some (by kernel_rfl))
  f46 := ⟨Try.f109.name, by decide, Try.func109.trans (congrArg some (by kernel_rfl))⟩
  f47 := Try.func110.trans (congrArg some (by kernel_rfl))
  f48 := Try.func111.trans (congrArg some (by kernel_rfl))
  f49 := ⟨Try.f112.name, by decide, Try.func112.trans (congrArg some (by kernel_rfl))⟩
  f50 := ⟨Try.f113.name, by decide, Try.func113.trans (congrArg some (by kernel_rfl))⟩
  f57 := ⟨Try.f114.name, by decide, Try.func114.trans (congrArg some (by kernel_rfl))⟩
  t0 := Try.underlying0
  a0 := Try.isAgg0
  z0 := Try.sizeOf0
  v0 := Try.zeroValue0
  t3 := Try.underlying3
  a3 := Try.isAgg3
  z3 := Try.sizeOf3
  v3 := Try.zeroValue3
  t4 := Try.underlying4
  a4 := Try.isAgg4
  z4 := Try.sizeOf4
  v4 := Try.zeroValue4
  t5 := Try.underlying5
  a5 := Try.isAgg5
  z5 := Try.sizeOf5
  v5 := Try.zeroValue5
  t9 := Try.underlying9
  a9 := Try.isAgg9
  z9 := Try.sizeOf9
  v9 := Try.zeroValue9
  t22 := Try.underlying62
  a22 := Try.isAgg62
  z22 := Try.sizeOf62
  v22 := Try.zeroValue62
  t25 := Try.underlying87
  a25 := Try.isAgg87
  z25 := Try.sizeOf87
  v25 := Try.zeroValue87
  t39 := Try.underlying113
  a39 := Try.isAgg113
  z39 := Try.sizeOf113
  v39 := Try.zeroValue113
  t45 := Try.underlying120
  a45 := Try.isAgg120
  z45 := Try.sizeOf120
  v45 := Try.zeroValue120
  t46 := Try.underlying121
  a46 := Try.isAgg121
  z46 := Try.sizeOf121
  v46 := Try.zeroValue121
  t50 := Try.underlying99
  a50 := Try.isAgg99
  z50 := Try.sizeOf99
  v50 := Try.zeroValue99
  t53 := Try.underlying127
  a53 := Try.isAgg127
  z53 := Try.sizeOf127
  v53 := Try.zeroValue127
  t55 := Try.underlying129
  a55 := Try.isAgg129
  z55 := Try.sizeOf129
  v55 := Try.zeroValue129
  t66 := Try.underlying130
  a66 := Try.isAgg130
  z66 := Try.sizeOf130
  v66 := Try.zeroValue130
  t70 := Try.underlying134
  a70 := Try.isAgg134
  z70 := Try.sizeOf134
  v70 := Try.zeroValue134
  t76 := Try.underlying136
  a76 := Try.isAgg136
  z76 := Try.sizeOf136
  v76 := Try.zeroValue136
  t77 := Try.underlying137
  a77 := Try.isAgg137
  z77 := Try.sizeOf137
  v77 := Try.zeroValue137 }
end Go.Proofs

namespace Go.Proofs.Ytgphkfonjfdifaa
set_option linter.unusedVariables false
set_option linter.unusedSimpArgs false
open Go.RowKit

theorem grow_none (w : World) : Sort.grow w #[] = w := by simp [Sort.grow]
/-- Draws and blocks behind a world. -/
def GrownW (W w : World) : Prop := ∃ q os, w = Sort.grow (W.drewN q) os
theorem GrownW.refl (W : World) : GrownW W W := ⟨0, #[], by rw [grow_none]; rfl⟩
theorem GrownW.trans {A B C : World} (h1 : GrownW A B) (h2 : GrownW B C) : GrownW A C := by
  obtain ⟨q, os, rfl⟩ := h1
  obtain ⟨q', os', rfl⟩ := h2
  exact ⟨q + q', os ++ os', by simp [Sort.grow, World.drewN, Array.append_assoc, Nat.add_assoc]⟩
theorem GrownW.one (W : World) (o : Obj) : GrownW W (W.alloc o) := ⟨0, #[o], by rw [Sort.alloc_eq_grow]; rfl⟩
theorem GrownW.alloc {A B : World} (h : GrownW A B) (o : Obj) : GrownW A (B.alloc o) := h.trans (.one B o)
theorem GrownW.drew {A B : World} (h : GrownW A B) : GrownW A B.drew := h.trans ⟨1, #[], by rw [grow_none]; rfl⟩
theorem GrownW.below {A B : World} (h : GrownW A B) : Below A.heap.size A B := by
  obtain ⟨q, os, rfl⟩ := h
  exact Lib.below_grow _ _ (Nat.le_refl _) q os
theorem isNaNq_r (a : Int) (w : World) : Calls Try.prog 96 #[.int .i64 a] w fun e w' => e = .returned (.bool false) ∧ w' = w := by
  go_enter Try.func96, Try.ntmps96
  go_wp2
  go_ret
  exact ⟨rfl, rfl⟩
theorem compare_r (a b : Int) (w : World) : Calls Try.prog 81 #[.int .i64 a, .int .i64 b] w fun e w' => e = .returned (.int .i64 (Lib.compareInt a b)) ∧ w' = w := by
  unfold Lib.compareInt
  by_cases h1 : a < b
  · rw [if_pos h1]
    go_enter Try.func81, Try.ntmps81
    go_wp2_with (go_at_call 96; refine (isNaNq_r _ _).mono ?_; rintro e w' ⟨rfl, rfl⟩)
    go_ret
    exact ⟨rfl, rfl⟩
  · by_cases h2 : b < a
    · rw [if_neg h1, if_pos h2]
      go_enter Try.func81, Try.ntmps81
      go_wp2_with (go_at_call 96; refine (isNaNq_r _ _).mono ?_; rintro e w' ⟨rfl, rfl⟩)
      go_ret
      exact ⟨rfl, rfl⟩
    · rw [if_neg h1, if_neg (by omega)]
      go_enter Try.func81, Try.ntmps81
      go_wp2_with (go_at_call 96; refine (isNaNq_r _ _).mono ?_; rintro e w' ⟨rfl, rfl⟩)
      go_ret
      exact ⟨rfl, rfl⟩
theorem compare_q (a b : Int) (w : World) : Calls Try.prog 81 #[.int .i64 a, .int .i64 b] w fun e w' => e = .returned (.int .i64 (Lib.compareInt a b)) ∧ w = w' := (compare_r a b w).mono fun e w' h => ⟨h.1, h.2.symm⟩
/-- cmp.Or of three ints. -/
def or3V (x y z : Int) : Int := if x ≠ 0 then x else if y ≠ 0 then y else z
set_option maxRecDepth 100000 in
set_option maxHeartbeats 1000000 in
theorem or3_r (b : Nat) (x y z : Int) (w : World) (c0 : w.cell? ⟨b, 0, none⟩ = some (.int .i64 x)) (c1 : w.cell? ⟨b, 1, none⟩ = some (.int .i64 y)) (c2 : w.cell? ⟨b, 2, none⟩ = some (.int .i64 z)) :
    Calls Try.prog 80 #[.slice (some ⟨b, 0, none⟩) 3 3] w fun e w' => e = .returned (.int .i64 (or3V x y z)) ∧ w = w' := by
  obtain ⟨V, hV⟩ : ∃ V, or3V x y z = V := ⟨_, rfl⟩
  rw [hV]
  unfold or3V at hV
  by_cases hx : x = 0
  · subst hx
    rw [if_neg (by simp)] at hV
    by_cases hy : y = 0
    · subst hy
      rw [if_neg (by simp)] at hV
      subst hV
      by_cases hz : z = 0
      · subst hz
        go_enter Try.func80, Try.ntmps80
        go_wp2_with fail
        refine wp_loop_rounds 4 ?_
        repeat (rw [rounds_succ]; go_wp2_with fail)
        go_ret
        exact ⟨rfl, rfl⟩
      · have d : (z != 0) = true := by simpa using hz
        clear hz
        go_enter Try.func80, Try.ntmps80
        go_wp2_with fail
        refine wp_loop_rounds 4 ?_
        repeat (rw [rounds_succ]; go_wp2_with fail)
        go_ret
        exact ⟨rfl, rfl⟩
    · have d : (y != 0) = true := by simpa using hy
      rw [if_pos hy] at hV
      subst hV
      clear hy
      go_enter Try.func80, Try.ntmps80
      go_wp2_with fail
      refine wp_loop_rounds 4 ?_
      repeat (rw [rounds_succ]; go_wp2_with fail)
      go_ret
      exact ⟨rfl, rfl⟩
  · have d : (x != 0) = true := by simpa using hx
    rw [if_pos hx] at hV
    subst hV
    clear hx
    go_enter Try.func80, Try.ntmps80
    go_wp2_with fail
    refine wp_loop_rounds 4 ?_
    repeat (rw [rounds_succ]; go_wp2_with fail)
    go_ret
    exact ⟨rfl, rfl⟩
/-- How two placed steps compare. -/
def cmpQ (p q : Plc) : Int := or3V (Lib.compareInt p.st q.st) (Lib.compareInt p.j q.j) (Lib.compareInt p.n q.n)
set_option maxRecDepth 100000 in
set_option maxHeartbeats 2000000 in
theorem compare_pl (x y : Plc) (w : World) : Calls Try.prog 59 #[.agg #[.int .i64 x.m, .int .i64 x.mi, .int .i64 x.c, .int .i64 x.d, .int .i64 x.j, .int .i64 x.n, .int .i64 x.st], .agg #[.int .i64 y.m, .int .i64 y.mi, .int .i64 y.c, .int .i64 y.d, .int .i64 y.j, .int .i64 y.n, .int .i64 y.st]] w fun e w' => e = .returned (.int .i64 (cmpQ x y)) ∧ GrownW w w' := by
  go_enter Try.func59, Try.ntmps59
  go_wp2_with fail
  obtain ⟨wB, hwB⟩ : ∃ wB, (w.alloc (.cells #[.int .i64 x.m, .int .i64 x.mi, .int .i64 x.c, .int .i64 x.d, .int .i64 x.j, .int .i64 x.n, .int .i64 x.st] 67)).alloc (.cells #[.int .i64 y.m, .int .i64 y.mi, .int .i64 y.c, .int .i64 y.d, .int .i64 y.j, .int .i64 y.n, .int .i64 y.st] 67) = wB := ⟨_, rfl⟩
  have HB : Hid (GrownW w wB) := Lib.hid (by rw [← hwB]; exact ((GrownW.refl w).alloc _).alloc _)
  have p0 : wB.cell? ⟨w.heap.size, 0, none⟩ = some (.int .i64 x.m) := by rw [← hwB]; simp [go_sem]
  have q0 : wB.cell? ⟨w.heap.size + 1, 0, none⟩ = some (.int .i64 y.m) := by rw [← hwB]; simp [go_sem]
  have p1 : wB.cell? ⟨w.heap.size, 1, none⟩ = some (.int .i64 x.mi) := by rw [← hwB]; simp [go_sem]
  have q1 : wB.cell? ⟨w.heap.size + 1, 1, none⟩ = some (.int .i64 y.mi) := by rw [← hwB]; simp [go_sem]
  have p2 : wB.cell? ⟨w.heap.size, 2, none⟩ = some (.int .i64 x.c) := by rw [← hwB]; simp [go_sem]
  have q2 : wB.cell? ⟨w.heap.size + 1, 2, none⟩ = some (.int .i64 y.c) := by rw [← hwB]; simp [go_sem]
  have p3 : wB.cell? ⟨w.heap.size, 3, none⟩ = some (.int .i64 x.d) := by rw [← hwB]; simp [go_sem]
  have q3 : wB.cell? ⟨w.heap.size + 1, 3, none⟩ = some (.int .i64 y.d) := by rw [← hwB]; simp [go_sem]
  have p4 : wB.cell? ⟨w.heap.size, 4, none⟩ = some (.int .i64 x.j) := by rw [← hwB]; simp [go_sem]
  have q4 : wB.cell? ⟨w.heap.size + 1, 4, none⟩ = some (.int .i64 y.j) := by rw [← hwB]; simp [go_sem]
  have p5 : wB.cell? ⟨w.heap.size, 5, none⟩ = some (.int .i64 x.n) := by rw [← hwB]; simp [go_sem]
  have q5 : wB.cell? ⟨w.heap.size + 1, 5, none⟩ = some (.int .i64 y.n) := by rw [← hwB]; simp [go_sem]
  have p6 : wB.cell? ⟨w.heap.size, 6, none⟩ = some (.int .i64 x.st) := by rw [← hwB]; simp [go_sem]
  have q6 : wB.cell? ⟨w.heap.size + 1, 6, none⟩ = some (.int .i64 y.st) := by rw [← hwB]; simp [go_sem]
  have hz1 : w.heap.size + 1 < wB.heap.size := by rw [← hwB]; simp
  have hz0 : w.heap.size < wB.heap.size := by omega
  rw [hwB]
  clear hwB
  refine wp_region_held_drew (S := fun w' => GrownW wB w') (by kernel_rfl) ((GrownW.refl wB).drew) (fun hHeld => ?_)
  refine takeU (i := 0) (some 5) (.pointer (some ⟨w.heap.size, 6, none⟩)) (by kernel_rfl) (by kernel_rfl) (by kernel_rfl) (by kernel_rfl) (by kernel_rfl) (fun _ => by kernel_rfl) (fun _ _ _ h => h) hHeld ?_
  refine wpAnyH_take (i := 1) (oi := { dst := some 6, op := Go.Op.load 3 (Go.Operand.tmp 5), type := 3, pos := "plan.go:48", after := #[{ on := 0, ground := Go.Ground.data }], guard := none }) (v := .int .i64 x.st) rfl (by kernel_rfl) (by kernel_rfl) (by kernel_rfl) (fun _ _ _ h => h) (.inl ⟨by kernel_rfl, fun w9 h9 => by
    clear hHeld
    have d0 := (h9.below.cell (p := ⟨w.heap.size, 6, none⟩) hz0).trans p6
    clear h9
    go_simp⟩) hHeld ?_
  refine takeU (i := 2) (some 7) (.pointer (some ⟨w.heap.size + 1, 6, none⟩)) (by kernel_rfl) (by kernel_rfl) (by kernel_rfl) (by kernel_rfl) (by kernel_rfl) (fun _ => by kernel_rfl) (fun _ _ _ h => h) hHeld ?_
  refine wpAnyH_take (i := 3) (oi := { dst := some 8, op := Go.Op.load 3 (Go.Operand.tmp 7), type := 3, pos := "plan.go:48", after := #[{ on := 2, ground := Go.Ground.data }], guard := none }) (v := .int .i64 y.st) rfl (by kernel_rfl) (by kernel_rfl) (by kernel_rfl) (fun _ _ _ h => h) (.inl ⟨by kernel_rfl, fun w9 h9 => by
    clear hHeld
    have d0 := (h9.below.cell (p := ⟨w.heap.size + 1, 6, none⟩) hz1).trans q6
    clear h9
    go_simp⟩) hHeld ?_
  refine takeU (i := 5) (some 10) (.pointer (some ⟨w.heap.size, 4, none⟩)) (by kernel_rfl) (by kernel_rfl) (by kernel_rfl) (by kernel_rfl) (by kernel_rfl) (fun _ => by kernel_rfl) (fun _ _ _ h => h) hHeld ?_
  refine wpAnyH_take (i := 6) (oi := { dst := some 11, op := Go.Op.load 3 (Go.Operand.tmp 10), type := 3, pos := "plan.go:48", after := #[{ on := 5, ground := Go.Ground.data }], guard := none }) (v := .int .i64 x.j) rfl (by kernel_rfl) (by kernel_rfl) (by kernel_rfl) (fun _ _ _ h => h) (.inl ⟨by kernel_rfl, fun w9 h9 => by
    clear hHeld
    have d0 := (h9.below.cell (p := ⟨w.heap.size, 4, none⟩) hz0).trans p4
    clear h9
    go_simp⟩) hHeld ?_
  refine takeU (i := 7) (some 12) (.pointer (some ⟨w.heap.size + 1, 4, none⟩)) (by kernel_rfl) (by kernel_rfl) (by kernel_rfl) (by kernel_rfl) (by kernel_rfl) (fun _ => by kernel_rfl) (fun _ _ _ h => h) hHeld ?_
  refine wpAnyH_take (i := 8) (oi := { dst := some 13, op := Go.Op.load 3 (Go.Operand.tmp 12), type := 3, pos := "plan.go:48", after := #[{ on := 7, ground := Go.Ground.data }], guard := none }) (v := .int .i64 y.j) rfl (by kernel_rfl) (by kernel_rfl) (by kernel_rfl) (fun _ _ _ h => h) (.inl ⟨by kernel_rfl, fun w9 h9 => by
    clear hHeld
    have d0 := (h9.below.cell (p := ⟨w.heap.size + 1, 4, none⟩) hz1).trans q4
    clear h9
    go_simp⟩) hHeld ?_
  refine takeU (i := 10) (some 15) (.pointer (some ⟨w.heap.size, 5, none⟩)) (by kernel_rfl) (by kernel_rfl) (by kernel_rfl) (by kernel_rfl) (by kernel_rfl) (fun _ => by kernel_rfl) (fun _ _ _ h => h) hHeld ?_
  refine wpAnyH_take (i := 11) (oi := { dst := some 16, op := Go.Op.load 3 (Go.Operand.tmp 15), type := 3, pos := "plan.go:48", after := #[{ on := 10, ground := Go.Ground.data }], guard := none }) (v := .int .i64 x.n) rfl (by kernel_rfl) (by kernel_rfl) (by kernel_rfl) (fun _ _ _ h => h) (.inl ⟨by kernel_rfl, fun w9 h9 => by
    clear hHeld
    have d0 := (h9.below.cell (p := ⟨w.heap.size, 5, none⟩) hz0).trans p5
    clear h9
    go_simp⟩) hHeld ?_
  refine takeU (i := 12) (some 17) (.pointer (some ⟨w.heap.size + 1, 5, none⟩)) (by kernel_rfl) (by kernel_rfl) (by kernel_rfl) (by kernel_rfl) (by kernel_rfl) (fun _ => by kernel_rfl) (fun _ _ _ h => h) hHeld ?_
  refine wpAnyH_take (i := 13) (oi := { dst := some 18, op := Go.Op.load 3 (Go.Operand.tmp 17), type := 3, pos := "plan.go:48", after := #[{ on := 12, ground := Go.Ground.data }], guard := none }) (v := .int .i64 y.n) rfl (by kernel_rfl) (by kernel_rfl) (by kernel_rfl) (fun _ _ _ h => h) (.inl ⟨by kernel_rfl, fun w9 h9 => by
    clear hHeld
    have d0 := (h9.below.cell (p := ⟨w.heap.size + 1, 5, none⟩) hz1).trans q5
    clear h9
    go_simp⟩) hHeld ?_
  try simp only [Act.put, List.setIfInBounds_toArray, List.set_cons_zero, List.set_cons_succ]
  refine wpAnyH_ready (rs := [4]) (by kernel_rfl) (by simp) ?_
  refine AllReadyH.cons (o := { dst := some 9, op := Go.Op.call { callee := Go.Callee.value (Go.Operand.func 81), args := #[Go.Operand.tmp 6, Go.Operand.tmp 8], argTypes := #[3, 3] }, type := 3, pos := "plan.go:48", after := #[{ on := 1, ground := Go.Ground.data }, { on := 3, ground := Go.Ground.data }], guard := none }) rfl (fun K hK => ?_) AllReadyH.nil
  go_simp
  go_at_call 81
  refine (compare_q _ _ _).mono ?_
  rintro e w49 ⟨rfl, rfl⟩
  refine hK.out _ _ hHeld (fun hHeld => ?_)
  clear hK K
  try simp only [Act.put, List.setIfInBounds_toArray, List.set_cons_zero, List.set_cons_succ]
  try simp only [Act.put, List.setIfInBounds_toArray, List.set_cons_zero, List.set_cons_succ]
  refine wpAnyH_ready (rs := [9]) (by kernel_rfl) (by simp) ?_
  refine AllReadyH.cons (o := { dst := some 14, op := Go.Op.call { callee := Go.Callee.value (Go.Operand.func 81), args := #[Go.Operand.tmp 11, Go.Operand.tmp 13], argTypes := #[3, 3] }, type := 3, pos := "plan.go:48", after := #[{ on := 6, ground := Go.Ground.data }, { on := 8, ground := Go.Ground.data }, { on := 4, ground := Go.Ground.chain }], guard := none }) rfl (fun K hK => ?_) AllReadyH.nil
  go_simp
  go_at_call 81
  refine (compare_q _ _ _).mono ?_
  rintro e w99 ⟨rfl, rfl⟩
  refine hK.out _ _ hHeld (fun hHeld => ?_)
  clear hK K
  try simp only [Act.put, List.setIfInBounds_toArray, List.set_cons_zero, List.set_cons_succ]
  try simp only [Act.put, List.setIfInBounds_toArray, List.set_cons_zero, List.set_cons_succ]
  refine wpAnyH_ready (rs := [14]) (by kernel_rfl) (by simp) ?_
  refine AllReadyH.cons (o := { dst := some 19, op := Go.Op.call { callee := Go.Callee.value (Go.Operand.func 81), args := #[Go.Operand.tmp 16, Go.Operand.tmp 18], argTypes := #[3, 3] }, type := 3, pos := "plan.go:48", after := #[{ on := 11, ground := Go.Ground.data }, { on := 13, ground := Go.Ground.data }, { on := 9, ground := Go.Ground.chain }], guard := none }) rfl (fun K hK => ?_) AllReadyH.nil
  go_simp
  go_at_call 81
  refine (compare_q _ _ _).mono ?_
  rintro e w149 ⟨rfl, rfl⟩
  refine hK.out _ _ hHeld (fun hHeld => ?_)
  clear hK K
  try simp only [Act.put, List.setIfInBounds_toArray, List.set_cons_zero, List.set_cons_succ]
  try simp only [Act.put, List.setIfInBounds_toArray, List.set_cons_zero, List.set_cons_succ]
  refine wpAnyH_ready (rs := [15]) (by kernel_rfl) (by simp) ?_
  refine AllReadyH.cons (o := { dst := some 20, op := Go.Op.buildSlice 22 3 #[(0, Go.Operand.tmp 9), (1, Go.Operand.tmp 14), (2, Go.Operand.tmp 19)], type := 22, pos := "plan.go:48", after := #[{ on := 4, ground := Go.Ground.data }, { on := 9, ground := Go.Ground.data }, { on := 14, ground := Go.Ground.data }], guard := none }) rfl (fun K hK => ?_) AllReadyH.nil
  go_simp
  refine hK.out _ _ (hHeld.alloc _) (fun hHeld => ?_)
  clear hK K
  try simp only [Act.put, List.setIfInBounds_toArray, List.set_cons_zero, List.set_cons_succ]
  refine wpAnyH_ready (rs := [16]) (by kernel_rfl) (by simp) ?_
  refine AllReadyH.cons (o := { dst := some 21, op := Go.Op.call { callee := Go.Callee.value (Go.Operand.func 80), args := #[Go.Operand.tmp 20], argTypes := #[22] }, type := 3, pos := "plan.go:48", after := #[{ on := 15, ground := Go.Ground.data }, { on := 14, ground := Go.Ground.chain }], guard := none }) rfl (fun K hK => ?_) AllReadyH.nil
  go_simp
  go_at_call 80
  refine (or3_r wB.heap.size (Lib.compareInt x.st y.st) (Lib.compareInt x.j y.j) (Lib.compareInt x.n y.n) _ (by simp [go_sem]) (by simp [go_sem]) (by simp [go_sem])).mono ?_
  rintro e w169 ⟨rfl, rfl⟩
  refine hK.out _ _ hHeld (fun hHeld => ?_)
  clear hK K
  try simp only [Act.put, List.setIfInBounds_toArray, List.set_cons_zero, List.set_cons_succ]
  refine takeU (i := 17) (some 4) (.int .i64 (cmpQ x y)) (by kernel_rfl) (by kernel_rfl) (by kernel_rfl) (by kernel_rfl) (by kernel_rfl) (fun _ => by kernel_rfl) (fun _ _ _ h => h) hHeld ?_
  refine wpAnyH_done (by kernel_rfl) ?_ _
  try simp only [Act.put, List.setIfInBounds_toArray, List.set_cons_zero, List.set_cons_succ]
  go_wp2_with fail
  go_ret
  exact ⟨rfl, HB.out.trans hHeld⟩
end Go.Proofs.Ytgphkfonjfdifaa
