/-
  Judge of both for any plan of a valid shop. By an AI agent.; End of both. By an AI agent.; A plan that Judge accepts is right. By an AI agent.; The walk of first: example 1 of the chapter. By an AI agent.
-/
import Derived.Test.YtgphkfonjfdifaaMgShopBounds3
import Derived.Test.YtgphkfonjfdifaaMgShopBounds7
import Derived.Test.YtgphkfonjfdifaaMgShopBounds9
import Derived.Deep.RegionHeld3
import Derived.BigRegion
import Derived.BigQuiet

namespace Go.Proofs.Ytgphkfonjfdifaa
set_option linter.unusedVariables false
set_option linter.unusedSimpArgs false
open Go.RowKit

theorem judV_ok {s : Sh} {P : List (List Int)} (h : PlanOk s P) : judV s P = judT s (plcL s P) := by unfold judV; rw [if_pos (planB_t h)]
theorem judV_bad {s : Sh} {P : List (List Int)} (h : ¬ PlanOk s P) : judV s P = (0, 0, 2) := by unfold judV; rw [if_neg (by rw [planB_f h]; decide)]
set_option maxRecDepth 100000 in
set_option maxHeartbeats 2000000 in
theorem judge_no (s : Sh) (ap : Option Addr) (P : List (List Int)) (cp : Nat) (w : World) (hI : ShS w s) (hV : ShOk s) (hP : RowsS w ap P) (hO : ¬ PlanOk s P) :
    Calls Try.prog 15 #[.agg #[.int .i64 s.O, .int .i64 s.C, .slice s.aH s.H.length s.cH, .int .i64 s.M, .slice s.aS s.S.length s.cS, .slice s.aJ s.J.length s.cJ], .slice ap P.length cp] w fun e w' => e = .returned (.tuple #[.int .i64 0, .int .i64 0, .int .i64 2]) ∧ Below w.heap.size w w' := by
  have HV := Lib.hid (fun W (hW : Below w.heap.size w W) => Valid_sh s W (hI.below hW))
  rw [shB_t hV] at HV
  have HP := Lib.hid (fun W (hW : Below w.heap.size w W) => isPlan_sh s ap P cp W (hI.below hW) (hP.below hW))
  rw [planB_f hO] at HP
  clear hI hV hP hO
  have HB := Lib.hid (ShBox.start w s 25)
  go_enter Try.func15, Try.ntmps15
  go_wp2_with fail
  obtain ⟨wB, hwB⟩ : ∃ wB, w.alloc (.cells #[.int .i64 s.O, .int .i64 s.C, .slice s.aH s.H.length s.cH, .int .i64 s.M, .slice s.aS s.S.length s.cS, .slice s.aJ s.J.length s.cJ] 25) = wB := ⟨_, rfl⟩
  rw [hwB] at HB ⊢
  clear hwB
  obtain ⟨hb, p0, p1, p2, p3, p4, p5⟩ := HB.out
  clear HB
  go_wp2_with (first | (go_at_call 35; refine (HV.out _ hb).mono ?_; rintro e w1 ⟨rfl, hb1⟩; replace hb := hb.trans (hb1.mono hb.size); replace p0 := cell_below p0 hb1; replace p1 := cell_below p1 hb1; replace p2 := cell_below p2 hb1; replace p3 := cell_below p3 hb1; replace p4 := cell_below p4 hb1; replace p5 := cell_below p5 hb1; clear hb1) | (go_at_call 36; refine (HP.out _ hb).mono ?_; rintro e w1 ⟨rfl, hb1⟩; replace hb := hb.trans (hb1.mono hb.size); replace p0 := cell_below p0 hb1; replace p1 := cell_below p1 hb1; replace p2 := cell_below p2 hb1; replace p3 := cell_below p3 hb1; replace p4 := cell_below p4 hb1; replace p5 := cell_below p5 hb1; clear hb1))
  go_ret3
  exact ⟨rfl, hb⟩
set_option maxRecDepth 100000 in
set_option maxHeartbeats 2000000 in
theorem refJudge_no (s : Sh) (ap : Option Addr) (P : List (List Int)) (cp : Nat) (w : World) (hI : ShS w s) (hV : ShOk s) (hP : RowsS w ap P) (hO : ¬ PlanOk s P) :
    Calls Try.prog 16 #[.agg #[.int .i64 s.O, .int .i64 s.C, .slice s.aH s.H.length s.cH, .int .i64 s.M, .slice s.aS s.S.length s.cS, .slice s.aJ s.J.length s.cJ], .slice ap P.length cp] w fun e w' => e = .returned (.tuple #[.int .i64 0, .int .i64 0, .int .i64 2]) ∧ Below w.heap.size w w' := by
  have HP := Lib.hid (fun W (hW : Below w.heap.size w W) => shaped_sh s ap P cp W (hI.below hW) hV (hP.below hW))
  rw [planB_f hO] at HP
  clear hI hV hP hO
  have HB := Lib.hid (ShBox.start w s 25)
  go_enter Try.func16, Try.ntmps16
  go_wp2_with fail
  obtain ⟨wB, hwB⟩ : ∃ wB, w.alloc (.cells #[.int .i64 s.O, .int .i64 s.C, .slice s.aH s.H.length s.cH, .int .i64 s.M, .slice s.aS s.S.length s.cS, .slice s.aJ s.J.length s.cJ] 25) = wB := ⟨_, rfl⟩
  rw [hwB] at HB ⊢
  clear hwB
  obtain ⟨hb, p0, p1, p2, p3, p4, p5⟩ := HB.out
  clear HB
  go_wp2_with (first | (go_at_call 46; refine (HP.out _ hb).mono ?_; rintro e w1 ⟨rfl, hb1⟩; replace hb := hb.trans (hb1.mono hb.size); replace p0 := cell_below p0 hb1; replace p1 := cell_below p1 hb1; replace p2 := cell_below p2 hb1; replace p3 := cell_below p3 hb1; replace p4 := cell_below p4 hb1; replace p5 := cell_below p5 hb1; clear hb1))
  go_ret3
  exact ⟨rfl, hb⟩
theorem judge_any (s : Sh) (ap : Option Addr) (P : List (List Int)) (cp : Nat) (w : World) (hI : ShS w s) (hV : ShOk s) (hP : RowsS w ap P) :
    Calls Try.prog 15 #[.agg #[.int .i64 s.O, .int .i64 s.C, .slice s.aH s.H.length s.cH, .int .i64 s.M, .slice s.aS s.S.length s.cS, .slice s.aJ s.J.length s.cJ], .slice ap P.length cp] w fun e w' => e = .returned (.tuple #[.int .i64 (judV s P).1, .int .i64 (judV s P).2.1, .int .i64 (judV s P).2.2]) ∧ Below w.heap.size w w' := by
  by_cases hO : PlanOk s P
  · rw [judV_ok hO]
    exact judge_good s ap P cp w hI hV hP hO
  · rw [judV_bad hO]
    exact judge_no s ap P cp w hI hV hP hO
theorem refJudge_any (s : Sh) (ap : Option Addr) (P : List (List Int)) (cp : Nat) (w : World) (hI : ShS w s) (hV : ShOk s) (hP : RowsS w ap P) :
    Calls Try.prog 16 #[.agg #[.int .i64 s.O, .int .i64 s.C, .slice s.aH s.H.length s.cH, .int .i64 s.M, .slice s.aS s.S.length s.cS, .slice s.aJ s.J.length s.cJ], .slice ap P.length cp] w fun e w' => e = .returned (.tuple #[.int .i64 (judV s P).1, .int .i64 (judV s P).2.1, .int .i64 (judV s P).2.2]) ∧ Below w.heap.size w w' := by
  by_cases hO : PlanOk s P
  · rw [judV_ok hO]
    exact refJudge_good s ap P cp w hI hV hP hO
  · rw [judV_bad hO]
    exact refJudge_no s ap P cp w hI hV hP hO
end Go.Proofs.Ytgphkfonjfdifaa

namespace Go.Proofs.Ytgphkfonjfdifaa
set_option linter.unusedVariables false
set_option linter.unusedSimpArgs false
open Go.RowKit

theorem endN_pl {s : Sh} {P : List (List Int)} {k : Nat} (h : k < (plcL s P).length) : endN s P (k + 1) = max (endN s P k) ((gc (plcL s P) k).st + (gc (plcL s P) k).mi) := by
  rw [plcL_len] at h
  rw [endN, plcL_at s P h]
  rfl
theorem endN_bd {s : Sh} {P : List (List Int)} (h : ShOk s) (hO : PlanOk s P) : ∀ k, k ≤ (plcL s P).length → 0 ≤ endN s P k ∧ endN s P k ≤ 100001440
  | 0, _ => by simp [endN]
  | k + 1, hk => by
    have ih := endN_bd h hO k (by omega)
    have hp := plcOk_of h hO (show k < (plcL s P).length by omega)
    rw [endN_pl (by omega)]
    unfold PlcOk at hp
    omega
/-- What End returns. -/
noncomputable def endA (s : Sh) (P : List (List Int)) : Int := if (judV s P).2.2 = 0 then endV s P else 0
theorem judV_plan {s : Sh} {P : List (List Int)} (h : (judV s P).2.2 = 0) : PlanOk s P := by
  rcases Classical.em (PlanOk s P) with h1 | h1
  · exact h1
  · rw [judV_bad h1] at h
    exact absurd h (by decide)
set_option maxRecDepth 100000 in
set_option maxHeartbeats 2000000 in
theorem end_any (s : Sh) (ap : Option Addr) (P : List (List Int)) (cp : Nat) (w : World) (hI : ShS w s) (hV : ShOk s) (hP : RowsS w ap P) :
    Calls Try.prog 17 #[.agg #[.int .i64 s.O, .int .i64 s.C, .slice s.aH s.H.length s.cH, .int .i64 s.M, .slice s.aS s.S.length s.cS, .slice s.aJ s.J.length s.cJ], .slice ap P.length cp] w fun e w' => e = .returned (.tuple #[.int .i64 (endA s P), .int .i64 (judV s P).2.2]) ∧ Below w.heap.size w w' := by
  have HJ := Lib.hid (fun W (hW : Below w.heap.size w W) => judge_any s ap P cp W (hI.below hW) hV (hP.below hW))
  have HB := Lib.hid (ShBox.start w s 25)
  by_cases hE : (judV s P).2.2 = 0
  · have hO := judV_plan hE
    have HA := Lib.hid (fun W (hW : Below w.heap.size w W) => allPlaced_sh s ap P cp W (hI.below hW) hV (hP.below hW) hO)
    have HPS := Lib.hid (fun W a (h : PlacedS W s P a (flP s.J)) => plcS_of h (by have := flI_len hV s.J.length (Nat.le_refl _); have := hV.2.2.2.1; unfold flP; omega))
    have HOk := Lib.hid (fun k (hk : k < (plcL s P).length) => plcOk_of hV hO hk)
    have HEN := Lib.hid (fun k (hk : k < (plcL s P).length) => endN_pl (s := s) (P := P) hk)
    have HBd := Lib.hid (endN_bd hV hO)
    have hfl2 : (flP s.J).length = (plcL s P).length := (plcL_len s P).symm
    have HEA : Hid (endA s P = endN s P (plcL s P).length) := Lib.hid (by unfold endA; rw [if_pos hE]; unfold endV; rw [hfl2])
    have h200 : (plcL s P).length ≤ 200 := by have := flI_len hV s.J.length (Nat.le_refl _); have := hV.2.2.2.1; rw [← hfl2]; unfold flP; omega
    rw [hfl2] at HA
    obtain ⟨J3, hJ3⟩ : ∃ J3, judV s P = J3 := ⟨_, rfl⟩
    rw [hJ3] at HJ hE ⊢
    clear hJ3
    obtain ⟨j1, j2, j3⟩ := J3
    have hE : j3 = 0 := hE
    subst hE
    clear hI hV hP hfl2 hO
    generalize plcL s P = l at *
    generalize endA s P = EA at *
    go_enter Try.func17, Try.ntmps17
    go_wp2_with fail
    obtain ⟨wB, hwB⟩ : ∃ wB, w.alloc (.cells #[.int .i64 s.O, .int .i64 s.C, .slice s.aH s.H.length s.cH, .int .i64 s.M, .slice s.aS s.S.length s.cS, .slice s.aJ s.J.length s.cJ] 25) = wB := ⟨_, rfl⟩
    rw [hwB] at HB ⊢
    clear hwB
    obtain ⟨hb, p0, p1, p2, p3, p4, p5⟩ := HB.out
    clear HB
    go_wp2_with (first | (go_at_call 15; refine (HJ.out _ hb).mono ?_; rintro e w1 ⟨rfl, hb1⟩; replace hb := hb.trans (hb1.mono hb.size); replace p0 := cell_below p0 hb1; replace p1 := cell_below p1 hb1; replace p2 := cell_below p2 hb1; replace p3 := cell_below p3 hb1; replace p4 := cell_below p4 hb1; replace p5 := cell_below p5 hb1; clear hb1) | (go_at_call 37; refine (HA.out _ hb).mono ?_; rintro e w1 ⟨a, c, rfl, hPS, hle, hb1⟩; replace hb := hb.trans (hb1.mono hb.size); replace p0 := cell_below p0 hb1; replace p1 := cell_below p1 hb1; replace p2 := cell_below p2 hb1; replace p3 := cell_below p3 hb1; replace p4 := cell_below p4 hb1; replace p5 := cell_below p5 hb1; clear hb1; have HPL := Lib.hid (HPS.out _ _ hPS); clear hPS))
    obtain ⟨wL, rfl⟩ : ∃ wL : World, wL = w1 := ⟨_, rfl⟩
    obtain ⟨hl9, blk, off, hadr, hc⟩ := HPL.out
    have HC := Lib.hid hc
    have HLa : Hid (0 < l.length → a = some ⟨blk, off, none⟩) := Lib.hid fun h => hadr (List.ne_nil_of_length_pos h)
    have HBL := Lib.hid hb
    clear hc hadr HPL HPS HJ HA hb p0 p1 p2 p3 p4 p5
    go_loopw [9, 26] (fun u i wr => ∃ k : Nat, k ≤ l.length ∧ i = .int .i64 k ∧ u = .int .i64 (endN s P k) ∧ Below wL.heap.size wL wr) (fun _ i _ => l.length - (intOf i).toNat)
    case atStart => exact ⟨0, Nat.zero_le _, rfl, rfl, Below.refl _ _⟩
    case round =>
      obtain ⟨k, hk, rfl, rfl, hbr⟩ := hrel
      by_cases hlt : k < l.length
      · obtain rfl := HLa.out (by omega)
        obtain ⟨c0, c1, c2, c3, c4, c5, c6⟩ := HC.out k hlt
        have c0 := cell_below c0 hbr
        have c1 := cell_below c1 hbr
        have c2 := cell_below c2 hbr
        have c3 := cell_below c3 hbr
        have c4 := cell_below c4 hbr
        have c5 := cell_below c5 hbr
        have c6 := cell_below c6 hbr
        have hkI : (k : Int) < l.length := by omega
        have hx := HOk.out k hlt
        have HX := Lib.hid (HEN.out k hlt)
        have hm := HBd.out k hk
        clear HC HLa HOk HEN HBd HEA
        generalize gc l k = x at *
        have HEnd := Lib.hid (fun W => end_pl x.m x.mi x.c x.d x.j x.n x.st W (by unfold PlcOk at hx; omega) (by unfold PlcOk at hx; omega))
        have hv0 : 0 ≤ x.st + x.mi ∧ x.st + x.mi ≤ 200000000 := by unfold PlcOk at hx; omega
        clear hx
        generalize x.st + x.mi = v at *
        generalize endN s P k = mc at *
        rcases Int.lt_trichotomy mc v with hl | hl | hl
        · have HR := Lib.hid (HX.out.trans (show max mc v = v by omega))
          clear HX
          go_wp2_with (go_at_call 52; refine (HEnd.out _).mono ?_; rintro e w2 ⟨rfl, hb2⟩)
          go_roundw
          case rel => exact ⟨k + 1, by omega, by go_num, by rw [HR.out]; try (congr 1; omega), hbr.trans ((((Below.refl _ _).alloc (Nat.le_refl _) _ : Below wr.heap.size wr (wr.alloc _)).trans (hb2.mono (by simp))).mono hbr.size)⟩
          case measure => first | (simp [intOf]; done) | (simp [intOf]; omega)
        · have HR := Lib.hid (HX.out.trans (show max mc v = v by omega))
          clear HX
          subst hl
          go_wp2_with (go_at_call 52; refine (HEnd.out _).mono ?_; rintro e w2 ⟨rfl, hb2⟩)
          go_roundw
          case rel => exact ⟨k + 1, by omega, by go_num, by rw [HR.out]; try (congr 1; omega), hbr.trans ((((Below.refl _ _).alloc (Nat.le_refl _) _ : Below wr.heap.size wr (wr.alloc _)).trans (hb2.mono (by simp))).mono hbr.size)⟩
          case measure => first | (simp [intOf]; done) | (simp [intOf]; omega)
        · have HR := Lib.hid (HX.out.trans (show max mc v = mc by omega))
          have hl2 : ¬ (mc < v) := by omega
          clear HX
          go_wp2_with (go_at_call 52; refine (HEnd.out _).mono ?_; rintro e w2 ⟨rfl, hb2⟩)
          go_roundw
          case rel => exact ⟨k + 1, by omega, by go_num, by rw [HR.out]; try (congr 1; omega), hbr.trans ((((Below.refl _ _).alloc (Nat.le_refl _) _ : Below wr.heap.size wr (wr.alloc _)).trans (hb2.mono (by simp))).mono hbr.size)⟩
          case measure => first | (simp [intOf]; done) | (simp [intOf]; omega)
      · obtain rfl : l.length = k := by omega
        go_wp2_with fail
        go_ret2
        rw [HEA.out]
        exact ⟨rfl, HBL.out.trans (hbr.mono HBL.out.size)⟩
  · have h0 : endA s P = 0 := by unfold endA; rw [if_neg hE]
    rw [h0]
    obtain ⟨J3, hJ3⟩ : ∃ J3, judV s P = J3 := ⟨_, rfl⟩
    rw [hJ3] at HJ hE ⊢
    clear hJ3
    obtain ⟨j1, j2, j3⟩ := J3
    have hE : ¬ j3 = 0 := hE
    have d1 : (j3 != 0) = true := by simpa using hE
    clear hI hV hP hE h0
    go_enter Try.func17, Try.ntmps17
    go_wp2_with fail
    obtain ⟨wB, hwB⟩ : ∃ wB, w.alloc (.cells #[.int .i64 s.O, .int .i64 s.C, .slice s.aH s.H.length s.cH, .int .i64 s.M, .slice s.aS s.S.length s.cS, .slice s.aJ s.J.length s.cJ] 25) = wB := ⟨_, rfl⟩
    rw [hwB] at HB ⊢
    clear hwB
    obtain ⟨hb, p0, p1, p2, p3, p4, p5⟩ := HB.out
    clear HB
    go_wp2_with (go_at_call 15; refine (HJ.out _ hb).mono ?_; rintro e w1 ⟨rfl, hb1⟩; replace hb := hb.trans (hb1.mono hb.size); replace p0 := cell_below p0 hb1; replace p1 := cell_below p1 hb1; replace p2 := cell_below p2 hb1; replace p3 := cell_below p3 hb1; replace p4 := cell_below p4 hb1; replace p5 := cell_below p5 hb1; clear hb1)
    go_ret2
    exact ⟨rfl, hb⟩
end Go.Proofs.Ytgphkfonjfdifaa

namespace Go.Proofs.Ytgphkfonjfdifaa
set_option linter.unusedVariables false
set_option linter.unusedSimpArgs false
open Go.RowKit

theorem right_of {s : Sh} {P : List (List Int)} (hV : ShOk s) (h : (judV s P).2.2 = 0) : RightP s P := by
  have hO : PlanOk s P := by
    rcases Classical.em (PlanOk s P) with h1 | h1
    · exact h1
    · rw [judV_bad h1] at h
      exact absurd h (by decide)
  rw [judV_ok hO] at h
  have hz := jud_zero h
  rw [plcL_len] at hz
  refine ⟨hO, fun i k hi hk => ?_, fun i k hi hk => ?_, fun n m hnm hm he => ?_⟩
  · obtain ⟨n, hn, e⟩ := fl_ix hi hk
    have h0 := hz 0 (by omega) n hn
    rw [chk0_ref hn e] at h0
    rcases Bool.eq_false_or_eq_true (inShB s.O s.C s.H (gi (gr P i) k) (gs (gj s.J i) k).2.1) with h1 | h1
    · exact inShB_iff.1 h1
    · rw [h1] at h0; cases h0
  · obtain ⟨n, hn, e⟩ := fl_ix hi hk
    have h0 := hz 1 (by omega) n hn
    rw [chk1_ref hO hn hi hk e] at h0
    have := of_decide_eq_false h0
    omega
  · have h0 := hz 2 (by omega) n (by omega)
    rw [chk2_ref n (by omega), anyK_iff] at h0
    have h1 := h0 (m - (n + 1)) (by omega)
    rw [show n + 1 + (m - (n + 1)) = m by omega, decide_eq_true he, Bool.true_and] at h1
    simpa using h1
end Go.Proofs.Ytgphkfonjfdifaa

namespace Go.Proofs.Ytgphkfonjfdifaa
set_option linter.unusedVariables false
set_option linter.unusedSimpArgs false
open Go.RowKit

/-- The shop of the example. -/
def exSh (b : Nat) : Sh := ⟨480, 960, none, [], 0, 1, some ⟨b, 0, none⟩, [0], 1, none, [], 0⟩
theorem exSh_ok (b : Nat) : ShOk (exSh b) := by
  refine ⟨⟨show (0 : Int) ≤ 480 by decide, show (480 : Int) < 960 by decide, show (960 : Int) ≤ 1440 by decide⟩, ⟨show 0 ≤ 400 by decide, fun j hj => absurd hj (Nat.not_lt_zero _)⟩, ⟨⟨show (1 : Int) ≤ 1 by decide, show (1 : Int) ≤ 6 by decide⟩, show ((1 : Nat) : Int) = 1 by decide, fun j hj => ?_⟩, show 0 ≤ 12 by decide, fun j hj => absurd hj (Nat.not_lt_zero _)⟩
  have : j = 0 := by have : j < 1 := hj; omega
  subst this
  exact ⟨show (0 : Int) ≤ 0 by decide, show (0 : Int) ≤ 1000 by decide⟩
theorem exSh_next : nextV 480 960 [] 900 90 = 1920 := by
  refine nextV_eq ⟨by omega, ⟨hol_false.2 fun j hj => absurd hj (Nat.not_lt_zero _), by decide, by decide⟩, fun y h1 h2 h => ?_⟩
  have := h.2.1
  have := h.2.2
  omega
theorem opn_nil (t : Int) : opnB 480 960 [] t = t / 1440 * 480 + min (max (t % 1440 - 480) 0) 480 := by
  have h : hol [] (t / 1440) = false := hol_false.2 fun j hj => absurd hj (Nat.not_lt_zero _)
  have c : cnt [] (t / 1440) = 0 := rfl
  unfold opnB preB
  rw [h, c]
  simp
theorem exSh_after : aftV 480 960 [] 900 90 = 1950 := by
  refine aftV_eq ⟨by omega, ?_, fun y h1 h2 => ?_⟩
  · rw [opn_nil, opn_nil]; omega
  · rw [opn_nil, opn_nil]; omega

set_option maxRecDepth 100000 in
set_option maxHeartbeats 1000000 in
theorem first_sh (w : World) : Calls Try.prog 14 #[] w fun e w' => e = .returned (.bool true) ∧ Below w.heap.size w w' := by
  have hI : ∀ W, W.cell? ⟨w.heap.size, 0, none⟩ = some (.int .i64 0) → ShS W (exSh w.heap.size) := fun W hc => by
    refine ⟨⟨show 0 ≤ 9223372036854775807 by decide, fun i hi => absurd hi (Nat.not_lt_zero _), 0, 0, fun h => absurd rfl h, fun i hi => absurd hi (Nat.not_lt_zero _)⟩, ⟨show 1 ≤ 9223372036854775807 by decide, fun i hi => ?_, w.heap.size, 0, fun _ => rfl, fun i hi => ?_⟩, show 0 ≤ 9223372036854775807 by decide, 0, 0, fun _ => none, fun _ => 0, fun h => absurd rfl h, fun i hi => absurd hi (Nat.not_lt_zero _)⟩
    · have : i = 0 := by have : i < 1 := hi; omega
      subst this
      exact ⟨show (-9223372036854775808 : Int) ≤ 0 by decide, show (0 : Int) ≤ 9223372036854775807 by decide⟩
    · have : i = 0 := by have : i < 1 := hi; omega
      subst this
      exact hc
  have HN : Hid (∀ W, W.cell? ⟨w.heap.size, 0, none⟩ = some (.int .i64 0) → Calls Try.prog 33 #[.agg #[.int .i64 480, .int .i64 960, .slice none 0 0, .int .i64 1, .slice (some ⟨w.heap.size, 0, none⟩) 1 1, .slice none 0 0], .int .i64 900, .int .i64 90] W fun e w' => e = .returned (.tuple #[.int .i64 1920, .int .i64 0]) ∧ Below W.heap.size W w') := Lib.hid fun W hc => by
    have := next_ok (exSh w.heap.size) 900 90 W (hI W hc) (exSh_ok _) (by decide) (by decide) (by decide) (show (90 : Int) ≤ 960 - 480 by decide)
    rw [show nextV (exSh w.heap.size).O (exSh w.heap.size).C (exSh w.heap.size).H 900 90 = 1920 from exSh_next] at this
    exact this
  have HA : Hid (∀ W, W.cell? ⟨w.heap.size, 0, none⟩ = some (.int .i64 0) → Calls Try.prog 34 #[.agg #[.int .i64 480, .int .i64 960, .slice none 0 0, .int .i64 1, .slice (some ⟨w.heap.size, 0, none⟩) 1 1, .slice none 0 0], .int .i64 900, .int .i64 90] W fun e w' => e = .returned (.tuple #[.int .i64 1950, .int .i64 0]) ∧ Below W.heap.size W w') := Lib.hid fun W hc => by
    have := after_ok (exSh w.heap.size) 900 90 W (hI W hc) (exSh_ok _) (by decide) (by decide) (by decide)
    rw [show aftV (exSh w.heap.size).O (exSh w.heap.size).C (exSh w.heap.size).H 900 ((90 : Nat) : Int) = 1950 from exSh_after] at this
    exact this
  clear hI
  go_enter Try.func14, Try.ntmps14
  go_wp2_with fail
  obtain ⟨wB, hwB⟩ : ∃ wB, (w.alloc (.cells #[.int .i64 0] 3)).alloc (.cells #[.int .i64 480, .int .i64 960, .slice none 0 0, .int .i64 1, .slice (some ⟨w.heap.size, 0, none⟩) 1 1, .slice none 0 0] 25) = wB := ⟨_, rfl⟩
  have hb : Below w.heap.size w wB := by rw [← hwB]; exact ((Below.refl _ _).alloc (Nat.le_refl _) _).alloc (by simp) _
  have ct : wB.cell? ⟨w.heap.size, 0, none⟩ = some (.int .i64 0) := by rw [← hwB]; simp [go_sem]
  have p0 : wB.cell? ⟨w.heap.size + 1, 0, none⟩ = some (.int .i64 480) := by rw [← hwB]; simp [go_sem]
  have p1 : wB.cell? ⟨w.heap.size + 1, 1, none⟩ = some (.int .i64 960) := by rw [← hwB]; simp [go_sem]
  have p2 : wB.cell? ⟨w.heap.size + 1, 2, none⟩ = some (.slice none 0 0) := by rw [← hwB]; simp [go_sem]
  have p3 : wB.cell? ⟨w.heap.size + 1, 3, none⟩ = some (.int .i64 1) := by rw [← hwB]; simp [go_sem]
  have p4 : wB.cell? ⟨w.heap.size + 1, 4, none⟩ = some (.slice (some ⟨w.heap.size, 0, none⟩) 1 1) := by rw [← hwB]; simp [go_sem]
  have p5 : wB.cell? ⟨w.heap.size + 1, 5, none⟩ = some (.slice none 0 0) := by rw [← hwB]; simp [go_sem]
  rw [hwB]
  clear hwB
  refine (HN.out _ ct).mono ?_
  rintro e w1 ⟨rfl, hb1⟩
  have ct := cell_below ct hb1
  have p0 := cell_below p0 hb1
  have p1 := cell_below p1 hb1
  have p2 := cell_below p2 hb1
  have p3 := cell_below p3 hb1
  have p4 := cell_below p4 hb1
  have p5 := cell_below p5 hb1
  have hb := hb.trans (hb1.mono hb.size)
  clear HN hb1
  go_wp2_with fail
  refine (HA.out _ ct).mono ?_
  rintro e w2 ⟨rfl, hb2⟩
  go_wp2_with fail
  go_ret
  exact ⟨rfl, hb.trans (hb2.mono hb.size)⟩
end Go.Proofs.Ytgphkfonjfdifaa
