/-
  The law ShopOrders. By an AI agent.; Arguments, opened: lists of ints and of pairs, tables, scenes, structs of them, arrays. By an AI agent.; Arguments, opened: shops. By an AI agent.; Arguments, opened: plans. By an AI agent.
-/
import Derived.Test.YtgphkfonjfdifaaMgShopOrders0
import Derived.Test.YtgphkfonjfdifaaMgShopOrders1
import Derived.Test.YtgphkfonjfdifaaMgShopOrders5
import Derived.Test.YtgphkfonjfdifaaMgShopOrders12
import Derived.Deep.RegionHeld3
import Derived.BigRegion
import Derived.BigQuiet
import Derived.Lib.SmallJoins
import Derived.Deep.Slices
import Derived.OpenShut

namespace Go.Proofs.Ytgphkfonjfdifaa
set_option linter.unusedVariables false
set_option linter.unusedSimpArgs false
open Go.RowKit

set_option maxRecDepth 100000 in
set_option maxHeartbeats 4000000 in
theorem shopOrders_1 (s : Sh) (ap : Option Addr) (P : List (List Int)) (cp : Nat) (m : Int) (w : World) (hI : ShS w s) (hP : RowsS w ap P) (hm : 0 ≤ m ∧ m < s.M) (hE : (judV s P).2.2 = 0) :
    Calls Try.prog 4 #[.agg #[.int .i64 s.O, .int .i64 s.C, .slice s.aH s.H.length s.cH, .int .i64 s.M, .slice s.aS s.S.length s.cS, .slice s.aJ s.J.length s.cJ], .slice ap P.length cp, .int .i64 m] w fun e w' => e = .returned (.bool true) ∧ Below w.heap.size w w' := by
  have HLo := Lib.hid (fun W (hW : Below w.heap.size w W) => long_sh s W (hI.below hW))
  have HRV := Lib.hid (fun W (hW : Below w.heap.size w W) => refValid_sh s W (hI.below hW))
  have HWi := Lib.hid (fun W (hW : Below w.heap.size w W) => wide_sh ap P cp W (hP.below hW))
  have HFi := Lib.hid first_sh
  have HB := Lib.hid (ShBox.start w s 25)
  by_cases hV : ShOk s
  · rw [shB_t hV] at HRV
    have HE := Lib.hid (fun W (hW : Below w.heap.size w W) => end_any s ap P cp W (hI.below hW) hV (hP.below hW))
    have HR := Lib.hid (fun W (hW : Below w.heap.size w W) => refJudge_any s ap P cp W (hI.below hW) hV (hP.below hW))
    have hr := right_of hV hE
    have hO := hr.plan
    have HO : Hid (∀ W, Below w.heap.size w W → Calls Try.prog 18 #[.agg #[.int .i64 s.O, .int .i64 s.C, .slice s.aH s.H.length s.cH, .int .i64 s.M, .slice s.aS s.S.length s.cS, .slice s.aJ s.J.length s.cJ], .slice ap P.length cp, .int .i64 m] W (OrdG s P m W)) := Lib.hid (fun W (hW : Below w.heap.size w W) => ordr_good s ap P cp m W (hI.below hW) hV (hP.below hW) hm hE)
    have HQ := Lib.hid (fun Q (h1 : Q.Perm (plcL s P)) (h2 : SrtQ Q) => ord_one (m := m) hV hr h1 h2)
    have HRO : Hid (∀ W, Below w.heap.size w W → Calls Try.prog 21 #[.agg #[.int .i64 s.O, .int .i64 s.C, .slice s.aH s.H.length s.cH, .int .i64 s.M, .slice s.aS s.S.length s.cS, .slice s.aJ s.J.length s.cJ], .slice ap P.length cp, .int .i64 m] W (RfO s P m W)) := Lib.hid (fun W (hW : Below w.heap.size w W) => refOrder_good s ap P cp m W (hI.below hW) hV (hP.below hW) hO)
    have HSP := Lib.hid samePairs_any
    have HEA := Lib.hid (show endA s P = endV s P by unfold endA; rw [if_pos hE])
    rw [HEA.out] at HE
    clear HEA
    have HRE := Lib.hid (fun W (hW : Below w.heap.size w W) => refEnd_good s ap P cp W (hI.below hW) hV (hP.below hW) hO)
    generalize endV s P = EV at *
    have d9 : (EV != EV) = false := by simp
    unfold RfO at HRO
    generalize prs (insV m (plcL s P)) = LL at *
    clear hr hO
    have h1 : ¬ m < 0 := by omega
    have h2 : ¬ s.M ≤ m := by omega
    obtain ⟨J3, hJ3⟩ : ∃ J3, judV s P = J3 := ⟨_, rfl⟩
    rw [hJ3] at HE HR hE
    clear hJ3
    obtain ⟨j1, j2, j3⟩ := J3
    have hE : j3 = 0 := hE
    subst hE
    clear hV hI hP
    go_enter Try.func4, Try.ntmps4
    go_wp2_with fail
    obtain ⟨wB, hwB⟩ : ∃ wB, w.alloc (.cells #[.int .i64 s.O, .int .i64 s.C, .slice s.aH s.H.length s.cH, .int .i64 s.M, .slice s.aS s.S.length s.cS, .slice s.aJ s.J.length s.cJ] 25) = wB := ⟨_, rfl⟩
    rw [hwB] at HB ⊢
    clear hwB
    obtain ⟨hb, p0, p1, p2, p3, p4, p5⟩ := HB.out
    clear HB
    refine (HLo.out _ hb).mono ?_
    rintro e w1 ⟨⟨b, rfl⟩, hb1⟩
    replace hb := hb.trans (hb1.mono hb.size)
    replace p0 := cell_below p0 hb1
    replace p1 := cell_below p1 hb1
    replace p2 := cell_below p2 hb1
    replace p3 := cell_below p3 hb1
    replace p4 := cell_below p4 hb1
    replace p5 := cell_below p5 hb1
    clear hb1
    cases b with
    | true =>
      go_wp2_with fail
      refine (HFi.out _).mono ?_
      rintro e w9 ⟨rfl, hb9⟩
      go_wp2_with fail
      go_ret
      exact ⟨rfl, hb.trans (hb9.mono hb.size)⟩
    | false =>
      go_wp2_with fail
      refine (HWi.out _ hb).mono ?_
      rintro e w2 ⟨⟨b2, rfl⟩, hb1⟩
      replace hb := hb.trans (hb1.mono hb.size)
      replace p0 := cell_below p0 hb1
      replace p1 := cell_below p1 hb1
      replace p2 := cell_below p2 hb1
      replace p3 := cell_below p3 hb1
      replace p4 := cell_below p4 hb1
      replace p5 := cell_below p5 hb1
      clear hb1
      cases b2 with
      | true =>
        go_wp2_with fail
        refine (HFi.out _).mono ?_
        rintro e w9 ⟨rfl, hb9⟩
        go_wp2_with fail
        go_ret
        exact ⟨rfl, hb.trans (hb9.mono hb.size)⟩
      | false =>
        go_wp2_with fail
        refine (HRV.out _ hb).mono ?_
        rintro e w3 ⟨rfl, hb1⟩
        replace hb := hb.trans (hb1.mono hb.size)
        replace p0 := cell_below p0 hb1
        replace p1 := cell_below p1 hb1
        replace p2 := cell_below p2 hb1
        replace p3 := cell_below p3 hb1
        replace p4 := cell_below p4 hb1
        replace p5 := cell_below p5 hb1
        clear hb1
        go_wp2_with (go_at_call 17; refine (HE.out _ hb).mono ?_; rintro e w1 ⟨rfl, hb1⟩; replace hb := hb.trans (hb1.mono hb.size); replace p0 := cell_below p0 hb1; replace p1 := cell_below p1 hb1; replace p2 := cell_below p2 hb1; replace p3 := cell_below p3 hb1; replace p4 := cell_below p4 hb1; replace p5 := cell_below p5 hb1; clear hb1)
        go_at_call 18
        refine (HO.out _ hb).mono ?_
        rintro e w1 ⟨a, c, Q, rfl, hPm, hSr, hPS, hb1⟩
        rw [HQ.out Q hPm hSr] at hPS ⊢
        replace hb := hb.trans (hb1.mono hb.size); replace p0 := cell_below p0 hb1; replace p1 := cell_below p1 hb1; replace p2 := cell_below p2 hb1; replace p3 := cell_below p3 hb1; replace p4 := cell_below p4 hb1; replace p5 := cell_below p5 hb1
        clear hPm hSr hb1 HQ HO HE
        obtain ⟨wO, rfl⟩ : ∃ wO : World, wO = w1 := ⟨_, rfl⟩
        have HPS := Lib.hid hPS
        have HBO := Lib.hid hb
        have hbO := Below.refl wO.heap.size wO
        clear hPS
        go_wp2_with (first | (go_at_call 16; refine (HR.out _ hb).mono ?_; rintro e w1 ⟨rfl, hb1⟩; replace hbO := hbO.trans (hb1.mono hbO.size); replace hb := hb.trans (hb1.mono hb.size); replace p0 := cell_below p0 hb1; replace p1 := cell_below p1 hb1; replace p2 := cell_below p2 hb1; replace p3 := cell_below p3 hb1; replace p4 := cell_below p4 hb1; replace p5 := cell_below p5 hb1; clear hb1) | (go_at_call 19; refine (HRE.out _ hb).mono ?_; rintro e w1 ⟨rfl, hb1⟩; replace hbO := hbO.trans (hb1.mono hbO.size); replace hb := hb.trans (hb1.mono hb.size); replace p0 := cell_below p0 hb1; replace p1 := cell_below p1 hb1; replace p2 := cell_below p2 hb1; replace p3 := cell_below p3 hb1; replace p4 := cell_below p4 hb1; replace p5 := cell_below p5 hb1; clear hb1))
        go_at_call 21
        refine (HRO.out _ hb).mono ?_
        rintro e w1 ⟨a1, c1, rfl, hPS1, hb1⟩
        have hPS0 := HPS.out.below (hbO.trans (hb1.mono hbO.size))
        replace hb := hb.trans (hb1.mono hb.size)
        clear hb1
        go_wp2_with (first | (go_at_call 20; refine (HSP.out _ _ _ _ _ _ hPS0 hPS1).mono ?_; rintro e w8 ⟨rfl, hb8⟩) | (go_at_call 14; refine (HFi.out _).mono ?_; rintro e w9 ⟨rfl, hb9⟩))
        go_ret
        exact ⟨rfl, hb.trans ((hb8.trans (hb9.mono hb8.size)).mono hb.size)⟩
  · rw [shB_f hV] at HRV
    clear hV hI hP
    go_enter Try.func4, Try.ntmps4
    go_wp2_with fail
    obtain ⟨wB, hwB⟩ : ∃ wB, w.alloc (.cells #[.int .i64 s.O, .int .i64 s.C, .slice s.aH s.H.length s.cH, .int .i64 s.M, .slice s.aS s.S.length s.cS, .slice s.aJ s.J.length s.cJ] 25) = wB := ⟨_, rfl⟩
    rw [hwB] at HB ⊢
    clear hwB
    obtain ⟨hb, p0, p1, p2, p3, p4, p5⟩ := HB.out
    clear HB
    refine (HLo.out _ hb).mono ?_
    rintro e w1 ⟨⟨b, rfl⟩, hb1⟩
    replace hb := hb.trans (hb1.mono hb.size)
    replace p0 := cell_below p0 hb1
    replace p1 := cell_below p1 hb1
    replace p2 := cell_below p2 hb1
    replace p3 := cell_below p3 hb1
    replace p4 := cell_below p4 hb1
    replace p5 := cell_below p5 hb1
    clear hb1
    cases b with
    | true =>
      go_wp2_with fail
      refine (HFi.out _).mono ?_
      rintro e w9 ⟨rfl, hb9⟩
      go_wp2_with fail
      go_ret
      exact ⟨rfl, hb.trans (hb9.mono hb.size)⟩
    | false =>
      go_wp2_with fail
      refine (HWi.out _ hb).mono ?_
      rintro e w2 ⟨⟨b2, rfl⟩, hb1⟩
      replace hb := hb.trans (hb1.mono hb.size)
      replace p0 := cell_below p0 hb1
      replace p1 := cell_below p1 hb1
      replace p2 := cell_below p2 hb1
      replace p3 := cell_below p3 hb1
      replace p4 := cell_below p4 hb1
      replace p5 := cell_below p5 hb1
      clear hb1
      cases b2 with
      | true =>
        go_wp2_with fail
        refine (HFi.out _).mono ?_
        rintro e w9 ⟨rfl, hb9⟩
        go_wp2_with fail
        go_ret
        exact ⟨rfl, hb.trans (hb9.mono hb.size)⟩
      | false =>
        go_wp2_with fail
        refine (HRV.out _ hb).mono ?_
        rintro e w3 ⟨rfl, hb1⟩
        replace hb := hb.trans (hb1.mono hb.size)
        replace p0 := cell_below p0 hb1
        replace p1 := cell_below p1 hb1
        replace p2 := cell_below p2 hb1
        replace p3 := cell_below p3 hb1
        replace p4 := cell_below p4 hb1
        replace p5 := cell_below p5 hb1
        clear hb1
        go_wp2_with fail
        refine (HFi.out _).mono ?_
        rintro e w9 ⟨rfl, hb9⟩
        go_wp2_with fail
        go_ret
        exact ⟨rfl, hb.trans (hb9.mono hb.size)⟩
set_option maxRecDepth 100000 in
set_option maxHeartbeats 4000000 in
theorem shopOrders_2 (s : Sh) (ap : Option Addr) (P : List (List Int)) (cp : Nat) (m : Int) (w : World) (hI : ShS w s) (hP : RowsS w ap P) (hm : m < 0) (hE : (judV s P).2.2 = 0) :
    Calls Try.prog 4 #[.agg #[.int .i64 s.O, .int .i64 s.C, .slice s.aH s.H.length s.cH, .int .i64 s.M, .slice s.aS s.S.length s.cS, .slice s.aJ s.J.length s.cJ], .slice ap P.length cp, .int .i64 m] w fun e w' => e = .returned (.bool true) ∧ Below w.heap.size w w' := by
  have HLo := Lib.hid (fun W (hW : Below w.heap.size w W) => long_sh s W (hI.below hW))
  have HRV := Lib.hid (fun W (hW : Below w.heap.size w W) => refValid_sh s W (hI.below hW))
  have HWi := Lib.hid (fun W (hW : Below w.heap.size w W) => wide_sh ap P cp W (hP.below hW))
  have HFi := Lib.hid first_sh
  have HB := Lib.hid (ShBox.start w s 25)
  by_cases hV : ShOk s
  · rw [shB_t hV] at HRV
    have HE := Lib.hid (fun W (hW : Below w.heap.size w W) => end_any s ap P cp W (hI.below hW) hV (hP.below hW))
    have HR := Lib.hid (fun W (hW : Below w.heap.size w W) => refJudge_any s ap P cp W (hI.below hW) hV (hP.below hW))
    have h0 : m < 0 := hm
    replace hm : ¬ (0 ≤ m ∧ m < s.M) := by omega
    have HO := Lib.hid (fun W (hW : Below w.heap.size w W) => ordr_arg s ap P cp m W (hI.below hW) hV (hP.below hW) hm)
    have hO := (right_of hV hE).plan
    have HEA := Lib.hid (show endA s P = endV s P by unfold endA; rw [if_pos hE])
    rw [HEA.out] at HE
    clear HEA
    have HRE := Lib.hid (fun W (hW : Below w.heap.size w W) => refEnd_good s ap P cp W (hI.below hW) hV (hP.below hW) hO)
    generalize endV s P = EV at *
    have d9 : (EV != EV) = false := by simp
    obtain ⟨J3, hJ3⟩ : ∃ J3, judV s P = J3 := ⟨_, rfl⟩
    rw [hJ3] at HE HR hE
    clear hJ3
    obtain ⟨j1, j2, j3⟩ := J3
    have hE : j3 = 0 := hE
    subst hE
    clear hO hm
    clear hV hI hP
    go_enter Try.func4, Try.ntmps4
    go_wp2_with fail
    obtain ⟨wB, hwB⟩ : ∃ wB, w.alloc (.cells #[.int .i64 s.O, .int .i64 s.C, .slice s.aH s.H.length s.cH, .int .i64 s.M, .slice s.aS s.S.length s.cS, .slice s.aJ s.J.length s.cJ] 25) = wB := ⟨_, rfl⟩
    rw [hwB] at HB ⊢
    clear hwB
    obtain ⟨hb, p0, p1, p2, p3, p4, p5⟩ := HB.out
    clear HB
    refine (HLo.out _ hb).mono ?_
    rintro e w1 ⟨⟨b, rfl⟩, hb1⟩
    replace hb := hb.trans (hb1.mono hb.size)
    replace p0 := cell_below p0 hb1
    replace p1 := cell_below p1 hb1
    replace p2 := cell_below p2 hb1
    replace p3 := cell_below p3 hb1
    replace p4 := cell_below p4 hb1
    replace p5 := cell_below p5 hb1
    clear hb1
    cases b with
    | true =>
      go_wp2_with fail
      refine (HFi.out _).mono ?_
      rintro e w9 ⟨rfl, hb9⟩
      go_wp2_with fail
      go_ret
      exact ⟨rfl, hb.trans (hb9.mono hb.size)⟩
    | false =>
      go_wp2_with fail
      refine (HWi.out _ hb).mono ?_
      rintro e w2 ⟨⟨b2, rfl⟩, hb1⟩
      replace hb := hb.trans (hb1.mono hb.size)
      replace p0 := cell_below p0 hb1
      replace p1 := cell_below p1 hb1
      replace p2 := cell_below p2 hb1
      replace p3 := cell_below p3 hb1
      replace p4 := cell_below p4 hb1
      replace p5 := cell_below p5 hb1
      clear hb1
      cases b2 with
      | true =>
        go_wp2_with fail
        refine (HFi.out _).mono ?_
        rintro e w9 ⟨rfl, hb9⟩
        go_wp2_with fail
        go_ret
        exact ⟨rfl, hb.trans (hb9.mono hb.size)⟩
      | false =>
        go_wp2_with fail
        refine (HRV.out _ hb).mono ?_
        rintro e w3 ⟨rfl, hb1⟩
        replace hb := hb.trans (hb1.mono hb.size)
        replace p0 := cell_below p0 hb1
        replace p1 := cell_below p1 hb1
        replace p2 := cell_below p2 hb1
        replace p3 := cell_below p3 hb1
        replace p4 := cell_below p4 hb1
        replace p5 := cell_below p5 hb1
        clear hb1
        go_wp2_with (first | (go_at_call 17; refine (HE.out _ hb).mono ?_; rintro e w1 ⟨rfl, hb1⟩; replace hb := hb.trans (hb1.mono hb.size); replace p0 := cell_below p0 hb1; replace p1 := cell_below p1 hb1; replace p2 := cell_below p2 hb1; replace p3 := cell_below p3 hb1; replace p4 := cell_below p4 hb1; replace p5 := cell_below p5 hb1; clear hb1) | (go_at_call 18; refine (HO.out _ hb).mono ?_; rintro e w1 ⟨rfl, hb1⟩; replace hb := hb.trans (hb1.mono hb.size); replace p0 := cell_below p0 hb1; replace p1 := cell_below p1 hb1; replace p2 := cell_below p2 hb1; replace p3 := cell_below p3 hb1; replace p4 := cell_below p4 hb1; replace p5 := cell_below p5 hb1; clear hb1) | (go_at_call 16; refine (HR.out _ hb).mono ?_; rintro e w1 ⟨rfl, hb1⟩; replace hb := hb.trans (hb1.mono hb.size); replace p0 := cell_below p0 hb1; replace p1 := cell_below p1 hb1; replace p2 := cell_below p2 hb1; replace p3 := cell_below p3 hb1; replace p4 := cell_below p4 hb1; replace p5 := cell_below p5 hb1; clear hb1) | (go_at_call 19; refine (HRE.out _ hb).mono ?_; rintro e w1 ⟨rfl, hb1⟩; replace hb := hb.trans (hb1.mono hb.size); replace p0 := cell_below p0 hb1; replace p1 := cell_below p1 hb1; replace p2 := cell_below p2 hb1; replace p3 := cell_below p3 hb1; replace p4 := cell_below p4 hb1; replace p5 := cell_below p5 hb1; clear hb1) | (go_at_call 14; refine (HFi.out _).mono ?_; rintro e w9 ⟨rfl, hb9⟩))
        go_ret
        exact ⟨rfl, hb.trans (hb9.mono hb.size)⟩
  · rw [shB_f hV] at HRV
    clear hV hI hP
    go_enter Try.func4, Try.ntmps4
    go_wp2_with fail
    obtain ⟨wB, hwB⟩ : ∃ wB, w.alloc (.cells #[.int .i64 s.O, .int .i64 s.C, .slice s.aH s.H.length s.cH, .int .i64 s.M, .slice s.aS s.S.length s.cS, .slice s.aJ s.J.length s.cJ] 25) = wB := ⟨_, rfl⟩
    rw [hwB] at HB ⊢
    clear hwB
    obtain ⟨hb, p0, p1, p2, p3, p4, p5⟩ := HB.out
    clear HB
    refine (HLo.out _ hb).mono ?_
    rintro e w1 ⟨⟨b, rfl⟩, hb1⟩
    replace hb := hb.trans (hb1.mono hb.size)
    replace p0 := cell_below p0 hb1
    replace p1 := cell_below p1 hb1
    replace p2 := cell_below p2 hb1
    replace p3 := cell_below p3 hb1
    replace p4 := cell_below p4 hb1
    replace p5 := cell_below p5 hb1
    clear hb1
    cases b with
    | true =>
      go_wp2_with fail
      refine (HFi.out _).mono ?_
      rintro e w9 ⟨rfl, hb9⟩
      go_wp2_with fail
      go_ret
      exact ⟨rfl, hb.trans (hb9.mono hb.size)⟩
    | false =>
      go_wp2_with fail
      refine (HWi.out _ hb).mono ?_
      rintro e w2 ⟨⟨b2, rfl⟩, hb1⟩
      replace hb := hb.trans (hb1.mono hb.size)
      replace p0 := cell_below p0 hb1
      replace p1 := cell_below p1 hb1
      replace p2 := cell_below p2 hb1
      replace p3 := cell_below p3 hb1
      replace p4 := cell_below p4 hb1
      replace p5 := cell_below p5 hb1
      clear hb1
      cases b2 with
      | true =>
        go_wp2_with fail
        refine (HFi.out _).mono ?_
        rintro e w9 ⟨rfl, hb9⟩
        go_wp2_with fail
        go_ret
        exact ⟨rfl, hb.trans (hb9.mono hb.size)⟩
      | false =>
        go_wp2_with fail
        refine (HRV.out _ hb).mono ?_
        rintro e w3 ⟨rfl, hb1⟩
        replace hb := hb.trans (hb1.mono hb.size)
        replace p0 := cell_below p0 hb1
        replace p1 := cell_below p1 hb1
        replace p2 := cell_below p2 hb1
        replace p3 := cell_below p3 hb1
        replace p4 := cell_below p4 hb1
        replace p5 := cell_below p5 hb1
        clear hb1
        go_wp2_with fail
        refine (HFi.out _).mono ?_
        rintro e w9 ⟨rfl, hb9⟩
        go_wp2_with fail
        go_ret
        exact ⟨rfl, hb.trans (hb9.mono hb.size)⟩
set_option maxRecDepth 100000 in
set_option maxHeartbeats 4000000 in
theorem shopOrders_2b (s : Sh) (ap : Option Addr) (P : List (List Int)) (cp : Nat) (m : Int) (w : World) (hI : ShS w s) (hP : RowsS w ap P) (hm : m < 0) (hE : ¬ (judV s P).2.2 = 0) :
    Calls Try.prog 4 #[.agg #[.int .i64 s.O, .int .i64 s.C, .slice s.aH s.H.length s.cH, .int .i64 s.M, .slice s.aS s.S.length s.cS, .slice s.aJ s.J.length s.cJ], .slice ap P.length cp, .int .i64 m] w fun e w' => e = .returned (.bool true) ∧ Below w.heap.size w w' := by
  have HLo := Lib.hid (fun W (hW : Below w.heap.size w W) => long_sh s W (hI.below hW))
  have HRV := Lib.hid (fun W (hW : Below w.heap.size w W) => refValid_sh s W (hI.below hW))
  have HWi := Lib.hid (fun W (hW : Below w.heap.size w W) => wide_sh ap P cp W (hP.below hW))
  have HFi := Lib.hid first_sh
  have HB := Lib.hid (ShBox.start w s 25)
  by_cases hV : ShOk s
  · rw [shB_t hV] at HRV
    have HE := Lib.hid (fun W (hW : Below w.heap.size w W) => end_any s ap P cp W (hI.below hW) hV (hP.below hW))
    have HR := Lib.hid (fun W (hW : Below w.heap.size w W) => refJudge_any s ap P cp W (hI.below hW) hV (hP.below hW))
    have h0 : m < 0 := hm
    replace hm : ¬ (0 ≤ m ∧ m < s.M) := by omega
    have HO := Lib.hid (fun W (hW : Below w.heap.size w W) => ordr_arg s ap P cp m W (hI.below hW) hV (hP.below hW) hm)
    have HEA := Lib.hid (show endA s P = 0 by unfold endA; rw [if_neg hE])
    rw [HEA.out] at HE
    clear HEA hm
    obtain ⟨J3, hJ3⟩ : ∃ J3, judV s P = J3 := ⟨_, rfl⟩
    rw [hJ3] at HE HR hE
    clear hJ3
    obtain ⟨j1, j2, j3⟩ := J3
    have hE : ¬ j3 = 0 := hE
    have d1 : (j3 != 0) = true := by simpa using hE
    have d2 : (j3 == j3) = true := by simp
    have d3 : (j3 != j3) = false := by simp
    clear hE
    clear hV hI hP
    go_enter Try.func4, Try.ntmps4
    go_wp2_with fail
    obtain ⟨wB, hwB⟩ : ∃ wB, w.alloc (.cells #[.int .i64 s.O, .int .i64 s.C, .slice s.aH s.H.length s.cH, .int .i64 s.M, .slice s.aS s.S.length s.cS, .slice s.aJ s.J.length s.cJ] 25) = wB := ⟨_, rfl⟩
    rw [hwB] at HB ⊢
    clear hwB
    obtain ⟨hb, p0, p1, p2, p3, p4, p5⟩ := HB.out
    clear HB
    refine (HLo.out _ hb).mono ?_
    rintro e w1 ⟨⟨b, rfl⟩, hb1⟩
    replace hb := hb.trans (hb1.mono hb.size)
    replace p0 := cell_below p0 hb1
    replace p1 := cell_below p1 hb1
    replace p2 := cell_below p2 hb1
    replace p3 := cell_below p3 hb1
    replace p4 := cell_below p4 hb1
    replace p5 := cell_below p5 hb1
    clear hb1
    cases b with
    | true =>
      go_wp2_with fail
      refine (HFi.out _).mono ?_
      rintro e w9 ⟨rfl, hb9⟩
      go_wp2_with fail
      go_ret
      exact ⟨rfl, hb.trans (hb9.mono hb.size)⟩
    | false =>
      go_wp2_with fail
      refine (HWi.out _ hb).mono ?_
      rintro e w2 ⟨⟨b2, rfl⟩, hb1⟩
      replace hb := hb.trans (hb1.mono hb.size)
      replace p0 := cell_below p0 hb1
      replace p1 := cell_below p1 hb1
      replace p2 := cell_below p2 hb1
      replace p3 := cell_below p3 hb1
      replace p4 := cell_below p4 hb1
      replace p5 := cell_below p5 hb1
      clear hb1
      cases b2 with
      | true =>
        go_wp2_with fail
        refine (HFi.out _).mono ?_
        rintro e w9 ⟨rfl, hb9⟩
        go_wp2_with fail
        go_ret
        exact ⟨rfl, hb.trans (hb9.mono hb.size)⟩
      | false =>
        go_wp2_with fail
        refine (HRV.out _ hb).mono ?_
        rintro e w3 ⟨rfl, hb1⟩
        replace hb := hb.trans (hb1.mono hb.size)
        replace p0 := cell_below p0 hb1
        replace p1 := cell_below p1 hb1
        replace p2 := cell_below p2 hb1
        replace p3 := cell_below p3 hb1
        replace p4 := cell_below p4 hb1
        replace p5 := cell_below p5 hb1
        clear hb1
        go_wp2_with (first | (go_at_call 17; refine (HE.out _ hb).mono ?_; rintro e w1 ⟨rfl, hb1⟩; replace hb := hb.trans (hb1.mono hb.size); replace p0 := cell_below p0 hb1; replace p1 := cell_below p1 hb1; replace p2 := cell_below p2 hb1; replace p3 := cell_below p3 hb1; replace p4 := cell_below p4 hb1; replace p5 := cell_below p5 hb1; clear hb1) | (go_at_call 18; refine (HO.out _ hb).mono ?_; rintro e w1 ⟨rfl, hb1⟩; replace hb := hb.trans (hb1.mono hb.size); replace p0 := cell_below p0 hb1; replace p1 := cell_below p1 hb1; replace p2 := cell_below p2 hb1; replace p3 := cell_below p3 hb1; replace p4 := cell_below p4 hb1; replace p5 := cell_below p5 hb1; clear hb1) | (go_at_call 16; refine (HR.out _ hb).mono ?_; rintro e w1 ⟨rfl, hb1⟩; replace hb := hb.trans (hb1.mono hb.size); replace p0 := cell_below p0 hb1; replace p1 := cell_below p1 hb1; replace p2 := cell_below p2 hb1; replace p3 := cell_below p3 hb1; replace p4 := cell_below p4 hb1; replace p5 := cell_below p5 hb1; clear hb1) | (go_at_call 14; refine (HFi.out _).mono ?_; rintro e w9 ⟨rfl, hb9⟩))
        go_ret
        exact ⟨rfl, hb.trans (hb9.mono hb.size)⟩
  · rw [shB_f hV] at HRV
    clear hV hI hP
    go_enter Try.func4, Try.ntmps4
    go_wp2_with fail
    obtain ⟨wB, hwB⟩ : ∃ wB, w.alloc (.cells #[.int .i64 s.O, .int .i64 s.C, .slice s.aH s.H.length s.cH, .int .i64 s.M, .slice s.aS s.S.length s.cS, .slice s.aJ s.J.length s.cJ] 25) = wB := ⟨_, rfl⟩
    rw [hwB] at HB ⊢
    clear hwB
    obtain ⟨hb, p0, p1, p2, p3, p4, p5⟩ := HB.out
    clear HB
    refine (HLo.out _ hb).mono ?_
    rintro e w1 ⟨⟨b, rfl⟩, hb1⟩
    replace hb := hb.trans (hb1.mono hb.size)
    replace p0 := cell_below p0 hb1
    replace p1 := cell_below p1 hb1
    replace p2 := cell_below p2 hb1
    replace p3 := cell_below p3 hb1
    replace p4 := cell_below p4 hb1
    replace p5 := cell_below p5 hb1
    clear hb1
    cases b with
    | true =>
      go_wp2_with fail
      refine (HFi.out _).mono ?_
      rintro e w9 ⟨rfl, hb9⟩
      go_wp2_with fail
      go_ret
      exact ⟨rfl, hb.trans (hb9.mono hb.size)⟩
    | false =>
      go_wp2_with fail
      refine (HWi.out _ hb).mono ?_
      rintro e w2 ⟨⟨b2, rfl⟩, hb1⟩
      replace hb := hb.trans (hb1.mono hb.size)
      replace p0 := cell_below p0 hb1
      replace p1 := cell_below p1 hb1
      replace p2 := cell_below p2 hb1
      replace p3 := cell_below p3 hb1
      replace p4 := cell_below p4 hb1
      replace p5 := cell_below p5 hb1
      clear hb1
      cases b2 with
      | true =>
        go_wp2_with fail
        refine (HFi.out _).mono ?_
        rintro e w9 ⟨rfl, hb9⟩
        go_wp2_with fail
        go_ret
        exact ⟨rfl, hb.trans (hb9.mono hb.size)⟩
      | false =>
        go_wp2_with fail
        refine (HRV.out _ hb).mono ?_
        rintro e w3 ⟨rfl, hb1⟩
        replace hb := hb.trans (hb1.mono hb.size)
        replace p0 := cell_below p0 hb1
        replace p1 := cell_below p1 hb1
        replace p2 := cell_below p2 hb1
        replace p3 := cell_below p3 hb1
        replace p4 := cell_below p4 hb1
        replace p5 := cell_below p5 hb1
        clear hb1
        go_wp2_with fail
        refine (HFi.out _).mono ?_
        rintro e w9 ⟨rfl, hb9⟩
        go_wp2_with fail
        go_ret
        exact ⟨rfl, hb.trans (hb9.mono hb.size)⟩
set_option maxRecDepth 100000 in
set_option maxHeartbeats 4000000 in
theorem shopOrders_3 (s : Sh) (ap : Option Addr) (P : List (List Int)) (cp : Nat) (m : Int) (w : World) (hI : ShS w s) (hP : RowsS w ap P) (hm : s.M ≤ m) (hE : (judV s P).2.2 = 0) :
    Calls Try.prog 4 #[.agg #[.int .i64 s.O, .int .i64 s.C, .slice s.aH s.H.length s.cH, .int .i64 s.M, .slice s.aS s.S.length s.cS, .slice s.aJ s.J.length s.cJ], .slice ap P.length cp, .int .i64 m] w fun e w' => e = .returned (.bool true) ∧ Below w.heap.size w w' := by
  have HLo := Lib.hid (fun W (hW : Below w.heap.size w W) => long_sh s W (hI.below hW))
  have HRV := Lib.hid (fun W (hW : Below w.heap.size w W) => refValid_sh s W (hI.below hW))
  have HWi := Lib.hid (fun W (hW : Below w.heap.size w W) => wide_sh ap P cp W (hP.below hW))
  have HFi := Lib.hid first_sh
  have HB := Lib.hid (ShBox.start w s 25)
  by_cases hV : ShOk s
  · rw [shB_t hV] at HRV
    have HE := Lib.hid (fun W (hW : Below w.heap.size w W) => end_any s ap P cp W (hI.below hW) hV (hP.below hW))
    have HR := Lib.hid (fun W (hW : Below w.heap.size w W) => refJudge_any s ap P cp W (hI.below hW) hV (hP.below hW))
    have h0 : s.M ≤ m := hm
    replace hm : ¬ (0 ≤ m ∧ m < s.M) := by omega
    have HO := Lib.hid (fun W (hW : Below w.heap.size w W) => ordr_arg s ap P cp m W (hI.below hW) hV (hP.below hW) hm)
    have hM := hV.2.2.1.1
    have h1 : ¬ m < 0 := by omega
    have hO := (right_of hV hE).plan
    have HEA := Lib.hid (show endA s P = endV s P by unfold endA; rw [if_pos hE])
    rw [HEA.out] at HE
    clear HEA
    have HRE := Lib.hid (fun W (hW : Below w.heap.size w W) => refEnd_good s ap P cp W (hI.below hW) hV (hP.below hW) hO)
    generalize endV s P = EV at *
    have d9 : (EV != EV) = false := by simp
    obtain ⟨J3, hJ3⟩ : ∃ J3, judV s P = J3 := ⟨_, rfl⟩
    rw [hJ3] at HE HR hE
    clear hJ3
    obtain ⟨j1, j2, j3⟩ := J3
    have hE : j3 = 0 := hE
    subst hE
    clear hO hm
    clear hV hI hP
    go_enter Try.func4, Try.ntmps4
    go_wp2_with fail
    obtain ⟨wB, hwB⟩ : ∃ wB, w.alloc (.cells #[.int .i64 s.O, .int .i64 s.C, .slice s.aH s.H.length s.cH, .int .i64 s.M, .slice s.aS s.S.length s.cS, .slice s.aJ s.J.length s.cJ] 25) = wB := ⟨_, rfl⟩
    rw [hwB] at HB ⊢
    clear hwB
    obtain ⟨hb, p0, p1, p2, p3, p4, p5⟩ := HB.out
    clear HB
    refine (HLo.out _ hb).mono ?_
    rintro e w1 ⟨⟨b, rfl⟩, hb1⟩
    replace hb := hb.trans (hb1.mono hb.size)
    replace p0 := cell_below p0 hb1
    replace p1 := cell_below p1 hb1
    replace p2 := cell_below p2 hb1
    replace p3 := cell_below p3 hb1
    replace p4 := cell_below p4 hb1
    replace p5 := cell_below p5 hb1
    clear hb1
    cases b with
    | true =>
      go_wp2_with fail
      refine (HFi.out _).mono ?_
      rintro e w9 ⟨rfl, hb9⟩
      go_wp2_with fail
      go_ret
      exact ⟨rfl, hb.trans (hb9.mono hb.size)⟩
    | false =>
      go_wp2_with fail
      refine (HWi.out _ hb).mono ?_
      rintro e w2 ⟨⟨b2, rfl⟩, hb1⟩
      replace hb := hb.trans (hb1.mono hb.size)
      replace p0 := cell_below p0 hb1
      replace p1 := cell_below p1 hb1
      replace p2 := cell_below p2 hb1
      replace p3 := cell_below p3 hb1
      replace p4 := cell_below p4 hb1
      replace p5 := cell_below p5 hb1
      clear hb1
      cases b2 with
      | true =>
        go_wp2_with fail
        refine (HFi.out _).mono ?_
        rintro e w9 ⟨rfl, hb9⟩
        go_wp2_with fail
        go_ret
        exact ⟨rfl, hb.trans (hb9.mono hb.size)⟩
      | false =>
        go_wp2_with fail
        refine (HRV.out _ hb).mono ?_
        rintro e w3 ⟨rfl, hb1⟩
        replace hb := hb.trans (hb1.mono hb.size)
        replace p0 := cell_below p0 hb1
        replace p1 := cell_below p1 hb1
        replace p2 := cell_below p2 hb1
        replace p3 := cell_below p3 hb1
        replace p4 := cell_below p4 hb1
        replace p5 := cell_below p5 hb1
        clear hb1
        go_wp2_with (first | (go_at_call 17; refine (HE.out _ hb).mono ?_; rintro e w1 ⟨rfl, hb1⟩; replace hb := hb.trans (hb1.mono hb.size); replace p0 := cell_below p0 hb1; replace p1 := cell_below p1 hb1; replace p2 := cell_below p2 hb1; replace p3 := cell_below p3 hb1; replace p4 := cell_below p4 hb1; replace p5 := cell_below p5 hb1; clear hb1) | (go_at_call 18; refine (HO.out _ hb).mono ?_; rintro e w1 ⟨rfl, hb1⟩; replace hb := hb.trans (hb1.mono hb.size); replace p0 := cell_below p0 hb1; replace p1 := cell_below p1 hb1; replace p2 := cell_below p2 hb1; replace p3 := cell_below p3 hb1; replace p4 := cell_below p4 hb1; replace p5 := cell_below p5 hb1; clear hb1) | (go_at_call 16; refine (HR.out _ hb).mono ?_; rintro e w1 ⟨rfl, hb1⟩; replace hb := hb.trans (hb1.mono hb.size); replace p0 := cell_below p0 hb1; replace p1 := cell_below p1 hb1; replace p2 := cell_below p2 hb1; replace p3 := cell_below p3 hb1; replace p4 := cell_below p4 hb1; replace p5 := cell_below p5 hb1; clear hb1) | (go_at_call 19; refine (HRE.out _ hb).mono ?_; rintro e w1 ⟨rfl, hb1⟩; replace hb := hb.trans (hb1.mono hb.size); replace p0 := cell_below p0 hb1; replace p1 := cell_below p1 hb1; replace p2 := cell_below p2 hb1; replace p3 := cell_below p3 hb1; replace p4 := cell_below p4 hb1; replace p5 := cell_below p5 hb1; clear hb1) | (go_at_call 14; refine (HFi.out _).mono ?_; rintro e w9 ⟨rfl, hb9⟩))
        go_ret
        exact ⟨rfl, hb.trans (hb9.mono hb.size)⟩
  · rw [shB_f hV] at HRV
    clear hV hI hP
    go_enter Try.func4, Try.ntmps4
    go_wp2_with fail
    obtain ⟨wB, hwB⟩ : ∃ wB, w.alloc (.cells #[.int .i64 s.O, .int .i64 s.C, .slice s.aH s.H.length s.cH, .int .i64 s.M, .slice s.aS s.S.length s.cS, .slice s.aJ s.J.length s.cJ] 25) = wB := ⟨_, rfl⟩
    rw [hwB] at HB ⊢
    clear hwB
    obtain ⟨hb, p0, p1, p2, p3, p4, p5⟩ := HB.out
    clear HB
    refine (HLo.out _ hb).mono ?_
    rintro e w1 ⟨⟨b, rfl⟩, hb1⟩
    replace hb := hb.trans (hb1.mono hb.size)
    replace p0 := cell_below p0 hb1
    replace p1 := cell_below p1 hb1
    replace p2 := cell_below p2 hb1
    replace p3 := cell_below p3 hb1
    replace p4 := cell_below p4 hb1
    replace p5 := cell_below p5 hb1
    clear hb1
    cases b with
    | true =>
      go_wp2_with fail
      refine (HFi.out _).mono ?_
      rintro e w9 ⟨rfl, hb9⟩
      go_wp2_with fail
      go_ret
      exact ⟨rfl, hb.trans (hb9.mono hb.size)⟩
    | false =>
      go_wp2_with fail
      refine (HWi.out _ hb).mono ?_
      rintro e w2 ⟨⟨b2, rfl⟩, hb1⟩
      replace hb := hb.trans (hb1.mono hb.size)
      replace p0 := cell_below p0 hb1
      replace p1 := cell_below p1 hb1
      replace p2 := cell_below p2 hb1
      replace p3 := cell_below p3 hb1
      replace p4 := cell_below p4 hb1
      replace p5 := cell_below p5 hb1
      clear hb1
      cases b2 with
      | true =>
        go_wp2_with fail
        refine (HFi.out _).mono ?_
        rintro e w9 ⟨rfl, hb9⟩
        go_wp2_with fail
        go_ret
        exact ⟨rfl, hb.trans (hb9.mono hb.size)⟩
      | false =>
        go_wp2_with fail
        refine (HRV.out _ hb).mono ?_
        rintro e w3 ⟨rfl, hb1⟩
        replace hb := hb.trans (hb1.mono hb.size)
        replace p0 := cell_below p0 hb1
        replace p1 := cell_below p1 hb1
        replace p2 := cell_below p2 hb1
        replace p3 := cell_below p3 hb1
        replace p4 := cell_below p4 hb1
        replace p5 := cell_below p5 hb1
        clear hb1
        go_wp2_with fail
        refine (HFi.out _).mono ?_
        rintro e w9 ⟨rfl, hb9⟩
        go_wp2_with fail
        go_ret
        exact ⟨rfl, hb.trans (hb9.mono hb.size)⟩
set_option maxRecDepth 100000 in
set_option maxHeartbeats 4000000 in
theorem shopOrders_3b (s : Sh) (ap : Option Addr) (P : List (List Int)) (cp : Nat) (m : Int) (w : World) (hI : ShS w s) (hP : RowsS w ap P) (hm : s.M ≤ m) (hE : ¬ (judV s P).2.2 = 0) :
    Calls Try.prog 4 #[.agg #[.int .i64 s.O, .int .i64 s.C, .slice s.aH s.H.length s.cH, .int .i64 s.M, .slice s.aS s.S.length s.cS, .slice s.aJ s.J.length s.cJ], .slice ap P.length cp, .int .i64 m] w fun e w' => e = .returned (.bool true) ∧ Below w.heap.size w w' := by
  have HLo := Lib.hid (fun W (hW : Below w.heap.size w W) => long_sh s W (hI.below hW))
  have HRV := Lib.hid (fun W (hW : Below w.heap.size w W) => refValid_sh s W (hI.below hW))
  have HWi := Lib.hid (fun W (hW : Below w.heap.size w W) => wide_sh ap P cp W (hP.below hW))
  have HFi := Lib.hid first_sh
  have HB := Lib.hid (ShBox.start w s 25)
  by_cases hV : ShOk s
  · rw [shB_t hV] at HRV
    have HE := Lib.hid (fun W (hW : Below w.heap.size w W) => end_any s ap P cp W (hI.below hW) hV (hP.below hW))
    have HR := Lib.hid (fun W (hW : Below w.heap.size w W) => refJudge_any s ap P cp W (hI.below hW) hV (hP.below hW))
    have h0 : s.M ≤ m := hm
    replace hm : ¬ (0 ≤ m ∧ m < s.M) := by omega
    have HO := Lib.hid (fun W (hW : Below w.heap.size w W) => ordr_arg s ap P cp m W (hI.below hW) hV (hP.below hW) hm)
    have hM := hV.2.2.1.1
    have h1 : ¬ m < 0 := by omega
    have HEA := Lib.hid (show endA s P = 0 by unfold endA; rw [if_neg hE])
    rw [HEA.out] at HE
    clear HEA hm
    obtain ⟨J3, hJ3⟩ : ∃ J3, judV s P = J3 := ⟨_, rfl⟩
    rw [hJ3] at HE HR hE
    clear hJ3
    obtain ⟨j1, j2, j3⟩ := J3
    have hE : ¬ j3 = 0 := hE
    have d1 : (j3 != 0) = true := by simpa using hE
    have d2 : (j3 == j3) = true := by simp
    have d3 : (j3 != j3) = false := by simp
    clear hE
    clear hV hI hP
    go_enter Try.func4, Try.ntmps4
    go_wp2_with fail
    obtain ⟨wB, hwB⟩ : ∃ wB, w.alloc (.cells #[.int .i64 s.O, .int .i64 s.C, .slice s.aH s.H.length s.cH, .int .i64 s.M, .slice s.aS s.S.length s.cS, .slice s.aJ s.J.length s.cJ] 25) = wB := ⟨_, rfl⟩
    rw [hwB] at HB ⊢
    clear hwB
    obtain ⟨hb, p0, p1, p2, p3, p4, p5⟩ := HB.out
    clear HB
    refine (HLo.out _ hb).mono ?_
    rintro e w1 ⟨⟨b, rfl⟩, hb1⟩
    replace hb := hb.trans (hb1.mono hb.size)
    replace p0 := cell_below p0 hb1
    replace p1 := cell_below p1 hb1
    replace p2 := cell_below p2 hb1
    replace p3 := cell_below p3 hb1
    replace p4 := cell_below p4 hb1
    replace p5 := cell_below p5 hb1
    clear hb1
    cases b with
    | true =>
      go_wp2_with fail
      refine (HFi.out _).mono ?_
      rintro e w9 ⟨rfl, hb9⟩
      go_wp2_with fail
      go_ret
      exact ⟨rfl, hb.trans (hb9.mono hb.size)⟩
    | false =>
      go_wp2_with fail
      refine (HWi.out _ hb).mono ?_
      rintro e w2 ⟨⟨b2, rfl⟩, hb1⟩
      replace hb := hb.trans (hb1.mono hb.size)
      replace p0 := cell_below p0 hb1
      replace p1 := cell_below p1 hb1
      replace p2 := cell_below p2 hb1
      replace p3 := cell_below p3 hb1
      replace p4 := cell_below p4 hb1
      replace p5 := cell_below p5 hb1
      clear hb1
      cases b2 with
      | true =>
        go_wp2_with fail
        refine (HFi.out _).mono ?_
        rintro e w9 ⟨rfl, hb9⟩
        go_wp2_with fail
        go_ret
        exact ⟨rfl, hb.trans (hb9.mono hb.size)⟩
      | false =>
        go_wp2_with fail
        refine (HRV.out _ hb).mono ?_
        rintro e w3 ⟨rfl, hb1⟩
        replace hb := hb.trans (hb1.mono hb.size)
        replace p0 := cell_below p0 hb1
        replace p1 := cell_below p1 hb1
        replace p2 := cell_below p2 hb1
        replace p3 := cell_below p3 hb1
        replace p4 := cell_below p4 hb1
        replace p5 := cell_below p5 hb1
        clear hb1
        go_wp2_with (first | (go_at_call 17; refine (HE.out _ hb).mono ?_; rintro e w1 ⟨rfl, hb1⟩; replace hb := hb.trans (hb1.mono hb.size); replace p0 := cell_below p0 hb1; replace p1 := cell_below p1 hb1; replace p2 := cell_below p2 hb1; replace p3 := cell_below p3 hb1; replace p4 := cell_below p4 hb1; replace p5 := cell_below p5 hb1; clear hb1) | (go_at_call 18; refine (HO.out _ hb).mono ?_; rintro e w1 ⟨rfl, hb1⟩; replace hb := hb.trans (hb1.mono hb.size); replace p0 := cell_below p0 hb1; replace p1 := cell_below p1 hb1; replace p2 := cell_below p2 hb1; replace p3 := cell_below p3 hb1; replace p4 := cell_below p4 hb1; replace p5 := cell_below p5 hb1; clear hb1) | (go_at_call 16; refine (HR.out _ hb).mono ?_; rintro e w1 ⟨rfl, hb1⟩; replace hb := hb.trans (hb1.mono hb.size); replace p0 := cell_below p0 hb1; replace p1 := cell_below p1 hb1; replace p2 := cell_below p2 hb1; replace p3 := cell_below p3 hb1; replace p4 := cell_below p4 hb1; replace p5 := cell_below p5 hb1; clear hb1) | (go_at_call 14; refine (HFi.out _).mono ?_; rintro e w9 ⟨rfl, hb9⟩))
        go_ret
        exact ⟨rfl, hb.trans (hb9.mono hb.size)⟩
  · rw [shB_f hV] at HRV
    clear hV hI hP
    go_enter Try.func4, Try.ntmps4
    go_wp2_with fail
    obtain ⟨wB, hwB⟩ : ∃ wB, w.alloc (.cells #[.int .i64 s.O, .int .i64 s.C, .slice s.aH s.H.length s.cH, .int .i64 s.M, .slice s.aS s.S.length s.cS, .slice s.aJ s.J.length s.cJ] 25) = wB := ⟨_, rfl⟩
    rw [hwB] at HB ⊢
    clear hwB
    obtain ⟨hb, p0, p1, p2, p3, p4, p5⟩ := HB.out
    clear HB
    refine (HLo.out _ hb).mono ?_
    rintro e w1 ⟨⟨b, rfl⟩, hb1⟩
    replace hb := hb.trans (hb1.mono hb.size)
    replace p0 := cell_below p0 hb1
    replace p1 := cell_below p1 hb1
    replace p2 := cell_below p2 hb1
    replace p3 := cell_below p3 hb1
    replace p4 := cell_below p4 hb1
    replace p5 := cell_below p5 hb1
    clear hb1
    cases b with
    | true =>
      go_wp2_with fail
      refine (HFi.out _).mono ?_
      rintro e w9 ⟨rfl, hb9⟩
      go_wp2_with fail
      go_ret
      exact ⟨rfl, hb.trans (hb9.mono hb.size)⟩
    | false =>
      go_wp2_with fail
      refine (HWi.out _ hb).mono ?_
      rintro e w2 ⟨⟨b2, rfl⟩, hb1⟩
      replace hb := hb.trans (hb1.mono hb.size)
      replace p0 := cell_below p0 hb1
      replace p1 := cell_below p1 hb1
      replace p2 := cell_below p2 hb1
      replace p3 := cell_below p3 hb1
      replace p4 := cell_below p4 hb1
      replace p5 := cell_below p5 hb1
      clear hb1
      cases b2 with
      | true =>
        go_wp2_with fail
        refine (HFi.out _).mono ?_
        rintro e w9 ⟨rfl, hb9⟩
        go_wp2_with fail
        go_ret
        exact ⟨rfl, hb.trans (hb9.mono hb.size)⟩
      | false =>
        go_wp2_with fail
        refine (HRV.out _ hb).mono ?_
        rintro e w3 ⟨rfl, hb1⟩
        replace hb := hb.trans (hb1.mono hb.size)
        replace p0 := cell_below p0 hb1
        replace p1 := cell_below p1 hb1
        replace p2 := cell_below p2 hb1
        replace p3 := cell_below p3 hb1
        replace p4 := cell_below p4 hb1
        replace p5 := cell_below p5 hb1
        clear hb1
        go_wp2_with fail
        refine (HFi.out _).mono ?_
        rintro e w9 ⟨rfl, hb9⟩
        go_wp2_with fail
        go_ret
        exact ⟨rfl, hb.trans (hb9.mono hb.size)⟩
set_option maxRecDepth 100000 in
set_option maxHeartbeats 4000000 in
theorem shopOrders_4 (s : Sh) (ap : Option Addr) (P : List (List Int)) (cp : Nat) (m : Int) (w : World) (hI : ShS w s) (hP : RowsS w ap P) (hm : 0 ≤ m ∧ m < s.M) (hE : ¬ (judV s P).2.2 = 0) :
    Calls Try.prog 4 #[.agg #[.int .i64 s.O, .int .i64 s.C, .slice s.aH s.H.length s.cH, .int .i64 s.M, .slice s.aS s.S.length s.cS, .slice s.aJ s.J.length s.cJ], .slice ap P.length cp, .int .i64 m] w fun e w' => e = .returned (.bool true) ∧ Below w.heap.size w w' := by
  have HLo := Lib.hid (fun W (hW : Below w.heap.size w W) => long_sh s W (hI.below hW))
  have HRV := Lib.hid (fun W (hW : Below w.heap.size w W) => refValid_sh s W (hI.below hW))
  have HWi := Lib.hid (fun W (hW : Below w.heap.size w W) => wide_sh ap P cp W (hP.below hW))
  have HFi := Lib.hid first_sh
  have HB := Lib.hid (ShBox.start w s 25)
  by_cases hV : ShOk s
  · rw [shB_t hV] at HRV
    have HE := Lib.hid (fun W (hW : Below w.heap.size w W) => end_any s ap P cp W (hI.below hW) hV (hP.below hW))
    have HR := Lib.hid (fun W (hW : Below w.heap.size w W) => refJudge_any s ap P cp W (hI.below hW) hV (hP.below hW))
    have HO := Lib.hid (fun W (hW : Below w.heap.size w W) => ordr_bad s ap P cp m W (hI.below hW) hV (hP.below hW) hm hE)
    have h1 : ¬ m < 0 := by omega
    have h2 : ¬ s.M ≤ m := by omega
    have HEA := Lib.hid (show endA s P = 0 by unfold endA; rw [if_neg hE])
    rw [HEA.out] at HE
    clear HEA hm
    obtain ⟨J3, hJ3⟩ : ∃ J3, judV s P = J3 := ⟨_, rfl⟩
    rw [hJ3] at HE HR hE HO
    clear hJ3
    obtain ⟨j1, j2, j3⟩ := J3
    have hE : ¬ j3 = 0 := hE
    have d1 : (j3 != 0) = true := by simpa using hE
    have d2 : (j3 == j3) = true := by simp
    have d3 : (j3 != j3) = false := by simp
    clear hE
    clear hV hI hP
    go_enter Try.func4, Try.ntmps4
    go_wp2_with fail
    obtain ⟨wB, hwB⟩ : ∃ wB, w.alloc (.cells #[.int .i64 s.O, .int .i64 s.C, .slice s.aH s.H.length s.cH, .int .i64 s.M, .slice s.aS s.S.length s.cS, .slice s.aJ s.J.length s.cJ] 25) = wB := ⟨_, rfl⟩
    rw [hwB] at HB ⊢
    clear hwB
    obtain ⟨hb, p0, p1, p2, p3, p4, p5⟩ := HB.out
    clear HB
    refine (HLo.out _ hb).mono ?_
    rintro e w1 ⟨⟨b, rfl⟩, hb1⟩
    replace hb := hb.trans (hb1.mono hb.size)
    replace p0 := cell_below p0 hb1
    replace p1 := cell_below p1 hb1
    replace p2 := cell_below p2 hb1
    replace p3 := cell_below p3 hb1
    replace p4 := cell_below p4 hb1
    replace p5 := cell_below p5 hb1
    clear hb1
    cases b with
    | true =>
      go_wp2_with fail
      refine (HFi.out _).mono ?_
      rintro e w9 ⟨rfl, hb9⟩
      go_wp2_with fail
      go_ret
      exact ⟨rfl, hb.trans (hb9.mono hb.size)⟩
    | false =>
      go_wp2_with fail
      refine (HWi.out _ hb).mono ?_
      rintro e w2 ⟨⟨b2, rfl⟩, hb1⟩
      replace hb := hb.trans (hb1.mono hb.size)
      replace p0 := cell_below p0 hb1
      replace p1 := cell_below p1 hb1
      replace p2 := cell_below p2 hb1
      replace p3 := cell_below p3 hb1
      replace p4 := cell_below p4 hb1
      replace p5 := cell_below p5 hb1
      clear hb1
      cases b2 with
      | true =>
        go_wp2_with fail
        refine (HFi.out _).mono ?_
        rintro e w9 ⟨rfl, hb9⟩
        go_wp2_with fail
        go_ret
        exact ⟨rfl, hb.trans (hb9.mono hb.size)⟩
      | false =>
        go_wp2_with fail
        refine (HRV.out _ hb).mono ?_
        rintro e w3 ⟨rfl, hb1⟩
        replace hb := hb.trans (hb1.mono hb.size)
        replace p0 := cell_below p0 hb1
        replace p1 := cell_below p1 hb1
        replace p2 := cell_below p2 hb1
        replace p3 := cell_below p3 hb1
        replace p4 := cell_below p4 hb1
        replace p5 := cell_below p5 hb1
        clear hb1
        go_wp2_with (first | (go_at_call 17; refine (HE.out _ hb).mono ?_; rintro e w1 ⟨rfl, hb1⟩; replace hb := hb.trans (hb1.mono hb.size); replace p0 := cell_below p0 hb1; replace p1 := cell_below p1 hb1; replace p2 := cell_below p2 hb1; replace p3 := cell_below p3 hb1; replace p4 := cell_below p4 hb1; replace p5 := cell_below p5 hb1; clear hb1) | (go_at_call 18; refine (HO.out _ hb).mono ?_; rintro e w1 ⟨rfl, hb1⟩; replace hb := hb.trans (hb1.mono hb.size); replace p0 := cell_below p0 hb1; replace p1 := cell_below p1 hb1; replace p2 := cell_below p2 hb1; replace p3 := cell_below p3 hb1; replace p4 := cell_below p4 hb1; replace p5 := cell_below p5 hb1; clear hb1) | (go_at_call 16; refine (HR.out _ hb).mono ?_; rintro e w1 ⟨rfl, hb1⟩; replace hb := hb.trans (hb1.mono hb.size); replace p0 := cell_below p0 hb1; replace p1 := cell_below p1 hb1; replace p2 := cell_below p2 hb1; replace p3 := cell_below p3 hb1; replace p4 := cell_below p4 hb1; replace p5 := cell_below p5 hb1; clear hb1) | (go_at_call 14; refine (HFi.out _).mono ?_; rintro e w9 ⟨rfl, hb9⟩))
        go_ret
        exact ⟨rfl, hb.trans (hb9.mono hb.size)⟩
  · rw [shB_f hV] at HRV
    clear hV hI hP
    go_enter Try.func4, Try.ntmps4
    go_wp2_with fail
    obtain ⟨wB, hwB⟩ : ∃ wB, w.alloc (.cells #[.int .i64 s.O, .int .i64 s.C, .slice s.aH s.H.length s.cH, .int .i64 s.M, .slice s.aS s.S.length s.cS, .slice s.aJ s.J.length s.cJ] 25) = wB := ⟨_, rfl⟩
    rw [hwB] at HB ⊢
    clear hwB
    obtain ⟨hb, p0, p1, p2, p3, p4, p5⟩ := HB.out
    clear HB
    refine (HLo.out _ hb).mono ?_
    rintro e w1 ⟨⟨b, rfl⟩, hb1⟩
    replace hb := hb.trans (hb1.mono hb.size)
    replace p0 := cell_below p0 hb1
    replace p1 := cell_below p1 hb1
    replace p2 := cell_below p2 hb1
    replace p3 := cell_below p3 hb1
    replace p4 := cell_below p4 hb1
    replace p5 := cell_below p5 hb1
    clear hb1
    cases b with
    | true =>
      go_wp2_with fail
      refine (HFi.out _).mono ?_
      rintro e w9 ⟨rfl, hb9⟩
      go_wp2_with fail
      go_ret
      exact ⟨rfl, hb.trans (hb9.mono hb.size)⟩
    | false =>
      go_wp2_with fail
      refine (HWi.out _ hb).mono ?_
      rintro e w2 ⟨⟨b2, rfl⟩, hb1⟩
      replace hb := hb.trans (hb1.mono hb.size)
      replace p0 := cell_below p0 hb1
      replace p1 := cell_below p1 hb1
      replace p2 := cell_below p2 hb1
      replace p3 := cell_below p3 hb1
      replace p4 := cell_below p4 hb1
      replace p5 := cell_below p5 hb1
      clear hb1
      cases b2 with
      | true =>
        go_wp2_with fail
        refine (HFi.out _).mono ?_
        rintro e w9 ⟨rfl, hb9⟩
        go_wp2_with fail
        go_ret
        exact ⟨rfl, hb.trans (hb9.mono hb.size)⟩
      | false =>
        go_wp2_with fail
        refine (HRV.out _ hb).mono ?_
        rintro e w3 ⟨rfl, hb1⟩
        replace hb := hb.trans (hb1.mono hb.size)
        replace p0 := cell_below p0 hb1
        replace p1 := cell_below p1 hb1
        replace p2 := cell_below p2 hb1
        replace p3 := cell_below p3 hb1
        replace p4 := cell_below p4 hb1
        replace p5 := cell_below p5 hb1
        clear hb1
        go_wp2_with fail
        refine (HFi.out _).mono ?_
        rintro e w9 ⟨rfl, hb9⟩
        go_wp2_with fail
        go_ret
        exact ⟨rfl, hb.trans (hb9.mono hb.size)⟩
theorem shopOrders_any (s : Sh) (ap : Option Addr) (P : List (List Int)) (cp : Nat) (m : Int) (w : World) (hI : ShS w s) (hP : RowsS w ap P) :
    Calls Try.prog 4 #[.agg #[.int .i64 s.O, .int .i64 s.C, .slice s.aH s.H.length s.cH, .int .i64 s.M, .slice s.aS s.S.length s.cS, .slice s.aJ s.J.length s.cJ], .slice ap P.length cp, .int .i64 m] w fun e w' => e = .returned (.bool true) ∧ Below w.heap.size w w' := by
  by_cases hE : (judV s P).2.2 = 0
  · by_cases h0 : m < 0
    · exact shopOrders_2 s ap P cp m w hI hP h0 hE
    · by_cases h1 : s.M ≤ m
      · exact shopOrders_3 s ap P cp m w hI hP h1 hE
      · exact shopOrders_1 s ap P cp m w hI hP (by omega) hE
  · by_cases h0 : m < 0
    · exact shopOrders_2b s ap P cp m w hI hP h0 hE
    · by_cases h1 : s.M ≤ m
      · exact shopOrders_3b s ap P cp m w hI hP h1 hE
      · exact shopOrders_4 s ap P cp m w hI hP (by omega) hE
end Go.Proofs.Ytgphkfonjfdifaa

namespace Go.Proofs.Ytgphkfonjfdifaa
set_option linter.unusedVariables false
set_option linter.unusedSimpArgs false
open Go.RowKit Go.ChangeShapes Go.WideShapes Go.ChangeAt
set_option maxRecDepth 100000

theorem cInt : Try.prog.cellsOf 3 = 1 := by kernel_rfl
theorem cInts : Try.prog.cellsOf 22 = 1 := by kernel_rfl
section
variable {H : Type} {enc : TypeId × Value → H} {W : World} {base : Nat} {sp : Nat → Bool} {held : Bool}

/-- A cell that reads as an int. -/
theorem part_int {n : Nat} {c : Value} {o : Option (DataW H × List MemPlace)} {y : DataW H × List MemPlace} (ho : o = some y) (h : DataW.trod enc Try.prog W base sp held n 3 [c] = o) : ∃ z : Int, c = .int .i64 z ∧ I64 z := by
  obtain ⟨z, e, _, hw⟩ := DataW.trod_int Try.underlying3 (h.trans ho)
  exact ⟨z, by simpa using e, bounds_i64 hw⟩
theorem add_at {a : Addr} (h : a.spot = none) (n : Nat) : a.add n = ⟨a.block, a.off + n, none⟩ := by
  unfold Addr.add
  split
  · rename_i h0; subst h0; cases a; simp only at h; subst h; rfl
  · rfl
theorem add_zero (a : Addr) : a.add 0 = a := by unfold Addr.add; simp
theorem spot_none {w : World} {a : Addr} {v : Value} (h : w.cell? a = some v) : a.spot = none := by
  unfold World.cell? at h
  split at h
  · split at h
    · cases h
    · rename_i hs; simpa using hs
  · cases h
theorem addr_of {a : Addr} (h : a.spot = none) : a = ⟨a.block, a.off, none⟩ := by cases a; simp only at h; subst h; rfl
theorem gi_map (f : Nat → Int) {n i : Nat} (h : i < n) : gi ((List.range n).map f) i = f i := by
  unfold gi; rw [List.getD_eq_getElem?_getD, List.getElem?_map, List.getElem?_range h]; rfl
theorem gr_map (f : Nat → List Int) {n i : Nat} (h : i < n) : gr ((List.range n).map f) i = f i := by
  unfold gr; rw [List.getD_eq_getElem?_getD, List.getElem?_map, List.getElem?_range h]; rfl
theorem ne_pos {α : Type} {f : Nat → α} {n : Nat} (h : (List.range n).map f ≠ []) : 0 < n := by
  apply Nat.pos_of_ne_zero
  rintro rfl
  exact h rfl

theorem open_ints {fuel : Nat} {v : Value} {y : DataW H × List MemPlace} (h : DataW.trod enc Try.prog W base sp held fuel 22 [v] = some y) :
    ∃ (a : Option Addr) (l : List Int) (cap : Nat), v = .slice a l.length cap ∧ IntsS W a l ∧ l.length ≤ cap := by
  rcases Go.Deep.open_slice1 Try.underlying22 cInt h with ⟨hcs, _⟩ | ⟨a, len, cap, m, n, V, D, Pl, hcs, hb, hl, hm, hmm, hx, hi⟩
  · obtain rfl : v = .slice none 0 0 := by simpa using hcs
    exact ⟨none, [], 0, rfl, ⟨by simp, fun i hi => absurd hi (Nat.not_lt_zero _), 0, 0, (fun h => absurd rfl h), fun i hi => absurd hi (Nat.not_lt_zero _)⟩, Nat.le_refl _⟩
  · obtain rfl : v = .slice (some a) len cap := by simpa using hcs
    have hlm : len ≤ m := by rw [hmm]; split <;> omega
    have key0 : ∀ i, i < len → ∃ x : Int, W.cell? (a.add i) = some (.int .i64 x) ∧ I64 x := fun i hil => by
      obtain ⟨hc, ht⟩ := hi i (by omega)
      obtain ⟨z, hz, hb⟩ := part_int rfl ht
      exact ⟨z, by rw [hc, hz], hb⟩
    have hspot : 0 < len → a.spot = none := fun h0 => by
      obtain ⟨x, hc, _⟩ := key0 0 h0
      rw [add_zero] at hc
      exact spot_none hc
    obtain ⟨f, hf⟩ := Go.Deep.choose_lt (α := Int) (n := len) (p := fun i x => W.cell? (a.add i) = some (.int .i64 x) ∧ I64 x) key0
    refine ⟨some a, (List.range len).map f, cap, by simp, ⟨by simp; unfold maxLen at hm; omega, ?_, a.block, a.off, ?_, ?_⟩, by simpa using hl⟩
    · intro i hi
      have hi : i < len := by simpa using hi
      rw [gi_map f hi]
      exact (hf i hi).2
    · intro hne
      rw [← addr_of (hspot (ne_pos hne))]
    · intro i hi
      have hi : i < len := by simpa using hi
      rw [gi_map f hi, ← add_at (hspot (by omega))]
      exact (hf i hi).1

theorem open_rows {fuel : Nat} {v : Value} {y : DataW H × List MemPlace} (h : DataW.trod enc Try.prog W base sp held fuel 26 [v] = some y) :
    ∃ (a : Option Addr) (r : List (List Int)) (cap : Nat), v = .slice a r.length cap ∧ RowsS W a r := by
  rcases Go.Deep.open_slice1 Try.underlying26 cInts h with ⟨hcs, _⟩ | ⟨a, len, cap, m, n, V, D, Pl, hcs, hb, hl, hm, hmm, hx, hi⟩
  · obtain rfl : v = .slice none 0 0 := by simpa using hcs
    exact ⟨none, [], 0, rfl, by simp, 0, 0, fun _ => none, fun _ => 0, (fun h => absurd rfl h), fun i hi => absurd hi (Nat.not_lt_zero _)⟩
  · obtain rfl : v = .slice (some a) len cap := by simpa using hcs
    have hlm : len ≤ m := by rw [hmm]; split <;> omega
    have key0 : ∀ i, i < len → ∃ x : Option Addr × List Int × Nat, W.cell? (a.add i) = some (.slice x.1 x.2.1.length x.2.2) ∧ IntsS W x.1 x.2.1 ∧ x.2.1.length ≤ x.2.2 := fun i hil => by
      obtain ⟨hc, ht⟩ := hi i (by omega)
      obtain ⟨b, l, c, hz, hI⟩ := open_ints ht
      exact ⟨(b, l, c), by rw [hc, hz], hI⟩
    have hspot : 0 < len → a.spot = none := fun h0 => by
      obtain ⟨x, hc, _⟩ := key0 0 h0
      rw [add_zero] at hc
      exact spot_none hc
    obtain ⟨f, hf⟩ := Go.Deep.choose_lt (α := Option Addr × List Int × Nat) (n := len) (p := fun i x => W.cell? (a.add i) = some (.slice x.1 x.2.1.length x.2.2) ∧ IntsS W x.1 x.2.1 ∧ x.2.1.length ≤ x.2.2) key0
    refine ⟨some a, (List.range len).map fun i => (f i).2.1, cap, by simp, by simp; unfold maxLen at hm; omega, a.block, a.off, fun i => (f i).1, fun i => (f i).2.2, ?_, ?_⟩
    · intro hne
      rw [← addr_of (hspot (ne_pos hne))]
    · intro i hi
      have hi : i < len := by simpa using hi
      rw [gr_map (fun i => (f i).2.1) hi, ← add_at (hspot (by omega))]
      exact hf i hi

end
end Go.Proofs.Ytgphkfonjfdifaa

namespace Go.Proofs.Ytgphkfonjfdifaa
set_option linter.unusedVariables false
set_option linter.unusedSimpArgs false
open Go.RowKit Go.ChangeShapes Go.WideShapes Go.ChangeAt
set_option maxRecDepth 100000

theorem cStep : Try.prog.cellsOf 57 = 4 := by kernel_rfl
theorem cWork : Try.prog.cellsOf 55 = 1 := by kernel_rfl
theorem gs_map (f : Nat → Stp) {n i : Nat} (h : i < n) : gs ((List.range n).map f) i = f i := by
  unfold gs; rw [List.getD_eq_getElem?_getD, List.getElem?_map, List.getElem?_range h]; rfl
theorem gj_map (f : Nat → List Stp) {n i : Nat} (h : i < n) : gj ((List.range n).map f) i = f i := by
  unfold gj; rw [List.getD_eq_getElem?_getD, List.getElem?_map, List.getElem?_range h]; rfl
section
variable {H : Type} {enc : TypeId × Value → H} {W : World} {base : Nat} {sp : Nat → Bool} {held : Bool}

theorem open_steps {fuel : Nat} {v : Value} {y : DataW H × List MemPlace} (h : DataW.trod enc Try.prog W base sp held fuel 53 [v] = some y) :
    ∃ (a : Option Addr) (l : List Stp) (cap : Nat), v = .slice a l.length cap ∧ StepsS W a l ∧ l.length ≤ cap := by
  rcases Go.Deep.open_slice Try.underlying53 h with ⟨hcs, _⟩ | ⟨a, len, cap, m, n, D, Pl, hcs, hb, hl, hm, hmm, hx, hi⟩
  · obtain rfl : v = .slice none 0 0 := by simpa using hcs
    exact ⟨none, [], 0, rfl, ⟨by simp, fun i hi => absurd hi (Nat.not_lt_zero _), 0, 0, (fun h => absurd rfl h), fun i hi => absurd hi (Nat.not_lt_zero _)⟩, Nat.le_refl _⟩
  · obtain rfl : v = .slice (some a) len cap := by simpa using hcs
    have hlm : len ≤ m := by rw [hmm]; split <;> omega
    rw [cStep] at hi
    have key0 : ∀ i, i < len → ∃ x : Stp, (W.cell? ((a.add (i * 4)).add 0) = some (.int .i64 x.1) ∧ W.cell? ((a.add (i * 4)).add 1) = some (.int .i64 x.2.1) ∧ W.cell? ((a.add (i * 4)).add 2) = some (.int .i64 x.2.2.1) ∧ W.cell? ((a.add (i * 4)).add 3) = some (.int .i64 x.2.2.2)) ∧ (I64 x.1 ∧ I64 x.2.1 ∧ I64 x.2.2.1 ∧ I64 x.2.2.2) := fun i hil => by
      obtain ⟨cs, hc, htr⟩ := hi i (by omega)
      obtain ⟨hcl, _, hat⟩ := World.cells?_some hc
      match cs, hcl with
      | [c0, c1, c2, c3], _ =>
        obtain ⟨y0, y1, y2, y3, n', _, _, g0, g1, g2, g3⟩ := Joins.trod_struct4 Try.underlying57 htr
        obtain ⟨z0, rfl, b0⟩ := part_int rfl (show DataW.trod enc Try.prog W base sp held n' 3 [c0] = some y0 from g0)
        obtain ⟨z1, rfl, b1⟩ := part_int rfl (show DataW.trod enc Try.prog W base sp held n' 3 [c1] = some y1 from g1)
        obtain ⟨z2, rfl, b2⟩ := part_int rfl (show DataW.trod enc Try.prog W base sp held n' 3 [c2] = some y2 from g2)
        obtain ⟨z3, rfl, b3⟩ := part_int rfl (show DataW.trod enc Try.prog W base sp held n' 3 [c3] = some y3 from g3)
        exact ⟨(z0, z1, z2, z3), ⟨hat 0 (by decide), hat 1 (by decide), hat 2 (by decide), hat 3 (by decide)⟩, b0, b1, b2, b3⟩
    have hspot : 0 < len → a.spot = none := fun h0 => by
      obtain ⟨x, ⟨hc, _⟩, _⟩ := key0 0 h0
      rw [show 0 * 4 = 0 from rfl, add_zero, add_zero] at hc
      exact spot_none hc
    obtain ⟨f, hf⟩ := Go.Deep.choose_lt (α := Stp) (n := len) (p := fun i x => (W.cell? ((a.add (i * 4)).add 0) = some (.int .i64 x.1) ∧ W.cell? ((a.add (i * 4)).add 1) = some (.int .i64 x.2.1) ∧ W.cell? ((a.add (i * 4)).add 2) = some (.int .i64 x.2.2.1) ∧ W.cell? ((a.add (i * 4)).add 3) = some (.int .i64 x.2.2.2)) ∧ (I64 x.1 ∧ I64 x.2.1 ∧ I64 x.2.2.1 ∧ I64 x.2.2.2)) key0
    refine ⟨some a, (List.range len).map f, cap, by simp, ⟨by simp; unfold maxLen at hm; omega, ?_, a.block, a.off, ?_, ?_⟩, by simpa using hl⟩
    · intro i hi
      have hi : i < len := by simpa using hi
      rw [gs_map f hi]
      exact (hf i hi).2
    · intro hne
      rw [← addr_of (hspot (ne_pos hne))]
    · intro i hi
      have hi : i < len := by simpa using hi
      have hs := hspot (by omega)
      have := (hf i hi).1
      rw [add_at hs, add_zero, add_at rfl, add_at rfl, add_at rfl] at this
      rw [gs_map f hi]
      exact this
theorem open_jobs {fuel : Nat} {v : Value} {y : DataW H × List MemPlace} (h : DataW.trod enc Try.prog W base sp held fuel 23 [v] = some y) :
    ∃ (a : Option Addr) (r : List (List Stp)) (cap : Nat), v = .slice a r.length cap ∧ JobsS W a r := by
  rcases Go.Deep.open_slice Try.underlying23 h with ⟨hcs, _⟩ | ⟨a, len, cap, m, n, D, Pl, hcs, hb, hl, hm, hmm, hx, hi⟩
  · obtain rfl : v = .slice none 0 0 := by simpa using hcs
    exact ⟨none, [], 0, rfl, by simp, 0, 0, fun _ => none, fun _ => 0, (fun h => absurd rfl h), fun i hi => absurd hi (Nat.not_lt_zero _)⟩
  · obtain rfl : v = .slice (some a) len cap := by simpa using hcs
    have hlm : len ≤ m := by rw [hmm]; split <;> omega
    rw [cWork] at hi
    have key0 : ∀ i, i < len → ∃ x : Option Addr × List Stp × Nat, W.cell? (a.add i) = some (.slice x.1 x.2.1.length x.2.2) ∧ StepsS W x.1 x.2.1 ∧ x.2.1.length ≤ x.2.2 := fun i hil => by
      obtain ⟨cs, hc, htr⟩ := hi i (by omega)
      obtain ⟨hcl, _, hat⟩ := World.cells?_some hc
      match cs, hcl with
      | [c0], _ =>
        obtain ⟨u0, n', _, _, g⟩ := trod_struct1 Try.underlying55 htr
        obtain ⟨b, l, c, rfl, hI, hle⟩ := open_steps (show DataW.trod enc Try.prog W base sp held n' 53 [c0] = some u0 from g)
        refine ⟨(b, l, c), ?_, hI, hle⟩
        have h1 := hat 0 (by decide)
        rwa [Nat.mul_one, add_zero] at h1
    have hspot : 0 < len → a.spot = none := fun h0 => by
      obtain ⟨x, hc, _⟩ := key0 0 h0
      rw [add_zero] at hc
      exact spot_none hc
    obtain ⟨f, hf⟩ := Go.Deep.choose_lt (α := Option Addr × List Stp × Nat) (n := len) (p := fun i x => W.cell? (a.add i) = some (.slice x.1 x.2.1.length x.2.2) ∧ StepsS W x.1 x.2.1 ∧ x.2.1.length ≤ x.2.2) key0
    refine ⟨some a, (List.range len).map fun i => (f i).2.1, cap, by simp, by simp; unfold maxLen at hm; omega, a.block, a.off, fun i => (f i).1, fun i => (f i).2.2, ?_, ?_⟩
    · intro hne
      rw [← addr_of (hspot (ne_pos hne))]
    · intro i hi
      have hi : i < len := by simpa using hi
      rw [gj_map (fun i => (f i).2.1) hi, ← add_at (hspot (by omega))]
      exact hf i hi

theorem open_shop {v : Value} {d : DataW H} {p : List MemPlace} (hv : Value.okWide Try.prog W .any base 25 v) (h : DataW.Trod enc Try.prog W 0 sp held 25 v d p) :
    ∃ s : Sh, v = .agg #[.int .i64 s.O, .int .i64 s.C, .slice s.aH s.H.length s.cH, .int .i64 s.M, .slice s.aS s.S.length s.cS, .slice s.aJ s.J.length s.cJ] ∧ ShS W s ∧ I64 s.O ∧ I64 s.C ∧ I64 s.M := by
  obtain ⟨⟨cs⟩, rfl, hsz⟩ := okWide_struct Try.underlying25 hv
  have hC : Try.prog.cellsOf 25 = 6 := by kernel_rfl
  match cs, hsz.trans hC with
  | [c0, c1, c2, c3, c4, c5], _ =>
    obtain ⟨fuel, hf⟩ := h
    obtain ⟨xs, n, _, _, _, hlen, hg⟩ := DataW.trod_struct Try.underlying25 hf
    match xs, hlen with
    | [u0, u1, u2, u3, u4, u5], _ =>
      have g0 := hg 0 _ rfl
      have g1 := hg 1 _ rfl
      have g2 := hg 2 _ rfl
      have g3 := hg 3 _ rfl
      have g4 := hg 4 _ rfl
      have g5 := hg 5 _ rfl
      obtain ⟨O, rfl, b0⟩ := part_int rfl (show DataW.trod enc Try.prog W 0 sp held n 3 [c0] = some u0 from g0)
      obtain ⟨C, rfl, b1⟩ := part_int rfl (show DataW.trod enc Try.prog W 0 sp held n 3 [c1] = some u1 from g1)
      obtain ⟨aH, H', cH, rfl, hH, _⟩ := open_ints (show DataW.trod enc Try.prog W 0 sp held n 22 [c2] = some u2 from g2)
      obtain ⟨M, rfl, b3⟩ := part_int rfl (show DataW.trod enc Try.prog W 0 sp held n 3 [c3] = some u3 from g3)
      obtain ⟨aS, S, cS, rfl, hS, _⟩ := open_ints (show DataW.trod enc Try.prog W 0 sp held n 22 [c4] = some u4 from g4)
      obtain ⟨aJ, J, cJ, rfl, hJ⟩ := open_jobs (show DataW.trod enc Try.prog W 0 sp held n 23 [c5] = some u5 from g5)
      exact ⟨⟨O, C, aH, H', cH, M, aS, S, cS, aJ, J, cJ⟩, rfl, ⟨hH, hS, hJ⟩, b0, b1, b3⟩
end
end Go.Proofs.Ytgphkfonjfdifaa

namespace Go.Proofs.Ytgphkfonjfdifaa
set_option linter.unusedVariables false
set_option linter.unusedSimpArgs false
open Go.RowKit Go.ChangeShapes Go.WideShapes Go.ChangeAt
set_option maxRecDepth 100000
section
variable {H : Type} {enc : TypeId × Value → H} {W : World} {base : Nat} {sp : Nat → Bool} {held : Bool}
theorem open_rowsV {v : Value} {d : DataW H} {p : List MemPlace} (hv : Value.okWide Try.prog W .any base 26 v) (h : DataW.Trod enc Try.prog W 0 sp held 26 v d p) :
    ∃ (a : Option Addr) (r : List (List Int)) (cap : Nat), v = .slice a r.length cap ∧ RowsS W a r := by
  obtain ⟨a, n, c, rfl⟩ := okWide_slice Try.underlying26 hv
  obtain ⟨fuel, hf⟩ := h
  exact open_rows hf
end
end Go.Proofs.Ytgphkfonjfdifaa
