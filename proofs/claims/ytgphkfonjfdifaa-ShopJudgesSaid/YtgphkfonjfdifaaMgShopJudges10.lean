/-
  Judge of both for any plan of a valid shop. By an AI agent.; The walk of first: example 1 of the chapter. By an AI agent.; The law ShopJudges. By an AI agent.; Arguments, opened: lists of ints and of pairs, tables, scenes, structs of them, arrays. By an AI agent.
-/
import Derived.Test.YtgphkfonjfdifaaMgShopJudges0
import Derived.Test.YtgphkfonjfdifaaMgShopJudges3
import Derived.Test.YtgphkfonjfdifaaMgShopJudges5
import Derived.Test.YtgphkfonjfdifaaMgShopJudges9
import Derived.Deep.RegionHeld3
import Derived.BigRegion
import Derived.BigQuiet
import Derived.Lib.SmallJoins
import Derived.Deep.Slices
import Derived.OpenShut

namespace Go.Proofs.Ytgphkfonjfdifaa
set_option linter.unusedVariables false
set_option linter.unusedSimpArgs false
open Go.RowKit

theorem judV_ok {s : Sh} {P : List (List Int)} (h : PlanOk s P) : judV s P = judT s (plcL s P) := by unfold judV; rw [if_pos (planB_t h)]
theorem judV_bad {s : Sh} {P : List (List Int)} (h : ¬ PlanOk s P) : judV s P = (0, 0, 2) := by unfold judV; rw [if_neg (by rw [planB_f h]; decide)]
set_option maxRecDepth 100000 in
set_option maxHeartbeats 2000000 in
theorem judge_no (s : Sh) (ap : Option Addr) (P : List (List Int)) (cp : Nat) (w : World) (hI : ShS w s) (hV : ShOk s) (hP : RowsS w ap P) (hO : ¬ PlanOk s P) :
    Calls Try.prog 15 #[.agg #[.int .i64 s.O, .int .i64 s.C, .slice s.aH s.H.length s.cH, .int .i64 s.M, .slice s.aS s.S.length s.cS, .slice s.aJ s.J.length s.cJ], .slice ap P.length cp] w fun e w' => e = .returned (.tuple #[.int .i64 0, .int .i64 0, .int .i64 2]) ∧ Below w.heap.size w w' := by
  have HV := Lib.hid (fun W (hW : Below w.heap.size w W) => Valid_sh s W (hI.below hW))
  rw [shB_t hV] at HV
  have HP := Lib.hid (fun W (hW : Below w.heap.size w W) => isPlan_sh s ap P cp W (hI.below hW) (hP.below hW))
  rw [planB_f hO] at HP
  clear hI hV hP hO
  have HB := Lib.hid (ShBox.start w s 25)
  go_enter Try.func15, Try.ntmps15
  go_wp2_with fail
  obtain ⟨wB, hwB⟩ : ∃ wB, w.alloc (.cells #[.int .i64 s.O, .int .i64 s.C, .slice s.aH s.H.length s.cH, .int .i64 s.M, .slice s.aS s.S.length s.cS, .slice s.aJ s.J.length s.cJ] 25) = wB := ⟨_, rfl⟩
  rw [hwB] at HB ⊢
  clear hwB
  obtain ⟨hb, p0, p1, p2, p3, p4, p5⟩ := HB.out
  clear HB
  go_wp2_with (first | (go_at_call 35; refine (HV.out _ hb).mono ?_; rintro e w1 ⟨rfl, hb1⟩; replace hb := hb.trans (hb1.mono hb.size); replace p0 := cell_below p0 hb1; replace p1 := cell_below p1 hb1; replace p2 := cell_below p2 hb1; replace p3 := cell_below p3 hb1; replace p4 := cell_below p4 hb1; replace p5 := cell_below p5 hb1; clear hb1) | (go_at_call 36; refine (HP.out _ hb).mono ?_; rintro e w1 ⟨rfl, hb1⟩; replace hb := hb.trans (hb1.mono hb.size); replace p0 := cell_below p0 hb1; replace p1 := cell_below p1 hb1; replace p2 := cell_below p2 hb1; replace p3 := cell_below p3 hb1; replace p4 := cell_below p4 hb1; replace p5 := cell_below p5 hb1; clear hb1))
  go_ret3
  exact ⟨rfl, hb⟩
set_option maxRecDepth 100000 in
set_option maxHeartbeats 2000000 in
theorem refJudge_no (s : Sh) (ap : Option Addr) (P : List (List Int)) (cp : Nat) (w : World) (hI : ShS w s) (hV : ShOk s) (hP : RowsS w ap P) (hO : ¬ PlanOk s P) :
    Calls Try.prog 16 #[.agg #[.int .i64 s.O, .int .i64 s.C, .slice s.aH s.H.length s.cH, .int .i64 s.M, .slice s.aS s.S.length s.cS, .slice s.aJ s.J.length s.cJ], .slice ap P.length cp] w fun e w' => e = .returned (.tuple #[.int .i64 0, .int .i64 0, .int .i64 2]) ∧ Below w.heap.size w w' := by
  have HP := Lib.hid (fun W (hW : Below w.heap.size w W) => shaped_sh s ap P cp W (hI.below hW) hV (hP.below hW))
  rw [planB_f hO] at HP
  clear hI hV hP hO
  have HB := Lib.hid (ShBox.start w s 25)
  go_enter Try.func16, Try.ntmps16
  go_wp2_with fail
  obtain ⟨wB, hwB⟩ : ∃ wB, w.alloc (.cells #[.int .i64 s.O, .int .i64 s.C, .slice s.aH s.H.length s.cH, .int .i64 s.M, .slice s.aS s.S.length s.cS, .slice s.aJ s.J.length s.cJ] 25) = wB := ⟨_, rfl⟩
  rw [hwB] at HB ⊢
  clear hwB
  obtain ⟨hb, p0, p1, p2, p3, p4, p5⟩ := HB.out
  clear HB
  go_wp2_with (first | (go_at_call 46; refine (HP.out _ hb).mono ?_; rintro e w1 ⟨rfl, hb1⟩; replace hb := hb.trans (hb1.mono hb.size); replace p0 := cell_below p0 hb1; replace p1 := cell_below p1 hb1; replace p2 := cell_below p2 hb1; replace p3 := cell_below p3 hb1; replace p4 := cell_below p4 hb1; replace p5 := cell_below p5 hb1; clear hb1))
  go_ret3
  exact ⟨rfl, hb⟩
theorem judge_any (s : Sh) (ap : Option Addr) (P : List (List Int)) (cp : Nat) (w : World) (hI : ShS w s) (hV : ShOk s) (hP : RowsS w ap P) :
    Calls Try.prog 15 #[.agg #[.int .i64 s.O, .int .i64 s.C, .slice s.aH s.H.length s.cH, .int .i64 s.M, .slice s.aS s.S.length s.cS, .slice s.aJ s.J.length s.cJ], .slice ap P.length cp] w fun e w' => e = .returned (.tuple #[.int .i64 (judV s P).1, .int .i64 (judV s P).2.1, .int .i64 (judV s P).2.2]) ∧ Below w.heap.size w w' := by
  by_cases hO : PlanOk s P
  · rw [judV_ok hO]
    exact judge_good s ap P cp w hI hV hP hO
  · rw [judV_bad hO]
    exact judge_no s ap P cp w hI hV hP hO
theorem refJudge_any (s : Sh) (ap : Option Addr) (P : List (List Int)) (cp : Nat) (w : World) (hI : ShS w s) (hV : ShOk s) (hP : RowsS w ap P) :
    Calls Try.prog 16 #[.agg #[.int .i64 s.O, .int .i64 s.C, .slice s.aH s.H.length s.cH, .int .i64 s.M, .slice s.aS s.S.length s.cS, .slice s.aJ s.J.length s.cJ], .slice ap P.length cp] w fun e w' => e = .returned (.tuple #[.int .i64 (judV s P).1, .int .i64 (judV s P).2.1, .int .i64 (judV s P).2.2]) ∧ Below w.heap.size w w' := by
  by_cases hO : PlanOk s P
  · rw [judV_ok hO]
    exact refJudge_good s ap P cp w hI hV hP hO
  · rw [judV_bad hO]
    exact refJudge_no s ap P cp w hI hV hP hO
end Go.Proofs.Ytgphkfonjfdifaa

namespace Go.Proofs.Ytgphkfonjfdifaa
set_option linter.unusedVariables false
set_option linter.unusedSimpArgs false
open Go.RowKit

/-- The shop of the example. -/
def exSh (b : Nat) : Sh := ⟨480, 960, none, [], 0, 1, some ⟨b, 0, none⟩, [0], 1, none, [], 0⟩
theorem exSh_ok (b : Nat) : ShOk (exSh b) := by
  refine ⟨⟨show (0 : Int) ≤ 480 by decide, show (480 : Int) < 960 by decide, show (960 : Int) ≤ 1440 by decide⟩, ⟨show 0 ≤ 400 by decide, fun j hj => absurd hj (Nat.not_lt_zero _)⟩, ⟨⟨show (1 : Int) ≤ 1 by decide, show (1 : Int) ≤ 6 by decide⟩, show ((1 : Nat) : Int) = 1 by decide, fun j hj => ?_⟩, show 0 ≤ 12 by decide, fun j hj => absurd hj (Nat.not_lt_zero _)⟩
  have : j = 0 := by have : j < 1 := hj; omega
  subst this
  exact ⟨show (0 : Int) ≤ 0 by decide, show (0 : Int) ≤ 1000 by decide⟩
theorem exSh_next : nextV 480 960 [] 900 90 = 1920 := by
  refine nextV_eq ⟨by omega, ⟨hol_false.2 fun j hj => absurd hj (Nat.not_lt_zero _), by decide, by decide⟩, fun y h1 h2 h => ?_⟩
  have := h.2.1
  have := h.2.2
  omega
theorem opn_nil (t : Int) : opnB 480 960 [] t = t / 1440 * 480 + min (max (t % 1440 - 480) 0) 480 := by
  have h : hol [] (t / 1440) = false := hol_false.2 fun j hj => absurd hj (Nat.not_lt_zero _)
  have c : cnt [] (t / 1440) = 0 := rfl
  unfold opnB preB
  rw [h, c]
  simp
theorem exSh_after : aftV 480 960 [] 900 90 = 1950 := by
  refine aftV_eq ⟨by omega, ?_, fun y h1 h2 => ?_⟩
  · rw [opn_nil, opn_nil]; omega
  · rw [opn_nil, opn_nil]; omega

set_option maxRecDepth 100000 in
set_option maxHeartbeats 1000000 in
theorem first_sh (w : World) : Calls Try.prog 14 #[] w fun e w' => e = .returned (.bool true) ∧ Below w.heap.size w w' := by
  have hI : ∀ W, W.cell? ⟨w.heap.size, 0, none⟩ = some (.int .i64 0) → ShS W (exSh w.heap.size) := fun W hc => by
    refine ⟨⟨show 0 ≤ 9223372036854775807 by decide, fun i hi => absurd hi (Nat.not_lt_zero _), 0, 0, fun h => absurd rfl h, fun i hi => absurd hi (Nat.not_lt_zero _)⟩, ⟨show 1 ≤ 9223372036854775807 by decide, fun i hi => ?_, w.heap.size, 0, fun _ => rfl, fun i hi => ?_⟩, show 0 ≤ 9223372036854775807 by decide, 0, 0, fun _ => none, fun _ => 0, fun h => absurd rfl h, fun i hi => absurd hi (Nat.not_lt_zero _)⟩
    · have : i = 0 := by have : i < 1 := hi; omega
      subst this
      exact ⟨show (-9223372036854775808 : Int) ≤ 0 by decide, show (0 : Int) ≤ 9223372036854775807 by decide⟩
    · have : i = 0 := by have : i < 1 := hi; omega
      subst this
      exact hc
  have HN : Hid (∀ W, W.cell? ⟨w.heap.size, 0, none⟩ = some (.int .i64 0) → Calls Try.prog 33 #[.agg #[.int .i64 480, .int .i64 960, .slice none 0 0, .int .i64 1, .slice (some ⟨w.heap.size, 0, none⟩) 1 1, .slice none 0 0], .int .i64 900, .int .i64 90] W fun e w' => e = .returned (.tuple #[.int .i64 1920, .int .i64 0]) ∧ Below W.heap.size W w') := Lib.hid fun W hc => by
    have := next_ok (exSh w.heap.size) 900 90 W (hI W hc) (exSh_ok _) (by decide) (by decide) (by decide) (show (90 : Int) ≤ 960 - 480 by decide)
    rw [show nextV (exSh w.heap.size).O (exSh w.heap.size).C (exSh w.heap.size).H 900 90 = 1920 from exSh_next] at this
    exact this
  have HA : Hid (∀ W, W.cell? ⟨w.heap.size, 0, none⟩ = some (.int .i64 0) → Calls Try.prog 34 #[.agg #[.int .i64 480, .int .i64 960, .slice none 0 0, .int .i64 1, .slice (some ⟨w.heap.size, 0, none⟩) 1 1, .slice none 0 0], .int .i64 900, .int .i64 90] W fun e w' => e = .returned (.tuple #[.int .i64 1950, .int .i64 0]) ∧ Below W.heap.size W w') := Lib.hid fun W hc => by
    have := after_ok (exSh w.heap.size) 900 90 W (hI W hc) (exSh_ok _) (by decide) (by decide) (by decide)
    rw [show aftV (exSh w.heap.size).O (exSh w.heap.size).C (exSh w.heap.size).H 900 ((90 : Nat) : Int) = 1950 from exSh_after] at this
    exact this
  clear hI
  go_enter Try.func14, Try.ntmps14
  go_wp2_with fail
  obtain ⟨wB, hwB⟩ : ∃ wB, (w.alloc (.cells #[.int .i64 0] 3)).alloc (.cells #[.int .i64 480, .int .i64 960, .slice none 0 0, .int .i64 1, .slice (some ⟨w.heap.size, 0, none⟩) 1 1, .slice none 0 0] 25) = wB := ⟨_, rfl⟩
  have hb : Below w.heap.size w wB := by rw [← hwB]; exact ((Below.refl _ _).alloc (Nat.le_refl _) _).alloc (by simp) _
  have ct : wB.cell? ⟨w.heap.size, 0, none⟩ = some (.int .i64 0) := by rw [← hwB]; simp [go_sem]
  have p0 : wB.cell? ⟨w.heap.size + 1, 0, none⟩ = some (.int .i64 480) := by rw [← hwB]; simp [go_sem]
  have p1 : wB.cell? ⟨w.heap.size + 1, 1, none⟩ = some (.int .i64 960) := by rw [← hwB]; simp [go_sem]
  have p2 : wB.cell? ⟨w.heap.size + 1, 2, none⟩ = some (.slice none 0 0) := by rw [← hwB]; simp [go_sem]
  have p3 : wB.cell? ⟨w.heap.size + 1, 3, none⟩ = some (.int .i64 1) := by rw [← hwB]; simp [go_sem]
  have p4 : wB.cell? ⟨w.heap.size + 1, 4, none⟩ = some (.slice (some ⟨w.heap.size, 0, none⟩) 1 1) := by rw [← hwB]; simp [go_sem]
  have p5 : wB.cell? ⟨w.heap.size + 1, 5, none⟩ = some (.slice none 0 0) := by rw [← hwB]; simp [go_sem]
  rw [hwB]
  clear hwB
  refine (HN.out _ ct).mono ?_
  rintro e w1 ⟨rfl, hb1⟩
  have ct := cell_below ct hb1
  have p0 := cell_below p0 hb1
  have p1 := cell_below p1 hb1
  have p2 := cell_below p2 hb1
  have p3 := cell_below p3 hb1
  have p4 := cell_below p4 hb1
  have p5 := cell_below p5 hb1
  have hb := hb.trans (hb1.mono hb.size)
  clear HN hb1
  go_wp2_with fail
  refine (HA.out _ ct).mono ?_
  rintro e w2 ⟨rfl, hb2⟩
  go_wp2_with fail
  go_ret
  exact ⟨rfl, hb.trans (hb2.mono hb.size)⟩
end Go.Proofs.Ytgphkfonjfdifaa

namespace Go.Proofs.Ytgphkfonjfdifaa
set_option linter.unusedVariables false
set_option linter.unusedSimpArgs false
open Go.RowKit

set_option maxRecDepth 100000 in
set_option maxHeartbeats 4000000 in
theorem shopJudges_any (s : Sh) (ap : Option Addr) (P : List (List Int)) (cp : Nat) (w : World) (hI : ShS w s) (hP : RowsS w ap P) :
    Calls Try.prog 3 #[.agg #[.int .i64 s.O, .int .i64 s.C, .slice s.aH s.H.length s.cH, .int .i64 s.M, .slice s.aS s.S.length s.cS, .slice s.aJ s.J.length s.cJ], .slice ap P.length cp] w fun e w' => e = .returned (.bool true) ∧ Below w.heap.size w w' := by
  have HLo := Lib.hid (fun W (hW : Below w.heap.size w W) => long_sh s W (hI.below hW))
  have HRV := Lib.hid (fun W (hW : Below w.heap.size w W) => refValid_sh s W (hI.below hW))
  have HWi := Lib.hid (fun W (hW : Below w.heap.size w W) => wide_sh ap P cp W (hP.below hW))
  have HFi := Lib.hid first_sh
  have HB := Lib.hid (ShBox.start w s 25)
  by_cases hV : ShOk s
  · rw [shB_t hV] at HRV
    have HJ := Lib.hid (fun W (hW : Below w.heap.size w W) => judge_any s ap P cp W (hI.below hW) hV (hP.below hW))
    have HR := Lib.hid (fun W (hW : Below w.heap.size w W) => refJudge_any s ap P cp W (hI.below hW) hV (hP.below hW))
    generalize judV s P = J3 at *
    have e1 : (J3.1 == J3.1) = true := by simp
    have e2 : (J3.2.1 == J3.2.1) = true := by simp
    have e3 : (J3.2.2 == J3.2.2) = true := by simp
    clear hV hI hP
    go_enter Try.func3, Try.ntmps3
    go_wp2_with fail
    obtain ⟨wB, hwB⟩ : ∃ wB, w.alloc (.cells #[.int .i64 s.O, .int .i64 s.C, .slice s.aH s.H.length s.cH, .int .i64 s.M, .slice s.aS s.S.length s.cS, .slice s.aJ s.J.length s.cJ] 25) = wB := ⟨_, rfl⟩
    rw [hwB] at HB ⊢
    clear hwB
    obtain ⟨hb, p0, p1, p2, p3, p4, p5⟩ := HB.out
    clear HB
    refine (HLo.out _ hb).mono ?_
    rintro e w1 ⟨⟨b, rfl⟩, hb1⟩
    replace hb := hb.trans (hb1.mono hb.size)
    replace p0 := cell_below p0 hb1
    replace p1 := cell_below p1 hb1
    replace p2 := cell_below p2 hb1
    replace p3 := cell_below p3 hb1
    replace p4 := cell_below p4 hb1
    replace p5 := cell_below p5 hb1
    clear hb1
    cases b with
    | true =>
      go_wp2_with fail
      refine (HFi.out _).mono ?_
      rintro e w9 ⟨rfl, hb9⟩
      go_wp2_with fail
      go_ret
      exact ⟨rfl, hb.trans (hb9.mono hb.size)⟩
    | false =>
      go_wp2_with fail
      refine (HWi.out _ hb).mono ?_
      rintro e w2 ⟨⟨b2, rfl⟩, hb1⟩
      replace hb := hb.trans (hb1.mono hb.size)
      replace p0 := cell_below p0 hb1
      replace p1 := cell_below p1 hb1
      replace p2 := cell_below p2 hb1
      replace p3 := cell_below p3 hb1
      replace p4 := cell_below p4 hb1
      replace p5 := cell_below p5 hb1
      clear hb1
      cases b2 with
      | true =>
        go_wp2_with fail
        refine (HFi.out _).mono ?_
        rintro e w9 ⟨rfl, hb9⟩
        go_wp2_with fail
        go_ret
        exact ⟨rfl, hb.trans (hb9.mono hb.size)⟩
      | false =>
        go_wp2_with fail
        refine (HRV.out _ hb).mono ?_
        rintro e w3 ⟨rfl, hb1⟩
        replace hb := hb.trans (hb1.mono hb.size)
        replace p0 := cell_below p0 hb1
        replace p1 := cell_below p1 hb1
        replace p2 := cell_below p2 hb1
        replace p3 := cell_below p3 hb1
        replace p4 := cell_below p4 hb1
        replace p5 := cell_below p5 hb1
        clear hb1
        go_wp2_with (first | (go_at_call 15; refine (HJ.out _ hb).mono ?_; rintro e w1 ⟨rfl, hb1⟩; replace hb := hb.trans (hb1.mono hb.size); replace p0 := cell_below p0 hb1; replace p1 := cell_below p1 hb1; replace p2 := cell_below p2 hb1; replace p3 := cell_below p3 hb1; replace p4 := cell_below p4 hb1; replace p5 := cell_below p5 hb1; clear hb1) | (go_at_call 16; refine (HR.out _ hb).mono ?_; rintro e w1 ⟨rfl, hb1⟩; replace hb := hb.trans (hb1.mono hb.size); replace p0 := cell_below p0 hb1; replace p1 := cell_below p1 hb1; replace p2 := cell_below p2 hb1; replace p3 := cell_below p3 hb1; replace p4 := cell_below p4 hb1; replace p5 := cell_below p5 hb1; clear hb1) | (go_at_call 14; refine (HFi.out _).mono ?_; rintro e w9 ⟨rfl, hb9⟩))
        go_ret
        exact ⟨rfl, hb.trans (hb9.mono hb.size)⟩
  · rw [shB_f hV] at HRV
    clear hV hI hP
    go_enter Try.func3, Try.ntmps3
    go_wp2_with fail
    obtain ⟨wB, hwB⟩ : ∃ wB, w.alloc (.cells #[.int .i64 s.O, .int .i64 s.C, .slice s.aH s.H.length s.cH, .int .i64 s.M, .slice s.aS s.S.length s.cS, .slice s.aJ s.J.length s.cJ] 25) = wB := ⟨_, rfl⟩
    rw [hwB] at HB ⊢
    clear hwB
    obtain ⟨hb, p0, p1, p2, p3, p4, p5⟩ := HB.out
    clear HB
    refine (HLo.out _ hb).mono ?_
    rintro e w1 ⟨⟨b, rfl⟩, hb1⟩
    replace hb := hb.trans (hb1.mono hb.size)
    replace p0 := cell_below p0 hb1
    replace p1 := cell_below p1 hb1
    replace p2 := cell_below p2 hb1
    replace p3 := cell_below p3 hb1
    replace p4 := cell_below p4 hb1
    replace p5 := cell_below p5 hb1
    clear hb1
    cases b with
    | true =>
      go_wp2_with fail
      refine (HFi.out _).mono ?_
      rintro e w9 ⟨rfl, hb9⟩
      go_wp2_with fail
      go_ret
      exact ⟨rfl, hb.trans (hb9.mono hb.size)⟩
    | false =>
      go_wp2_with fail
      refine (HWi.out _ hb).mono ?_
      rintro e w2 ⟨⟨b2, rfl⟩, hb1⟩
      replace hb := hb.trans (hb1.mono hb.size)
      replace p0 := cell_below p0 hb1
      replace p1 := cell_below p1 hb1
      replace p2 := cell_below p2 hb1
      replace p3 := cell_below p3 hb1
      replace p4 := cell_below p4 hb1
      replace p5 := cell_below p5 hb1
      clear hb1
      cases b2 with
      | true =>
        go_wp2_with fail
        refine (HFi.out _).mono ?_
        rintro e w9 ⟨rfl, hb9⟩
        go_wp2_with fail
        go_ret
        exact ⟨rfl, hb.trans (hb9.mono hb.size)⟩
      | false =>
        go_wp2_with fail
        refine (HRV.out _ hb).mono ?_
        rintro e w3 ⟨rfl, hb1⟩
        replace hb := hb.trans (hb1.mono hb.size)
        replace p0 := cell_below p0 hb1
        replace p1 := cell_below p1 hb1
        replace p2 := cell_below p2 hb1
        replace p3 := cell_below p3 hb1
        replace p4 := cell_below p4 hb1
        replace p5 := cell_below p5 hb1
        clear hb1
        go_wp2_with fail
        refine (HFi.out _).mono ?_
        rintro e w9 ⟨rfl, hb9⟩
        go_wp2_with fail
        go_ret
        exact ⟨rfl, hb.trans (hb9.mono hb.size)⟩
end Go.Proofs.Ytgphkfonjfdifaa

namespace Go.Proofs.Ytgphkfonjfdifaa
set_option linter.unusedVariables false
set_option linter.unusedSimpArgs false
open Go.RowKit Go.ChangeShapes Go.WideShapes Go.ChangeAt
set_option maxRecDepth 100000

theorem cInt : Try.prog.cellsOf 3 = 1 := by kernel_rfl
theorem cInts : Try.prog.cellsOf 22 = 1 := by kernel_rfl
section
variable {H : Type} {enc : TypeId × Value → H} {W : World} {base : Nat} {sp : Nat → Bool} {held : Bool}

/-- A cell that reads as an int. -/
theorem part_int {n : Nat} {c : Value} {o : Option (DataW H × List MemPlace)} {y : DataW H × List MemPlace} (ho : o = some y) (h : DataW.trod enc Try.prog W base sp held n 3 [c] = o) : ∃ z : Int, c = .int .i64 z ∧ I64 z := by
  obtain ⟨z, e, _, hw⟩ := DataW.trod_int Try.underlying3 (h.trans ho)
  exact ⟨z, by simpa using e, bounds_i64 hw⟩
theorem add_at {a : Addr} (h : a.spot = none) (n : Nat) : a.add n = ⟨a.block, a.off + n, none⟩ := by
  unfold Addr.add
  split
  · rename_i h0; subst h0; cases a; simp only at h; subst h; rfl
  · rfl
theorem add_zero (a : Addr) : a.add 0 = a := by unfold Addr.add; simp
theorem spot_none {w : World} {a : Addr} {v : Value} (h : w.cell? a = some v) : a.spot = none := by
  unfold World.cell? at h
  split at h
  · split at h
    · cases h
    · rename_i hs; simpa using hs
  · cases h
theorem addr_of {a : Addr} (h : a.spot = none) : a = ⟨a.block, a.off, none⟩ := by cases a; simp only at h; subst h; rfl
theorem gi_map (f : Nat → Int) {n i : Nat} (h : i < n) : gi ((List.range n).map f) i = f i := by
  unfold gi; rw [List.getD_eq_getElem?_getD, List.getElem?_map, List.getElem?_range h]; rfl
theorem gr_map (f : Nat → List Int) {n i : Nat} (h : i < n) : gr ((List.range n).map f) i = f i := by
  unfold gr; rw [List.getD_eq_getElem?_getD, List.getElem?_map, List.getElem?_range h]; rfl
theorem ne_pos {α : Type} {f : Nat → α} {n : Nat} (h : (List.range n).map f ≠ []) : 0 < n := by
  apply Nat.pos_of_ne_zero
  rintro rfl
  exact h rfl

theorem open_ints {fuel : Nat} {v : Value} {y : DataW H × List MemPlace} (h : DataW.trod enc Try.prog W base sp held fuel 22 [v] = some y) :
    ∃ (a : Option Addr) (l : List Int) (cap : Nat), v = .slice a l.length cap ∧ IntsS W a l ∧ l.length ≤ cap := by
  rcases Go.Deep.open_slice1 Try.underlying22 cInt h with ⟨hcs, _⟩ | ⟨a, len, cap, m, n, V, D, Pl, hcs, hb, hl, hm, hmm, hx, hi⟩
  · obtain rfl : v = .slice none 0 0 := by simpa using hcs
    exact ⟨none, [], 0, rfl, ⟨by simp, fun i hi => absurd hi (Nat.not_lt_zero _), 0, 0, (fun h => absurd rfl h), fun i hi => absurd hi (Nat.not_lt_zero _)⟩, Nat.le_refl _⟩
  · obtain rfl : v = .slice (some a) len cap := by simpa using hcs
    have hlm : len ≤ m := by rw [hmm]; split <;> omega
    have key0 : ∀ i, i < len → ∃ x : Int, W.cell? (a.add i) = some (.int .i64 x) ∧ I64 x := fun i hil => by
      obtain ⟨hc, ht⟩ := hi i (by omega)
      obtain ⟨z, hz, hb⟩ := part_int rfl ht
      exact ⟨z, by rw [hc, hz], hb⟩
    have hspot : 0 < len → a.spot = none := fun h0 => by
      obtain ⟨x, hc, _⟩ := key0 0 h0
      rw [add_zero] at hc
      exact spot_none hc
    obtain ⟨f, hf⟩ := Go.Deep.choose_lt (α := Int) (n := len) (p := fun i x => W.cell? (a.add i) = some (.int .i64 x) ∧ I64 x) key0
    refine ⟨some a, (List.range len).map f, cap, by simp, ⟨by simp; unfold maxLen at hm; omega, ?_, a.block, a.off, ?_, ?_⟩, by simpa using hl⟩
    · intro i hi
      have hi : i < len := by simpa using hi
      rw [gi_map f hi]
      exact (hf i hi).2
    · intro hne
      rw [← addr_of (hspot (ne_pos hne))]
    · intro i hi
      have hi : i < len := by simpa using hi
      rw [gi_map f hi, ← add_at (hspot (by omega))]
      exact (hf i hi).1

theorem open_rows {fuel : Nat} {v : Value} {y : DataW H × List MemPlace} (h : DataW.trod enc Try.prog W base sp held fuel 26 [v] = some y) :
    ∃ (a : Option Addr) (r : List (List Int)) (cap : Nat), v = .slice a r.length cap ∧ RowsS W a r := by
  rcases Go.Deep.open_slice1 Try.underlying26 cInts h with ⟨hcs, _⟩ | ⟨a, len, cap, m, n, V, D, Pl, hcs, hb, hl, hm, hmm, hx, hi⟩
  · obtain rfl : v = .slice none 0 0 := by simpa using hcs
    exact ⟨none, [], 0, rfl, by simp, 0, 0, fun _ => none, fun _ => 0, (fun h => absurd rfl h), fun i hi => absurd hi (Nat.not_lt_zero _)⟩
  · obtain rfl : v = .slice (some a) len cap := by simpa using hcs
    have hlm : len ≤ m := by rw [hmm]; split <;> omega
    have key0 : ∀ i, i < len → ∃ x : Option Addr × List Int × Nat, W.cell? (a.add i) = some (.slice x.1 x.2.1.length x.2.2) ∧ IntsS W x.1 x.2.1 ∧ x.2.1.length ≤ x.2.2 := fun i hil => by
      obtain ⟨hc, ht⟩ := hi i (by omega)
      obtain ⟨b, l, c, hz, hI⟩ := open_ints ht
      exact ⟨(b, l, c), by rw [hc, hz], hI⟩
    have hspot : 0 < len → a.spot = none := fun h0 => by
      obtain ⟨x, hc, _⟩ := key0 0 h0
      rw [add_zero] at hc
      exact spot_none hc
    obtain ⟨f, hf⟩ := Go.Deep.choose_lt (α := Option Addr × List Int × Nat) (n := len) (p := fun i x => W.cell? (a.add i) = some (.slice x.1 x.2.1.length x.2.2) ∧ IntsS W x.1 x.2.1 ∧ x.2.1.length ≤ x.2.2) key0
    refine ⟨some a, (List.range len).map fun i => (f i).2.1, cap, by simp, by simp; unfold maxLen at hm; omega, a.block, a.off, fun i => (f i).1, fun i => (f i).2.2, ?_, ?_⟩
    · intro hne
      rw [← addr_of (hspot (ne_pos hne))]
    · intro i hi
      have hi : i < len := by simpa using hi
      rw [gr_map (fun i => (f i).2.1) hi, ← add_at (hspot (by omega))]
      exact hf i hi

end
end Go.Proofs.Ytgphkfonjfdifaa
