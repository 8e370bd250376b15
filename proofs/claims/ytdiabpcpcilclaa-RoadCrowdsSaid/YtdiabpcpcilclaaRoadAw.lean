/-
  SameSpans of two lists that are the same; the sanity check Awake. By an AI agent.
-/
import Derived.Test.YtdiabpcpcilclaaRoadF
import Derived.Test.YtdiabpcpcilclaaRoadI
namespace Go.Proofs.Ytdiabpcpcilclaa
set_option linter.unusedVariables false
set_option linter.unusedSimpArgs false
open Go.RowKit

set_option maxRecDepth 100000 in
theorem sameSpans_any (a b : Option Addr) (l : List Spn) (ca cb : Nat) (w : World) (hA : PairsS w a l) (hB : PairsS w b l) :
    Calls Try.prog 14 #[.slice a l.length ca, .slice b l.length cb] w fun e w' => e = .returned (.bool true) ∧ Below w.heap.size w w' := by
  obtain ⟨hlen, -, ba, oa, hada, ha⟩ := hA
  obtain ⟨-, -, bb, ob, hadb, hb⟩ := hB
  have HA := Lib.hid ha
  have HB := Lib.hid hb
  have HLA : Hid (0 < l.length → a = some ⟨ba, oa, none⟩) := Lib.hid fun h => hada (by rintro rfl; simp at h)
  have HLB : Hid (0 < l.length → b = some ⟨bb, ob, none⟩) := Lib.hid fun h => hadb (by rintro rfl; simp at h)
  clear ha hb hada hadb
  go_enter Try.func14, Try.ntmps14
  go_wp2_with fail
  go_loopw [5] (fun i wr => ∃ k : Nat, k ≤ l.length ∧ i = .int .i64 k ∧ Below w.heap.size w wr) (fun i _ => l.length - (intOf i).toNat)
  case atStart => exact ⟨0, Nat.zero_le _, rfl, Below.refl _ _⟩
  case round =>
    obtain ⟨k, hk, rfl, hbr⟩ := hrel
    by_cases hlt : k < l.length
    · obtain rfl := HLA.out (by omega)
      obtain rfl := HLB.out (by omega)
      have d0 := cell_below (HA.out k hlt).1 hbr
      have d1 := cell_below (HA.out k hlt).2 hbr
      have d2 := cell_below (HB.out k hlt).1 hbr
      have d3 := cell_below (HB.out k hlt).2 hbr
      have hkl : (k : Int) < (l.length : Int) := by omega
      clear HA HB HLA HLB
      generalize (gp l k).1 = x at *
      generalize (gp l k).2 = y at *
      go_wp2_with fail
      go_quiet (fail)
      go_wp2_with fail
      go_roundw
      case rel => exact ⟨k + 1, by omega, by go_num, below_drewN hbr _⟩
      case measure => simp [intOf]; omega
    · obtain rfl : k = l.length := by omega
      go_wp2_with fail
      go_ret
      exact ⟨rfl, hbr⟩

def exC : List Chg := [(0, 200, 500, 100)]
theorem exC_ok : RoadOk 1 1000 exC := by
  refine ⟨by decide, by decide, by decide, fun i hi => ?_⟩
  have hi : i < 1 := hi
  obtain rfl : i = 0 := by omega
  refine ⟨⟨?_, ?_, ?_, ?_, ?_⟩, ?_⟩ <;> simp [exC, gc, dayK, lenK]
theorem exC_e : errL 1 1000 exC [0, 1] = 0 := errL_ok exC_ok (by decide)
theorem exC_1 : carE 1 1000 exC 600 0 1 = 0 := by unfold carE; rw [if_pos exC_e]; decide
theorem exC_2 : carV 1 1000 exC 600 0 1 = 400 := by unfold carV; rw [if_pos exC_1]; decide
theorem exC_3 : carE 1 1000 exC 300 0 1 = 62 := by unfold carE; rw [if_pos exC_e]; decide
theorem exC_4 : carV 1 1000 exC 300 0 1 = 0 := by unfold carV; rw [exC_3]; rfl
theorem exC_5 : kpE 1 1000 exC 100 700 0 1 = 0 := by unfold kpE; rw [if_pos exC_e]; decide
theorem exC_6 : kpL 1 1000 exC 100 700 0 1 = [(100, 200), (300, 500)] := by unfold kpL; rw [if_pos exC_5]; decide
theorem exC_q {w : World} {b : Nat} (h0 : w.cell? ⟨b, 0, none⟩ = some (.int .i64 0)) (h1 : w.cell? ⟨b, 1, none⟩ = some (.int .i64 200)) (h2 : w.cell? ⟨b, 2, none⟩ = some (.int .i64 500)) (h3 : w.cell? ⟨b, 3, none⟩ = some (.int .i64 100)) : QuadS w (some ⟨b, 0, none⟩) exC := ⟨by decide, fun i hi => by
  have hi : i < 1 := hi
  obtain rfl : i = 0 := by omega
  unfold I64; simp [exC, gc], b, 0, fun _ => rfl, fun i hi => by
  have hi : i < 1 := hi
  obtain rfl : i = 0 := by omega
  exact ⟨h0, h1, h2, h3⟩⟩
theorem pairs2 {w : World} {b : Nat} {p q : Spn} (h0 : w.cell? ⟨b, 0, none⟩ = some (.int .i64 p.1)) (h1 : w.cell? ⟨b, 1, none⟩ = some (.int .i64 p.2)) (h2 : w.cell? ⟨b, 2, none⟩ = some (.int .i64 q.1)) (h3 : w.cell? ⟨b, 3, none⟩ = some (.int .i64 q.2)) (hp : I64 p.1 ∧ I64 p.2) (hq : I64 q.1 ∧ I64 q.2) : PairsS w (some ⟨b, 0, none⟩) [p, q] := ⟨by simp, fun i hi => by
  have hi : i < 2 := hi
  match i, hi with
  | 0, _ => exact hp
  | 1, _ => exact hq, b, 0, fun _ => rfl, fun i hi => by
  have hi : i < 2 := hi
  match i, hi with
  | 0, _ => exact ⟨h0, h1⟩
  | 1, _ => exact ⟨h2, h3⟩⟩

set_option maxRecDepth 100000 in
set_option maxHeartbeats 1000000 in
theorem awake_any (w : World) : Calls Try.prog 9 #[] w fun e w' => e = .returned (.bool true) ∧ Below w.heap.size w w' := by
  have HC1 : Hid (∀ W, QuadS W (some ⟨w.heap.size, 0, none⟩) exC → Calls Try.prog 30 #[.agg #[.int .i64 1, .int .i64 1000, .slice (some ⟨w.heap.size, 0, none⟩) 1 1], .int .i64 600, .int .i64 0, .int .i64 1] W fun e w' => e = .returned (.tuple #[.int .i64 400, .int .i64 0]) ∧ Below W.heap.size W w') := Lib.hid fun W hq => by
    have := Carry_any 1 1000 _ exC 1 600 0 1 W hq (by decide)
    rw [exC_1, exC_2] at this
    exact this
  have HC2 : Hid (∀ W, QuadS W (some ⟨w.heap.size, 0, none⟩) exC → Calls Try.prog 30 #[.agg #[.int .i64 1, .int .i64 1000, .slice (some ⟨w.heap.size, 0, none⟩) 1 1], .int .i64 300, .int .i64 0, .int .i64 1] W fun e w' => e = .returned (.tuple #[.int .i64 0, .int .i64 62]) ∧ Below W.heap.size W w') := Lib.hid fun W hq => by
    have := Carry_any 1 1000 _ exC 1 300 0 1 W hq (by decide)
    rw [exC_3, exC_4] at this
    exact this
  have HK : Hid (∀ W, QuadS W (some ⟨w.heap.size, 0, none⟩) exC → Calls Try.prog 10 #[.agg #[.int .i64 1, .int .i64 1000, .slice (some ⟨w.heap.size, 0, none⟩) 1 1], .agg #[.int .i64 100, .int .i64 700], .int .i64 0, .int .i64 1] W (LstE W [(100, 200), (300, 500)] 0)) := Lib.hid fun W hq => by
    have := Kept_any 1 1000 _ exC 1 100 700 0 1 W hq (by decide)
    rw [exC_5, exC_6] at this
    exact this
  go_enter Try.func9, Try.ntmps9
  go_wp2_with fail
  obtain ⟨wB, hwB⟩ : ∃ wB, (w.alloc (.cells #[.int .i64 0, .int .i64 200, .int .i64 500, .int .i64 100] 61)).alloc (.cells #[.int .i64 1, .int .i64 1000, .slice (some ⟨w.heap.size, 0, none⟩) 1 1] 24) = wB := ⟨_, rfl⟩
  have hb : Below w.heap.size w wB := by rw [← hwB]; exact ((Below.refl _ _).alloc (Nat.le_refl _) _).alloc (by simp) _
  have HQ : Hid (QuadS wB (some ⟨w.heap.size, 0, none⟩) exC) := Lib.hid (exC_q (by rw [← hwB]; simp [go_sem]) (by rw [← hwB]; simp [go_sem]) (by rw [← hwB]; simp [go_sem]) (by rw [← hwB]; simp [go_sem]))
  have p0 : wB.cell? ⟨w.heap.size + 1, 0, none⟩ = some (.int .i64 1) := by rw [← hwB]; simp [go_sem]
  have p1 : wB.cell? ⟨w.heap.size + 1, 1, none⟩ = some (.int .i64 1000) := by rw [← hwB]; simp [go_sem]
  have p2 : wB.cell? ⟨w.heap.size + 1, 2, none⟩ = some (.slice (some ⟨w.heap.size, 0, none⟩) 1 1) := by rw [← hwB]; simp [go_sem]
  rw [hwB]
  clear hwB
  refine (HC1.out _ HQ.out).mono ?_
  rintro e w1 ⟨rfl, hb1⟩
  have HQ := Lib.hid (HQ.out.below hb1)
  have p0 := cell_below p0 hb1
  have p1 := cell_below p1 hb1
  have p2 := cell_below p2 hb1
  have hb := below_on hb hb1
  clear HC1 hb1
  go_wp2_with fail
  refine (HC2.out _ HQ.out).mono ?_
  rintro e w2 ⟨rfl, hb2⟩
  have HQ := Lib.hid (HQ.out.below hb2)
  have p0 := cell_below p0 hb2
  have p1 := cell_below p1 hb2
  have p2 := cell_below p2 hb2
  have hb := below_on hb hb2
  clear HC2 hb2
  go_wp2_with fail
  refine (HK.out _ HQ.out).mono ?_
  rintro e w3 ⟨b, c, rfl, hP, hb3, hc⟩
  have hb := below_on hb hb3
  have HP := Lib.hid hP
  clear HK HQ hb3 hP p0 p1 p2
  go_wp2_with fail
  have hP2 := HP.out.below ((Below.refl _ _).alloc (Nat.le_refl _) (.cells #[.int .i64 100, .int .i64 200, .int .i64 300, .int .i64 500] 26))
  refine (sameSpans_any b (some ⟨w3.heap.size, 0, none⟩) [(100, 200), (300, 500)] c 2 _ hP2 (pairs2 (by simp [go_sem]) (by simp [go_sem]) (by simp [go_sem]) (by simp [go_sem]) (by unfold I64; omega) (by unfold I64; omega))).mono ?_
  rintro e w4 ⟨rfl, hb4⟩
  go_wp2_with fail
  go_ret
  exact ⟨rfl, below_on hb (box_below hb4)⟩

theorem many_any (N L : Int) (a : Option Addr) (l : List Chg) (ca : Nat) (w : World) (hA : QuadS w a l) :
    Calls Try.prog 8 #[.agg #[.int .i64 N, .int .i64 L, .slice a l.length ca]] w fun e w' => e = .returned (.bool (decide (60 < l.length))) ∧ Below w.heap.size w w' := by
  have hlen := hA.1
  clear hA
  by_cases h : 60 < l.length
  · rw [show decide (60 < l.length) = true by simpa using h]
    have h2 : (60 : Int) < (l.length : Int) := by omega
    go_enter Try.func8, Try.ntmps8
    go_wp2_with fail
    go_ret
    exact ⟨rfl, (Below.refl _ _).alloc (Nat.le_refl _) _⟩
  · rw [show decide (60 < l.length) = false by simpa using h]
    have h2 : ¬ (60 : Int) < (l.length : Int) := by omega
    go_enter Try.func8, Try.ntmps8
    go_wp2_with fail
    go_ret
    exact ⟨rfl, (Below.refl _ _).alloc (Nat.le_refl _) _⟩
end Go.Proofs.Ytdiabpcpcilclaa
