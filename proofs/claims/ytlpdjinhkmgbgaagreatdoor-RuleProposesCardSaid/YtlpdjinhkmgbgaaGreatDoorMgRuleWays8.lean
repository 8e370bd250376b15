/-
  why, hour and way of package rule's laws. By an AI agent.; told: the course of what signs make hold. By an AI agent.; Held of package rule at good arguments. By an AI agent.; Row of both, as the laws ask it. By an AI agent.; The reference's Holding. By an AI agent.
-/
import Derived.Test.YtlpdjinhkmgbgaaGreatDoorMgRuleWays3
import Derived.Test.YtlpdjinhkmgbgaaGreatDoorMgRuleWays4
import Derived.Test.YtlpdjinhkmgbgaaGreatDoorMgRuleWays5
import Derived.Test.YtlpdjinhkmgbgaaGreatDoorMgRuleWays6
import Derived.Test.YtlpdjinhkmgbgaaGreatDoorMgRuleWays7
import Derived.BigQuiet
import Derived.BigRegion
import Derived.Deep.RegionHeld3

namespace Go.Proofs.YtlpdjinhkmgbgaaGreatDoor
set_option linter.unusedVariables false
set_option linter.unusedSimpArgs false
open Go.RowKit

/-- The first error of the parts that a function has. -/
def whyK (b1 s b2 e b3 r : Bool) : Int := if b1 = false then 70 else if (s && !b2) = true then 71 else if (e && !b3) = true then 72 else if r = false then 2 else 0
set_option maxRecDepth 100000 in
set_option maxHeartbeats 1000000 in
theorem why_r (L : Int) (a : Option Addr) (js : List Int) (ca : Nat) (aa : Option Addr) (l : List Sgn) (cl : Nat) (ae : Option Addr) (q : List Edc) (cq : Nat) (q0 q1 q2 q3 : Int) (s e r : Bool) (w : World) (hI : IntsS w a js) (hA : SgnS w aa l) (hE : EdS w ae q) : Calls Tryz.prog 10 #[.agg #[.int .i64 L, .slice a js.length ca, .slice aa l.length cl, .slice ae q.length cq, .int .i64 q0, .int .i64 q1, .int .i64 q2, .int .i64 q3], .bool s, .bool e, .bool r] w fun e9 w' => e9 = .returned (.int .i64 (whyK (lineB L js) s (sgnsB L js l) e (edcsB L js q) r)) ∧ Below w.heap.size w w' := by
  have R1 := Lib.hid (fun W (hW : Below w.heap.size w W) => refValidLine_r L a js ca W (hI.below hW))
  have R2 := Lib.hid (fun W (hW : Below w.heap.size w W) => refValidSigns_r L a js ca aa l cl W (hI.below hW) (hA.below hW))
  have R3 := Lib.hid (fun W (hW : Below w.heap.size w W) => refValidEdicts_r L a js ca ae q cq W (hI.below hW) (hE.below hW))
  clear hI hA hE
  generalize lineB L js = b1 at *
  generalize sgnsB L js l = b2 at *
  generalize edcsB L js q = b3 at *
  cases b1 with
  | false =>
    go_enter Tryz.func10, Tryz.ntmps10
    go_wp2_with fail
    obtain ⟨wB, hwB⟩ : ∃ wB, w.alloc (.cells #[.int .i64 L, .slice a js.length ca, .slice aa l.length cl, .slice ae q.length cq, .int .i64 q0, .int .i64 q1, .int .i64 q2, .int .i64 q3] 28) = wB := ⟨_, rfl⟩
    have hb : Below w.heap.size w wB := by rw [← hwB]; exact (Below.refl _ _).alloc (Nat.le_refl _) _
    have p0 : wB.cell? ⟨w.heap.size, 0, none⟩ = some (.int .i64 L) := by rw [← hwB]; simp [go_sem]
    have p1 : wB.cell? ⟨w.heap.size, 1, none⟩ = some (.slice a js.length ca) := by rw [← hwB]; simp [go_sem]
    have p2 : wB.cell? ⟨w.heap.size, 2, none⟩ = some (.slice aa l.length cl) := by rw [← hwB]; simp [go_sem]
    have p3 : wB.cell? ⟨w.heap.size, 3, none⟩ = some (.slice ae q.length cq) := by rw [← hwB]; simp [go_sem]
    have p4 : wB.cell? ⟨w.heap.size, 4, none⟩ = some (.int .i64 q0) := by rw [← hwB]; simp [go_sem]
    have p5 : wB.cell? ⟨w.heap.size, 5, none⟩ = some (.int .i64 q1) := by rw [← hwB]; simp [go_sem]
    have p6 : wB.cell? ⟨w.heap.size, 6, none⟩ = some (.int .i64 q2) := by rw [← hwB]; simp [go_sem]
    have p7 : wB.cell? ⟨w.heap.size, 7, none⟩ = some (.int .i64 q3) := by rw [← hwB]; simp [go_sem]
    rw [hwB]
    clear hwB
    clear p4 p5 p6 p7
    go_wp2_with (first | (go_at_call 26; refine (R1.out _ hb).mono ?_; rintro e w9 ⟨rfl, hb9⟩; replace hb := hb.trans (hb9.mono hb.size); replace p0 := cell_below p0 hb9; replace p1 := cell_below p1 hb9; replace p2 := cell_below p2 hb9; replace p3 := cell_below p3 hb9; clear hb9) | (go_at_call 34; refine (R2.out _ hb).mono ?_; rintro e w9 ⟨rfl, hb9⟩; replace hb := hb.trans (hb9.mono hb.size); replace p0 := cell_below p0 hb9; replace p1 := cell_below p1 hb9; replace p2 := cell_below p2 hb9; replace p3 := cell_below p3 hb9; clear hb9) | (go_at_call 35; refine (R3.out _ hb).mono ?_; rintro e w9 ⟨rfl, hb9⟩; replace hb := hb.trans (hb9.mono hb.size); replace p0 := cell_below p0 hb9; replace p1 := cell_below p1 hb9; replace p2 := cell_below p2 hb9; replace p3 := cell_below p3 hb9; clear hb9))
    go_ret
    exact ⟨rfl, hb⟩
  | true =>
    cases s with
    | false =>
      cases e with
      | false =>
        cases r with
        | false =>
          go_enter Tryz.func10, Tryz.ntmps10
          go_wp2_with fail
          obtain ⟨wB, hwB⟩ : ∃ wB, w.alloc (.cells #[.int .i64 L, .slice a js.length ca, .slice aa l.length cl, .slice ae q.length cq, .int .i64 q0, .int .i64 q1, .int .i64 q2, .int .i64 q3] 28) = wB := ⟨_, rfl⟩
          have hb : Below w.heap.size w wB := by rw [← hwB]; exact (Below.refl _ _).alloc (Nat.le_refl _) _
          have p0 : wB.cell? ⟨w.heap.size, 0, none⟩ = some (.int .i64 L) := by rw [← hwB]; simp [go_sem]
          have p1 : wB.cell? ⟨w.heap.size, 1, none⟩ = some (.slice a js.length ca) := by rw [← hwB]; simp [go_sem]
          have p2 : wB.cell? ⟨w.heap.size, 2, none⟩ = some (.slice aa l.length cl) := by rw [← hwB]; simp [go_sem]
          have p3 : wB.cell? ⟨w.heap.size, 3, none⟩ = some (.slice ae q.length cq) := by rw [← hwB]; simp [go_sem]
          have p4 : wB.cell? ⟨w.heap.size, 4, none⟩ = some (.int .i64 q0) := by rw [← hwB]; simp [go_sem]
          have p5 : wB.cell? ⟨w.heap.size, 5, none⟩ = some (.int .i64 q1) := by rw [← hwB]; simp [go_sem]
          have p6 : wB.cell? ⟨w.heap.size, 6, none⟩ = some (.int .i64 q2) := by rw [← hwB]; simp [go_sem]
          have p7 : wB.cell? ⟨w.heap.size, 7, none⟩ = some (.int .i64 q3) := by rw [← hwB]; simp [go_sem]
          rw [hwB]
          clear hwB
          clear p4 p5 p6 p7
          go_wp2_with (first | (go_at_call 26; refine (R1.out _ hb).mono ?_; rintro e w9 ⟨rfl, hb9⟩; replace hb := hb.trans (hb9.mono hb.size); replace p0 := cell_below p0 hb9; replace p1 := cell_below p1 hb9; replace p2 := cell_below p2 hb9; replace p3 := cell_below p3 hb9; clear hb9) | (go_at_call 34; refine (R2.out _ hb).mono ?_; rintro e w9 ⟨rfl, hb9⟩; replace hb := hb.trans (hb9.mono hb.size); replace p0 := cell_below p0 hb9; replace p1 := cell_below p1 hb9; replace p2 := cell_below p2 hb9; replace p3 := cell_below p3 hb9; clear hb9) | (go_at_call 35; refine (R3.out _ hb).mono ?_; rintro e w9 ⟨rfl, hb9⟩; replace hb := hb.trans (hb9.mono hb.size); replace p0 := cell_below p0 hb9; replace p1 := cell_below p1 hb9; replace p2 := cell_below p2 hb9; replace p3 := cell_below p3 hb9; clear hb9))
          go_ret
          exact ⟨rfl, hb⟩
        | true =>
          go_enter Tryz.func10, Tryz.ntmps10
          go_wp2_with fail
          obtain ⟨wB, hwB⟩ : ∃ wB, w.alloc (.cells #[.int .i64 L, .slice a js.length ca, .slice aa l.length cl, .slice ae q.length cq, .int .i64 q0, .int .i64 q1, .int .i64 q2, .int .i64 q3] 28) = wB := ⟨_, rfl⟩
          have hb : Below w.heap.size w wB := by rw [← hwB]; exact (Below.refl _ _).alloc (Nat.le_refl _) _
          have p0 : wB.cell? ⟨w.heap.size, 0, none⟩ = some (.int .i64 L) := by rw [← hwB]; simp [go_sem]
          have p1 : wB.cell? ⟨w.heap.size, 1, none⟩ = some (.slice a js.length ca) := by rw [← hwB]; simp [go_sem]
          have p2 : wB.cell? ⟨w.heap.size, 2, none⟩ = some (.slice aa l.length cl) := by rw [← hwB]; simp [go_sem]
          have p3 : wB.cell? ⟨w.heap.size, 3, none⟩ = some (.slice ae q.length cq) := by rw [← hwB]; simp [go_sem]
          have p4 : wB.cell? ⟨w.heap.size, 4, none⟩ = some (.int .i64 q0) := by rw [← hwB]; simp [go_sem]
          have p5 : wB.cell? ⟨w.heap.size, 5, none⟩ = some (.int .i64 q1) := by rw [← hwB]; simp [go_sem]
          have p6 : wB.cell? ⟨w.heap.size, 6, none⟩ = some (.int .i64 q2) := by rw [← hwB]; simp [go_sem]
          have p7 : wB.cell? ⟨w.heap.size, 7, none⟩ = some (.int .i64 q3) := by rw [← hwB]; simp [go_sem]
          rw [hwB]
          clear hwB
          clear p4 p5 p6 p7
          go_wp2_with (first | (go_at_call 26; refine (R1.out _ hb).mono ?_; rintro e w9 ⟨rfl, hb9⟩; replace hb := hb.trans (hb9.mono hb.size); replace p0 := cell_below p0 hb9; replace p1 := cell_below p1 hb9; replace p2 := cell_below p2 hb9; replace p3 := cell_below p3 hb9; clear hb9) | (go_at_call 34; refine (R2.out _ hb).mono ?_; rintro e w9 ⟨rfl, hb9⟩; replace hb := hb.trans (hb9.mono hb.size); replace p0 := cell_below p0 hb9; replace p1 := cell_below p1 hb9; replace p2 := cell_below p2 hb9; replace p3 := cell_below p3 hb9; clear hb9) | (go_at_call 35; refine (R3.out _ hb).mono ?_; rintro e w9 ⟨rfl, hb9⟩; replace hb := hb.trans (hb9.mono hb.size); replace p0 := cell_below p0 hb9; replace p1 := cell_below p1 hb9; replace p2 := cell_below p2 hb9; replace p3 := cell_below p3 hb9; clear hb9))
          go_ret
          exact ⟨rfl, hb⟩
      | true =>
        cases b3 with
        | false =>
          go_enter Tryz.func10, Tryz.ntmps10
          go_wp2_with fail
          obtain ⟨wB, hwB⟩ : ∃ wB, w.alloc (.cells #[.int .i64 L, .slice a js.length ca, .slice aa l.length cl, .slice ae q.length cq, .int .i64 q0, .int .i64 q1, .int .i64 q2, .int .i64 q3] 28) = wB := ⟨_, rfl⟩
          have hb : Below w.heap.size w wB := by rw [← hwB]; exact (Below.refl _ _).alloc (Nat.le_refl _) _
          have p0 : wB.cell? ⟨w.heap.size, 0, none⟩ = some (.int .i64 L) := by rw [← hwB]; simp [go_sem]
          have p1 : wB.cell? ⟨w.heap.size, 1, none⟩ = some (.slice a js.length ca) := by rw [← hwB]; simp [go_sem]
          have p2 : wB.cell? ⟨w.heap.size, 2, none⟩ = some (.slice aa l.length cl) := by rw [← hwB]; simp [go_sem]
          have p3 : wB.cell? ⟨w.heap.size, 3, none⟩ = some (.slice ae q.length cq) := by rw [← hwB]; simp [go_sem]
          have p4 : wB.cell? ⟨w.heap.size, 4, none⟩ = some (.int .i64 q0) := by rw [← hwB]; simp [go_sem]
          have p5 : wB.cell? ⟨w.heap.size, 5, none⟩ = some (.int .i64 q1) := by rw [← hwB]; simp [go_sem]
          have p6 : wB.cell? ⟨w.heap.size, 6, none⟩ = some (.int .i64 q2) := by rw [← hwB]; simp [go_sem]
          have p7 : wB.cell? ⟨w.heap.size, 7, none⟩ = some (.int .i64 q3) := by rw [← hwB]; simp [go_sem]
          rw [hwB]
          clear hwB
          clear p4 p5 p6 p7
          go_wp2_with (first | (go_at_call 26; refine (R1.out _ hb).mono ?_; rintro e w9 ⟨rfl, hb9⟩; replace hb := hb.trans (hb9.mono hb.size); replace p0 := cell_below p0 hb9; replace p1 := cell_below p1 hb9; replace p2 := cell_below p2 hb9; replace p3 := cell_below p3 hb9; clear hb9) | (go_at_call 34; refine (R2.out _ hb).mono ?_; rintro e w9 ⟨rfl, hb9⟩; replace hb := hb.trans (hb9.mono hb.size); replace p0 := cell_below p0 hb9; replace p1 := cell_below p1 hb9; replace p2 := cell_below p2 hb9; replace p3 := cell_below p3 hb9; clear hb9) | (go_at_call 35; refine (R3.out _ hb).mono ?_; rintro e w9 ⟨rfl, hb9⟩; replace hb := hb.trans (hb9.mono hb.size); replace p0 := cell_below p0 hb9; replace p1 := cell_below p1 hb9; replace p2 := cell_below p2 hb9; replace p3 := cell_below p3 hb9; clear hb9))
          go_ret
          exact ⟨rfl, hb⟩
        | true =>
          cases r with
          | false =>
            go_enter Tryz.func10, Tryz.ntmps10
            go_wp2_with fail
            obtain ⟨wB, hwB⟩ : ∃ wB, w.alloc (.cells #[.int .i64 L, .slice a js.length ca, .slice aa l.length cl, .slice ae q.length cq, .int .i64 q0, .int .i64 q1, .int .i64 q2, .int .i64 q3] 28) = wB := ⟨_, rfl⟩
            have hb : Below w.heap.size w wB := by rw [← hwB]; exact (Below.refl _ _).alloc (Nat.le_refl _) _
            have p0 : wB.cell? ⟨w.heap.size, 0, none⟩ = some (.int .i64 L) := by rw [← hwB]; simp [go_sem]
            have p1 : wB.cell? ⟨w.heap.size, 1, none⟩ = some (.slice a js.length ca) := by rw [← hwB]; simp [go_sem]
            have p2 : wB.cell? ⟨w.heap.size, 2, none⟩ = some (.slice aa l.length cl) := by rw [← hwB]; simp [go_sem]
            have p3 : wB.cell? ⟨w.heap.size, 3, none⟩ = some (.slice ae q.length cq) := by rw [← hwB]; simp [go_sem]
            have p4 : wB.cell? ⟨w.heap.size, 4, none⟩ = some (.int .i64 q0) := by rw [← hwB]; simp [go_sem]
            have p5 : wB.cell? ⟨w.heap.size, 5, none⟩ = some (.int .i64 q1) := by rw [← hwB]; simp [go_sem]
            have p6 : wB.cell? ⟨w.heap.size, 6, none⟩ = some (.int .i64 q2) := by rw [← hwB]; simp [go_sem]
            have p7 : wB.cell? ⟨w.heap.size, 7, none⟩ = some (.int .i64 q3) := by rw [← hwB]; simp [go_sem]
            rw [hwB]
            clear hwB
            clear p4 p5 p6 p7
            go_wp2_with (first | (go_at_call 26; refine (R1.out _ hb).mono ?_; rintro e w9 ⟨rfl, hb9⟩; replace hb := hb.trans (hb9.mono hb.size); replace p0 := cell_below p0 hb9; replace p1 := cell_below p1 hb9; replace p2 := cell_below p2 hb9; replace p3 := cell_below p3 hb9; clear hb9) | (go_at_call 34; refine (R2.out _ hb).mono ?_; rintro e w9 ⟨rfl, hb9⟩; replace hb := hb.trans (hb9.mono hb.size); replace p0 := cell_below p0 hb9; replace p1 := cell_below p1 hb9; replace p2 := cell_below p2 hb9; replace p3 := cell_below p3 hb9; clear hb9) | (go_at_call 35; refine (R3.out _ hb).mono ?_; rintro e w9 ⟨rfl, hb9⟩; replace hb := hb.trans (hb9.mono hb.size); replace p0 := cell_below p0 hb9; replace p1 := cell_below p1 hb9; replace p2 := cell_below p2 hb9; replace p3 := cell_below p3 hb9; clear hb9))
            go_ret
            exact ⟨rfl, hb⟩
          | true =>
            go_enter Tryz.func10, Tryz.ntmps10
            go_wp2_with fail
            obtain ⟨wB, hwB⟩ : ∃ wB, w.alloc (.cells #[.int .i64 L, .slice a js.length ca, .slice aa l.length cl, .slice ae q.length cq, .int .i64 q0, .int .i64 q1, .int .i64 q2, .int .i64 q3] 28) = wB := ⟨_, rfl⟩
            have hb : Below w.heap.size w wB := by rw [← hwB]; exact (Below.refl _ _).alloc (Nat.le_refl _) _
            have p0 : wB.cell? ⟨w.heap.size, 0, none⟩ = some (.int .i64 L) := by rw [← hwB]; simp [go_sem]
            have p1 : wB.cell? ⟨w.heap.size, 1, none⟩ = some (.slice a js.length ca) := by rw [← hwB]; simp [go_sem]
            have p2 : wB.cell? ⟨w.heap.size, 2, none⟩ = some (.slice aa l.length cl) := by rw [← hwB]; simp [go_sem]
            have p3 : wB.cell? ⟨w.heap.size, 3, none⟩ = some (.slice ae q.length cq) := by rw [← hwB]; simp [go_sem]
            have p4 : wB.cell? ⟨w.heap.size, 4, none⟩ = some (.int .i64 q0) := by rw [← hwB]; simp [go_sem]
            have p5 : wB.cell? ⟨w.heap.size, 5, none⟩ = some (.int .i64 q1) := by rw [← hwB]; simp [go_sem]
            have p6 : wB.cell? ⟨w.heap.size, 6, none⟩ = some (.int .i64 q2) := by rw [← hwB]; simp [go_sem]
            have p7 : wB.cell? ⟨w.heap.size, 7, none⟩ = some (.int .i64 q3) := by rw [← hwB]; simp [go_sem]
            rw [hwB]
            clear hwB
            clear p4 p5 p6 p7
            go_wp2_with (first | (go_at_call 26; refine (R1.out _ hb).mono ?_; rintro e w9 ⟨rfl, hb9⟩; replace hb := hb.trans (hb9.mono hb.size); replace p0 := cell_below p0 hb9; replace p1 := cell_below p1 hb9; replace p2 := cell_below p2 hb9; replace p3 := cell_below p3 hb9; clear hb9) | (go_at_call 34; refine (R2.out _ hb).mono ?_; rintro e w9 ⟨rfl, hb9⟩; replace hb := hb.trans (hb9.mono hb.size); replace p0 := cell_below p0 hb9; replace p1 := cell_below p1 hb9; replace p2 := cell_below p2 hb9; replace p3 := cell_below p3 hb9; clear hb9) | (go_at_call 35; refine (R3.out _ hb).mono ?_; rintro e w9 ⟨rfl, hb9⟩; replace hb := hb.trans (hb9.mono hb.size); replace p0 := cell_below p0 hb9; replace p1 := cell_below p1 hb9; replace p2 := cell_below p2 hb9; replace p3 := cell_below p3 hb9; clear hb9))
            go_ret
            exact ⟨rfl, hb⟩
    | true =>
      cases b2 with
      | false =>
        go_enter Tryz.func10, Tryz.ntmps10
        go_wp2_with fail
        obtain ⟨wB, hwB⟩ : ∃ wB, w.alloc (.cells #[.int .i64 L, .slice a js.length ca, .slice aa l.length cl, .slice ae q.length cq, .int .i64 q0, .int .i64 q1, .int .i64 q2, .int .i64 q3] 28) = wB := ⟨_, rfl⟩
        have hb : Below w.heap.size w wB := by rw [← hwB]; exact (Below.refl _ _).alloc (Nat.le_refl _) _
        have p0 : wB.cell? ⟨w.heap.size, 0, none⟩ = some (.int .i64 L) := by rw [← hwB]; simp [go_sem]
        have p1 : wB.cell? ⟨w.heap.size, 1, none⟩ = some (.slice a js.length ca) := by rw [← hwB]; simp [go_sem]
        have p2 : wB.cell? ⟨w.heap.size, 2, none⟩ = some (.slice aa l.length cl) := by rw [← hwB]; simp [go_sem]
        have p3 : wB.cell? ⟨w.heap.size, 3, none⟩ = some (.slice ae q.length cq) := by rw [← hwB]; simp [go_sem]
        have p4 : wB.cell? ⟨w.heap.size, 4, none⟩ = some (.int .i64 q0) := by rw [← hwB]; simp [go_sem]
        have p5 : wB.cell? ⟨w.heap.size, 5, none⟩ = some (.int .i64 q1) := by rw [← hwB]; simp [go_sem]
        have p6 : wB.cell? ⟨w.heap.size, 6, none⟩ = some (.int .i64 q2) := by rw [← hwB]; simp [go_sem]
        have p7 : wB.cell? ⟨w.heap.size, 7, none⟩ = some (.int .i64 q3) := by rw [← hwB]; simp [go_sem]
        rw [hwB]
        clear hwB
        clear p4 p5 p6 p7
        go_wp2_with (first | (go_at_call 26; refine (R1.out _ hb).mono ?_; rintro e w9 ⟨rfl, hb9⟩; replace hb := hb.trans (hb9.mono hb.size); replace p0 := cell_below p0 hb9; replace p1 := cell_below p1 hb9; replace p2 := cell_below p2 hb9; replace p3 := cell_below p3 hb9; clear hb9) | (go_at_call 34; refine (R2.out _ hb).mono ?_; rintro e w9 ⟨rfl, hb9⟩; replace hb := hb.trans (hb9.mono hb.size); replace p0 := cell_below p0 hb9; replace p1 := cell_below p1 hb9; replace p2 := cell_below p2 hb9; replace p3 := cell_below p3 hb9; clear hb9) | (go_at_call 35; refine (R3.out _ hb).mono ?_; rintro e w9 ⟨rfl, hb9⟩; replace hb := hb.trans (hb9.mono hb.size); replace p0 := cell_below p0 hb9; replace p1 := cell_below p1 hb9; replace p2 := cell_below p2 hb9; replace p3 := cell_below p3 hb9; clear hb9))
        go_ret
        exact ⟨rfl, hb⟩
      | true =>
        cases e with
        | false =>
          cases r with
          | false =>
            go_enter Tryz.func10, Tryz.ntmps10
            go_wp2_with fail
            obtain ⟨wB, hwB⟩ : ∃ wB, w.alloc (.cells #[.int .i64 L, .slice a js.length ca, .slice aa l.length cl, .slice ae q.length cq, .int .i64 q0, .int .i64 q1, .int .i64 q2, .int .i64 q3] 28) = wB := ⟨_, rfl⟩
            have hb : Below w.heap.size w wB := by rw [← hwB]; exact (Below.refl _ _).alloc (Nat.le_refl _) _
            have p0 : wB.cell? ⟨w.heap.size, 0, none⟩ = some (.int .i64 L) := by rw [← hwB]; simp [go_sem]
            have p1 : wB.cell? ⟨w.heap.size, 1, none⟩ = some (.slice a js.length ca) := by rw [← hwB]; simp [go_sem]
            have p2 : wB.cell? ⟨w.heap.size, 2, none⟩ = some (.slice aa l.length cl) := by rw [← hwB]; simp [go_sem]
            have p3 : wB.cell? ⟨w.heap.size, 3, none⟩ = some (.slice ae q.length cq) := by rw [← hwB]; simp [go_sem]
            have p4 : wB.cell? ⟨w.heap.size, 4, none⟩ = some (.int .i64 q0) := by rw [← hwB]; simp [go_sem]
            have p5 : wB.cell? ⟨w.heap.size, 5, none⟩ = some (.int .i64 q1) := by rw [← hwB]; simp [go_sem]
            have p6 : wB.cell? ⟨w.heap.size, 6, none⟩ = some (.int .i64 q2) := by rw [← hwB]; simp [go_sem]
            have p7 : wB.cell? ⟨w.heap.size, 7, none⟩ = some (.int .i64 q3) := by rw [← hwB]; simp [go_sem]
            rw [hwB]
            clear hwB
            clear p4 p5 p6 p7
            go_wp2_with (first | (go_at_call 26; refine (R1.out _ hb).mono ?_; rintro e w9 ⟨rfl, hb9⟩; replace hb := hb.trans (hb9.mono hb.size); replace p0 := cell_below p0 hb9; replace p1 := cell_below p1 hb9; replace p2 := cell_below p2 hb9; replace p3 := cell_below p3 hb9; clear hb9) | (go_at_call 34; refine (R2.out _ hb).mono ?_; rintro e w9 ⟨rfl, hb9⟩; replace hb := hb.trans (hb9.mono hb.size); replace p0 := cell_below p0 hb9; replace p1 := cell_below p1 hb9; replace p2 := cell_below p2 hb9; replace p3 := cell_below p3 hb9; clear hb9) | (go_at_call 35; refine (R3.out _ hb).mono ?_; rintro e w9 ⟨rfl, hb9⟩; replace hb := hb.trans (hb9.mono hb.size); replace p0 := cell_below p0 hb9; replace p1 := cell_below p1 hb9; replace p2 := cell_below p2 hb9; replace p3 := cell_below p3 hb9; clear hb9))
            go_ret
            exact ⟨rfl, hb⟩
          | true =>
            go_enter Tryz.func10, Tryz.ntmps10
            go_wp2_with fail
            obtain ⟨wB, hwB⟩ : ∃ wB, w.alloc (.cells #[.int .i64 L, .slice a js.length ca, .slice aa l.length cl, .slice ae q.length cq, .int .i64 q0, .int .i64 q1, .int .i64 q2, .int .i64 q3] 28) = wB := ⟨_, rfl⟩
            have hb : Below w.heap.size w wB := by rw [← hwB]; exact (Below.refl _ _).alloc (Nat.le_refl _) _
            have p0 : wB.cell? ⟨w.heap.size, 0, none⟩ = some (.int .i64 L) := by rw [← hwB]; simp [go_sem]
            have p1 : wB.cell? ⟨w.heap.size, 1, none⟩ = some (.slice a js.length ca) := by rw [← hwB]; simp [go_sem]
            have p2 : wB.cell? ⟨w.heap.size, 2, none⟩ = some (.slice aa l.length cl) := by rw [← hwB]; simp [go_sem]
            have p3 : wB.cell? ⟨w.heap.size, 3, none⟩ = some (.slice ae q.length cq) := by rw [← hwB]; simp [go_sem]
            have p4 : wB.cell? ⟨w.heap.size, 4, none⟩ = some (.int .i64 q0) := by rw [← hwB]; simp [go_sem]
            have p5 : wB.cell? ⟨w.heap.size, 5, none⟩ = some (.int .i64 q1) := by rw [← hwB]; simp [go_sem]
            have p6 : wB.cell? ⟨w.heap.size, 6, none⟩ = some (.int .i64 q2) := by rw [← hwB]; simp [go_sem]
            have p7 : wB.cell? ⟨w.heap.size, 7, none⟩ = some (.int .i64 q3) := by rw [← hwB]; simp [go_sem]
            rw [hwB]
            clear hwB
            clear p4 p5 p6 p7
            go_wp2_with (first | (go_at_call 26; refine (R1.out _ hb).mono ?_; rintro e w9 ⟨rfl, hb9⟩; replace hb := hb.trans (hb9.mono hb.size); replace p0 := cell_below p0 hb9; replace p1 := cell_below p1 hb9; replace p2 := cell_below p2 hb9; replace p3 := cell_below p3 hb9; clear hb9) | (go_at_call 34; refine (R2.out _ hb).mono ?_; rintro e w9 ⟨rfl, hb9⟩; replace hb := hb.trans (hb9.mono hb.size); replace p0 := cell_below p0 hb9; replace p1 := cell_below p1 hb9; replace p2 := cell_below p2 hb9; replace p3 := cell_below p3 hb9; clear hb9) | (go_at_call 35; refine (R3.out _ hb).mono ?_; rintro e w9 ⟨rfl, hb9⟩; replace hb := hb.trans (hb9.mono hb.size); replace p0 := cell_below p0 hb9; replace p1 := cell_below p1 hb9; replace p2 := cell_below p2 hb9; replace p3 := cell_below p3 hb9; clear hb9))
            go_ret
            exact ⟨rfl, hb⟩
        | true =>
          cases b3 with
          | false =>
            go_enter Tryz.func10, Tryz.ntmps10
            go_wp2_with fail
            obtain ⟨wB, hwB⟩ : ∃ wB, w.alloc (.cells #[.int .i64 L, .slice a js.length ca, .slice aa l.length cl, .slice ae q.length cq, .int .i64 q0, .int .i64 q1, .int .i64 q2, .int .i64 q3] 28) = wB := ⟨_, rfl⟩
            have hb : Below w.heap.size w wB := by rw [← hwB]; exact (Below.refl _ _).alloc (Nat.le_refl _) _
            have p0 : wB.cell? ⟨w.heap.size, 0, none⟩ = some (.int .i64 L) := by rw [← hwB]; simp [go_sem]
            have p1 : wB.cell? ⟨w.heap.size, 1, none⟩ = some (.slice a js.length ca) := by rw [← hwB]; simp [go_sem]
            have p2 : wB.cell? ⟨w.heap.size, 2, none⟩ = some (.slice aa l.length cl) := by rw [← hwB]; simp [go_sem]
            have p3 : wB.cell? ⟨w.heap.size, 3, none⟩ = some (.slice ae q.length cq) := by rw [← hwB]; simp [go_sem]
            have p4 : wB.cell? ⟨w.heap.size, 4, none⟩ = some (.int .i64 q0) := by rw [← hwB]; simp [go_sem]
            have p5 : wB.cell? ⟨w.heap.size, 5, none⟩ = some (.int .i64 q1) := by rw [← hwB]; simp [go_sem]
            have p6 : wB.cell? ⟨w.heap.size, 6, none⟩ = some (.int .i64 q2) := by rw [← hwB]; simp [go_sem]
            have p7 : wB.cell? ⟨w.heap.size, 7, none⟩ = some (.int .i64 q3) := by rw [← hwB]; simp [go_sem]
            rw [hwB]
            clear hwB
            clear p4 p5 p6 p7
            go_wp2_with (first | (go_at_call 26; refine (R1.out _ hb).mono ?_; rintro e w9 ⟨rfl, hb9⟩; replace hb := hb.trans (hb9.mono hb.size); replace p0 := cell_below p0 hb9; replace p1 := cell_below p1 hb9; replace p2 := cell_below p2 hb9; replace p3 := cell_below p3 hb9; clear hb9) | (go_at_call 34; refine (R2.out _ hb).mono ?_; rintro e w9 ⟨rfl, hb9⟩; replace hb := hb.trans (hb9.mono hb.size); replace p0 := cell_below p0 hb9; replace p1 := cell_below p1 hb9; replace p2 := cell_below p2 hb9; replace p3 := cell_below p3 hb9; clear hb9) | (go_at_call 35; refine (R3.out _ hb).mono ?_; rintro e w9 ⟨rfl, hb9⟩; replace hb := hb.trans (hb9.mono hb.size); replace p0 := cell_below p0 hb9; replace p1 := cell_below p1 hb9; replace p2 := cell_below p2 hb9; replace p3 := cell_below p3 hb9; clear hb9))
            go_ret
            exact ⟨rfl, hb⟩
          | true =>
            cases r with
            | false =>
              go_enter Tryz.func10, Tryz.ntmps10
              go_wp2_with fail
              obtain ⟨wB, hwB⟩ : ∃ wB, w.alloc (.cells #[.int .i64 L, .slice a js.length ca, .slice aa l.length cl, .slice ae q.length cq, .int .i64 q0, .int .i64 q1, .int .i64 q2, .int .i64 q3] 28) = wB := ⟨_, rfl⟩
              have hb : Below w.heap.size w wB := by rw [← hwB]; exact (Below.refl _ _).alloc (Nat.le_refl _) _
              have p0 : wB.cell? ⟨w.heap.size, 0, none⟩ = some (.int .i64 L) := by rw [← hwB]; simp [go_sem]
              have p1 : wB.cell? ⟨w.heap.size, 1, none⟩ = some (.slice a js.length ca) := by rw [← hwB]; simp [go_sem]
              have p2 : wB.cell? ⟨w.heap.size, 2, none⟩ = some (.slice aa l.length cl) := by rw [← hwB]; simp [go_sem]
              have p3 : wB.cell? ⟨w.heap.size, 3, none⟩ = some (.slice ae q.length cq) := by rw [← hwB]; simp [go_sem]
              have p4 : wB.cell? ⟨w.heap.size, 4, none⟩ = some (.int .i64 q0) := by rw [← hwB]; simp [go_sem]
              have p5 : wB.cell? ⟨w.heap.size, 5, none⟩ = some (.int .i64 q1) := by rw [← hwB]; simp [go_sem]
              have p6 : wB.cell? ⟨w.heap.size, 6, none⟩ = some (.int .i64 q2) := by rw [← hwB]; simp [go_sem]
              have p7 : wB.cell? ⟨w.heap.size, 7, none⟩ = some (.int .i64 q3) := by rw [← hwB]; simp [go_sem]
              rw [hwB]
              clear hwB
              clear p4 p5 p6 p7
              go_wp2_with (first | (go_at_call 26; refine (R1.out _ hb).mono ?_; rintro e w9 ⟨rfl, hb9⟩; replace hb := hb.trans (hb9.mono hb.size); replace p0 := cell_below p0 hb9; replace p1 := cell_below p1 hb9; replace p2 := cell_below p2 hb9; replace p3 := cell_below p3 hb9; clear hb9) | (go_at_call 34; refine (R2.out _ hb).mono ?_; rintro e w9 ⟨rfl, hb9⟩; replace hb := hb.trans (hb9.mono hb.size); replace p0 := cell_below p0 hb9; replace p1 := cell_below p1 hb9; replace p2 := cell_below p2 hb9; replace p3 := cell_below p3 hb9; clear hb9) | (go_at_call 35; refine (R3.out _ hb).mono ?_; rintro e w9 ⟨rfl, hb9⟩; replace hb := hb.trans (hb9.mono hb.size); replace p0 := cell_below p0 hb9; replace p1 := cell_below p1 hb9; replace p2 := cell_below p2 hb9; replace p3 := cell_below p3 hb9; clear hb9))
              go_ret
              exact ⟨rfl, hb⟩
            | true =>
              go_enter Tryz.func10, Tryz.ntmps10
              go_wp2_with fail
              obtain ⟨wB, hwB⟩ : ∃ wB, w.alloc (.cells #[.int .i64 L, .slice a js.length ca, .slice aa l.length cl, .slice ae q.length cq, .int .i64 q0, .int .i64 q1, .int .i64 q2, .int .i64 q3] 28) = wB := ⟨_, rfl⟩
              have hb : Below w.heap.size w wB := by rw [← hwB]; exact (Below.refl _ _).alloc (Nat.le_refl _) _
              have p0 : wB.cell? ⟨w.heap.size, 0, none⟩ = some (.int .i64 L) := by rw [← hwB]; simp [go_sem]
              have p1 : wB.cell? ⟨w.heap.size, 1, none⟩ = some (.slice a js.length ca) := by rw [← hwB]; simp [go_sem]
              have p2 : wB.cell? ⟨w.heap.size, 2, none⟩ = some (.slice aa l.length cl) := by rw [← hwB]; simp [go_sem]
              have p3 : wB.cell? ⟨w.heap.size, 3, none⟩ = some (.slice ae q.length cq) := by rw [← hwB]; simp [go_sem]
              have p4 : wB.cell? ⟨w.heap.size, 4, none⟩ = some (.int .i64 q0) := by rw [← hwB]; simp [go_sem]
              have p5 : wB.cell? ⟨w.heap.size, 5, none⟩ = some (.int .i64 q1) := by rw [← hwB]; simp [go_sem]
              have p6 : wB.cell? ⟨w.heap.size, 6, none⟩ = some (.int .i64 q2) := by rw [← hwB]; simp [go_sem]
              have p7 : wB.cell? ⟨w.heap.size, 7, none⟩ = some (.int .i64 q3) := by rw [← hwB]; simp [go_sem]
              rw [hwB]
              clear hwB
              clear p4 p5 p6 p7
              go_wp2_with (first | (go_at_call 26; refine (R1.out _ hb).mono ?_; rintro e w9 ⟨rfl, hb9⟩; replace hb := hb.trans (hb9.mono hb.size); replace p0 := cell_below p0 hb9; replace p1 := cell_below p1 hb9; replace p2 := cell_below p2 hb9; replace p3 := cell_below p3 hb9; clear hb9) | (go_at_call 34; refine (R2.out _ hb).mono ?_; rintro e w9 ⟨rfl, hb9⟩; replace hb := hb.trans (hb9.mono hb.size); replace p0 := cell_below p0 hb9; replace p1 := cell_below p1 hb9; replace p2 := cell_below p2 hb9; replace p3 := cell_below p3 hb9; clear hb9) | (go_at_call 35; refine (R3.out _ hb).mono ?_; rintro e w9 ⟨rfl, hb9⟩; replace hb := hb.trans (hb9.mono hb.size); replace p0 := cell_below p0 hb9; replace p1 := cell_below p1 hb9; replace p2 := cell_below p2 hb9; replace p3 := cell_below p3 hb9; clear hb9))
              go_ret
              exact ⟨rfl, hb⟩
set_option maxRecDepth 100000 in
set_option maxHeartbeats 1000000 in
theorem hour_r (h : Int) (w : World) : Calls Tryz.prog 11 #[.int .i64 h] w fun e w' => e = .returned (.bool (btw h 0 10000000)) ∧ w = w' := by
  by_cases h1 : 0 ≤ h
  · by_cases h2 : h ≤ 10000000
    · have hr : Hid (btw h 0 10000000 = true) := Lib.hid ((btw_iff _ _ _).2 ⟨h1, h2⟩)
      go_enter Tryz.func11, Tryz.ntmps11
      go_wp2_with fail
      go_ret
      exact ⟨by rw [hr.out] <;> rfl, rfl⟩
    · have hr : Hid (btw h 0 10000000 = false) := Lib.hid (by unfold btw; rw [decide_eq_false h2, Bool.and_false])
      go_enter Tryz.func11, Tryz.ntmps11
      go_wp2_with fail
      go_ret
      exact ⟨by rw [hr.out] <;> rfl, rfl⟩
  · have hr : Hid (btw h 0 10000000 = false) := Lib.hid (by unfold btw; rw [decide_eq_false h1, Bool.false_and])
    go_enter Tryz.func11, Tryz.ntmps11
    go_wp2_with fail
    go_ret
    exact ⟨by rw [hr.out] <;> rfl, rfl⟩
set_option maxRecDepth 100000 in
set_option maxHeartbeats 1000000 in
theorem way_r (d : Int) (w : World) : Calls Tryz.prog 43 #[.int .i64 d] w fun e w' => e = .returned (.bool (dirB d)) ∧ w = w' := by
  by_cases h1 : d = 1
  · subst h1
    go_enter Tryz.func43, Tryz.ntmps43
    go_wp2_with fail
    go_ret
    exact ⟨rfl, rfl⟩
  · have d1 : (d == 1) = false := beq_false_of_ne h1
    have hr : Hid (dirB d = (d == -1)) := Lib.hid (by unfold dirB; rw [d1, Bool.false_or])
    clear h1
    go_enter Tryz.func43, Tryz.ntmps43
    go_wp2_with fail
    go_ret
    exact ⟨by rw [hr.out] <;> rfl, rfl⟩
end Go.Proofs.YtlpdjinhkmgbgaaGreatDoor

namespace Go.Proofs.YtlpdjinhkmgbgaaGreatDoor
set_option linter.unusedVariables false
set_option linter.unusedSimpArgs false
open Go.RowKit

set_option maxRecDepth 100000 in
set_option maxHeartbeats 2000000 in
theorem told_r (L : Int) (a : Option Addr) (js : List Int) (ca : Nat) (aa : Option Addr) (l : List Sgn) (cl : Nat) (h dir tp : Int) (hL1 : 0 ≤ L) (hL2 : L ≤ 100000) (hJ : ∀ j, j < js.length → 0 ≤ gi js j ∧ gi js j ≤ 100000) (hC : ∀ j, j < l.length → (0 ≤ (gs l j).c ∧ (gs l j).c ≤ 100000) ∧ 0 ≤ (gs l j).v ∧ (gs l j).v ≤ 100000) (hn : l.length ≤ 1000) (w : World) (hI : IntsS w a js) (hA : SgnS w aa l) :
    Calls Tryz.prog 29 #[.agg #[.int .i64 L, .slice a js.length ca], .slice aa l.length cl, .int .i64 h, .agg #[.int .i64 tp, .int .i64 dir]] w (ToldE L a js ca dir tp h l w) := by
  have HR := Lib.hid (fun W (hW : Below w.heap.size w W) => (rowOf_r L a js ca aa l cl h dir hL1 hL2 hJ (fun j hj => by have := hC j hj; omega) hn W (hI.below hW) (hA.below hW)).mono fun e w' H => rowF_of hL1 hL2 hJ hC H)
  have HLB := Lib.hid (And.intro hL1 hL2)
  obtain ⟨n0, hi, hz0, hz1, hz2⟩ := info_parts infoInt
  clear hI hA hJ hC
  go_enter Tryz.func29, Tryz.ntmps29
  go_wp2_with fail
  obtain ⟨wB, hwB⟩ : ∃ wB, ((w.alloc (.cells #[.int .i64 L, .slice a js.length ca] 24)).alloc (.cells #[.int .i64 tp, .int .i64 dir] 73)).alloc (.cells #[.nilFunc, .slice none 0 0] 77) = wB := ⟨_, rfl⟩
  have hb : Below w.heap.size w wB := by rw [← hwB]; exact (((Below.refl _ _).alloc (Nat.le_refl _) _).alloc (by simp) _).alloc (by simp; omega) _
  have hsz : w.heap.size + 2 < wB.heap.size := by rw [← hwB]; simp
  have l0 : wB.cell? ⟨w.heap.size, 0, none⟩ = some (.int .i64 L) := by rw [← hwB]; simp [go_sem]
  have l1 : wB.cell? ⟨w.heap.size, 1, none⟩ = some (.slice a js.length ca) := by rw [← hwB]; simp [go_sem]
  have y0 : wB.cell? ⟨w.heap.size + 1, 0, none⟩ = some (.int .i64 tp) := by rw [← hwB]; simp [go_sem]
  have y1 : wB.cell? ⟨w.heap.size + 1, 1, none⟩ = some (.int .i64 dir) := by rw [← hwB]; simp [go_sem]
  have r0 : wB.cell? ⟨w.heap.size + 1 + 1, 0, none⟩ = some .nilFunc := by rw [← hwB]; simp [go_sem]
  have r1 : wB.cell? ⟨w.heap.size + 1 + 1, 1, none⟩ = some (.slice none 0 0) := by rw [← hwB]; simp [go_sem]
  have fr : wB.frozen? ⟨w.heap.size + 1 + 1, 0, none⟩ = false ∧ wB.frozen? ⟨w.heap.size + 1 + 1, 1, none⟩ = false := by rw [← hwB]; simp [go_sem]
  have HFR := Lib.hid fr
  have hrh : wB.heap[w.heap.size + 1 + 1]? = some (.cells #[.nilFunc, .slice none 0 0] 77) := by rw [← hwB]; have := heap_alloc_new ((w.alloc (.cells #[.int .i64 L, .slice a js.length ca] 24)).alloc (.cells #[.int .i64 tp, .int .i64 dir] 73)) (.cells #[.nilFunc, .slice none 0 0] 77); simpa using this
  have HRH := Lib.hid hrh
  clear hrh
  rw [hwB]
  clear hwB fr
  refine (HR.out _ hb).mono ?_
  rintro E w1 ⟨row, ar, cr, hRL, hrl, hbd, rfl, hPS, hb1⟩
  replace l0 := cell_below l0 hb1
  replace l1 := cell_below l1 hb1
  replace y0 := cell_below y0 hb1
  replace y1 := cell_below y1 hb1
  replace r0 := cell_below r0 hb1
  replace r1 := cell_below r1 hb1
  have f0 := (hb1.frozen (p := ⟨w.heap.size + 1 + 1, 0, none⟩) (by simp; omega)).trans HFR.out.1
  have f1 := (hb1.frozen (p := ⟨w.heap.size + 1 + 1, 1, none⟩) (by simp; omega)).trans HFR.out.2
  have hs1 := hb1.size
  have hw1 := hb.trans (hb1.mono hb.size)
  have HRL := Lib.hid hRL
  have HBd := Lib.hid hbd
  have HPS := Lib.hid hPS
  have hbB1 := Lib.hid hb1
  clear hRL hbd hPS hb1 HFR HR
  have hz4 : w.heap.size < w1.heap.size := block_lt l0
  go_upto_region 2 with (fail)
  obtain ⟨wX, hwX⟩ : ∃ wX, w1.alloc (.cells #[.slice ar row.length cr] 99) = wX := ⟨_, rfl⟩
  have hbX : Below w1.heap.size w1 wX := by rw [← hwX]; exact (Below.refl _ _).alloc (Nat.le_refl _) _
  have q0 : wX.cell? ⟨w1.heap.size, 0, none⟩ = some (.slice ar row.length cr) := by rw [← hwX]; simp [go_sem]
  rw [hwX]
  clear hwX
  replace l0 := cell_below l0 hbX
  replace l1 := cell_below l1 hbX
  replace y0 := cell_below y0 hbX
  replace y1 := cell_below y1 hbX
  have HR0 := Lib.hid (cell_below r0 hbX)
  have HR1 := Lib.hid (cell_below r1 hbX)
  replace f0 := (hbX.frozen (p := ⟨w.heap.size + 1 + 1, 0, none⟩) (by simp; omega)).trans f0
  replace f1 := (hbX.frozen (p := ⟨w.heap.size + 1 + 1, 1, none⟩) (by simp; omega)).trans f1
  have HF01 := Lib.hid (And.intro f0 f1)
  have HPX := Lib.hid (HPS.out.below hbX)
  have hwX := hw1.trans (hbX.mono hw1.size)
  have hsX := hbX.size
  have hbX1 := Lib.hid hbX
  clear r0 r1 f0 f1 HPS hbX
  have hzq := block_lt q0
  have HY0 := Lib.hid y0
  have HL0 := Lib.hid l0
  have HL1 := Lib.hid l1
  have HY1 := Lib.hid y1
  have HQ0 := Lib.hid q0
  have hown0 : Hid ((wX.alloc (.cells #[.int .i64 0, .int .i64 L] 3)).ownsRow wX.heap.size 3 1 (.slice (some ⟨wX.heap.size, 0, none⟩) (cutsK L dir row 0).length 2) (cutsK L dir row 0).length (clI (cutsK L dir row 0))) := Lib.hid (by
    exact ⟨rfl, .inr ⟨wX.heap.size, 2, #[.int .i64 0, .int .i64 L], rfl, Nat.le_refl _, heap_alloc_new _ _, Nat.le_refl 2, by decide, rfl, rfl⟩⟩)
  clear y0
  obtain ⟨-, pb, po, pad, pcp, hpa, hpc⟩ := HPX.out
  have HPC := Lib.hid hpc
  have HPA : Hid (0 < row.length → ar = some ⟨pb, po, none⟩) := Lib.hid fun h => hpa (List.ne_nil_of_length_pos h)
  clear hpa hpc
  go_wp2_with fail
  have hbX0 : Below wX.heap.size wX (wX.alloc (.cells #[.int .i64 0, .int .i64 L] 3)) := (Below.refl _ _).alloc (Nat.le_refl _) _
  have HBX0 := Lib.hid hbX0
  clear hbX0
  have hlen2 := cutsK_len L dir row
  have HLen2 := Lib.hid hlen2
  clear hlen2 l0 l1 y1
  go_loopw [10, 24] (fun q i9 wr => ∃ k : Nat, k ≤ row.length ∧ i9 = .int .i64 k ∧ (∃ a c, q = .slice a (cutsK L dir row k).length c) ∧ Hid (wr.ownsRow wX.heap.size 3 1 q (cutsK L dir row k).length (clI (cutsK L dir row k))) ∧ Below wX.heap.size wX wr) (fun _ i9 _ => row.length - (intOf i9).toNat)
  case atStart => exact ⟨0, Nat.zero_le _, rfl, ⟨_, _, rfl⟩, hown0, HBX0.out⟩
  case round =>
    clear hown0
    obtain ⟨k, hk, rfl, ⟨av, cv, rfl⟩, HRow, hbr⟩ := hrel
    have l0 := cell_below HL0.out hbr
    have l1 := cell_below HL1.out hbr
    have y1 := cell_below HY1.out hbr
    have hz4 : w.heap.size < wX.heap.size := block_lt HL0.out
    have hz7 : w.heap.size + 1 < wX.heap.size := block_lt HY1.out
    by_cases hlt : k < row.length
    · obtain rfl := HPA.out (by omega)
      obtain ⟨⟨⟨c0, c1, c2, c3, c4, c5, c6, c7⟩, c8, c9, c10, c11⟩, -⟩ := HPC.out k hlt
      have c0 := cell_below c0 hbr
      have c1 := cell_below c1 hbr
      have c2 := cell_below c2 hbr
      have c3 := cell_below c3 hbr
      have c4 := cell_below c4 hbr
      have c5 := cell_below c5 hbr
      have c6 := cell_below c6 hbr
      have c7 := cell_below c7 hbr
      have c8 := cell_below c8 hbr
      have c9 := cell_below c9 hbr
      have c10 := cell_below c10 hbr
      have c11 := cell_below c11 hbr
      have hbk := HBd.out (gq row k) (by unfold gq; rw [List.getD_eq_getElem?_getD, List.getElem?_eq_getElem hlt]; exact List.getElem_mem hlt)
      have hll := HLen2.out k
      have HPair : Hid (clI (cutsK L dir row (k + 1)) = clI (cutsK L dir row k) ++ [.int .i64 (dstK L dir (gq row k).d), .int .i64 (dstK L dir (gq row k).u)] ∧ (cutsK L dir row (k + 1)).length = (cutsK L dir row k).length + 2) := Lib.hid ⟨cutsK_pair L dir row k, by rw [HLen2.out, HLen2.out]; omega⟩
      have HD1 := Lib.hid (fun W => distance_r L a js.length ca dir (gq row k).d HLB.out.1 HLB.out.2 (by omega) (by omega) W)
      have HD2 := Lib.hid (fun W => distance_r L a js.length ca dir (gq row k).u HLB.out.1 HLB.out.2 (by omega) (by omega) W)
      have hsr := hbr.size
      have HNe : Hid (some wr.heap.size ≠ (Value.slice av (cutsK L dir row k).length cv).ownBlock) := Lib.hid fun e => by
        have := (World.ownsRow.lt HRow.out _ e.symm).2
        omega
      have hcl : (cutsK L dir row k).length ≤ 10000 := by omega
      clear HPC HPA hbk hll
      generalize pad k = adk at *
      generalize pcp k = cpk at *
      obtain ⟨x, hx⟩ : ∃ x, gq row k = x := ⟨_, rfl⟩
      rw [hx] at HPair HD1 HD2 c0 c1 c2 c3 c4 c5 c6 c7 c8 c9 c10 c11
      clear hx
      obtain ⟨D, hD⟩ : ∃ D, x.d = D := ⟨_, rfl⟩
      obtain ⟨U, hU⟩ : ∃ U, x.u = U := ⟨_, rfl⟩
      rw [hD] at HPair HD1 c9
      rw [hU] at HPair HD2 c10
      clear hD hU
      obtain ⟨CQ, hCQ⟩ : ∃ CQ, cutsK L dir row k = CQ := ⟨_, rfl⟩
      rw [hCQ] at HRow HNe HPair hcl ⊢
      clear hCQ
      go_upto_region 6 with (fail)
      obtain ⟨ws, hws⟩ : ∃ ws, wr.alloc (.cells #[.int .i64 x.s.n, .int .i64 x.s.k, .int .i64 x.s.v, .int .i64 x.s.c, .int .i64 x.s.d, .int .i64 x.s.rk, .int .i64 x.s.up, .int .i64 x.s.dn, .slice adk x.s.cv.length cpk, .int .i64 D, .int .i64 U, .bool x.b] 124) = ws := ⟨_, rfl⟩
      have hbs0 : Below wr.heap.size wr ws := by rw [← hws]; exact (Below.refl _ _).alloc (Nat.le_refl _) _
      have x9 : ws.cell? ⟨wr.heap.size, 9, none⟩ = some (.int .i64 D) := by rw [← hws]; simp [go_sem]
      have x10 : ws.cell? ⟨wr.heap.size, 10, none⟩ = some (.int .i64 U) := by rw [← hws]; simp [go_sem]
      rw [hws]
      clear hws
      have HRow := Lib.hid (owns_belowI HRow.out hbs0)
      have hbs : Below wX.heap.size wX ws := hbr.trans (hbs0.mono hsr)
      replace l0 := cell_below l0 hbs0
      replace l1 := cell_below l1 hbs0
      replace y1 := cell_below y1 hbs0
      have hss := hbs0.size
      have hzp := block_lt x9
      have hsX2 := hbs.size
      clear c0 c1 c2 c3 c4 c5 c6 c7 c8 c9 c10 c11 hbr hbs0
      refine wp_region_held_drew (S := fun w' => Below wX.heap.size ws w' ∧ w'.heap[wr.heap.size]? = ws.heap[wr.heap.size]?) (by kernel_rfl) ⟨(Below.refl _ _).drew, rfl⟩ (fun hHeld => ?_)
      refine takeU (i := 0) (some 28) (.slice av CQ.length cv) (by kernel_rfl) (by kernel_rfl) (by kernel_rfl) (by kernel_rfl) (by kernel_rfl) (fun _ => by kernel_rfl) (fun _ _ _ h => h) hHeld ?_
      refine wpAnyH_take (i := 1) (oi := { dst := some 29, op := Go.Op.load 24 (Go.Operand.tmp 4), type := 24, pos := "hold.go:109", after := #[], guard := none }) (v := .agg #[.int .i64 L, .slice a js.length ca]) rfl (by kernel_rfl) (by kernel_rfl) (by kernel_rfl) (fun _ _ _ h => h) (.inl ⟨by kernel_rfl, fun w9 h9 => by
        clear hHeld
        have d0 := (h9.1.cell (p := ⟨w.heap.size, 0, none⟩) hz4).trans l0
        have d1 := (h9.1.cell (p := ⟨w.heap.size, 1, none⟩) hz4).trans l1
        clear h9
        go_simp⟩) hHeld ?_
      refine takeU (i := 2) (some 30) (.pointer (some ⟨w.heap.size + 1, 1, none⟩)) (by kernel_rfl) (by kernel_rfl) (by kernel_rfl) (by kernel_rfl) (by kernel_rfl) (fun _ => by kernel_rfl) (fun _ _ _ h => h) hHeld ?_
      refine wpAnyH_take (i := 3) (oi := { dst := some 31, op := Go.Op.load 3 (Go.Operand.tmp 30), type := 3, pos := "hold.go:109", after := #[{ on := 2, ground := Go.Ground.data }], guard := none }) (v := .int .i64 dir) rfl (by kernel_rfl) (by kernel_rfl) (by kernel_rfl) (fun _ _ _ h => h) (.inl ⟨by kernel_rfl, fun w9 h9 => by
        clear hHeld
        have d0 := (h9.1.cell (p := ⟨w.heap.size + 1, 1, none⟩) hz7).trans y1
        clear h9
        go_simp⟩) hHeld ?_
      refine takeU (i := 4) (some 32) (.pointer (some ⟨wr.heap.size, 9, none⟩)) (by kernel_rfl) (by kernel_rfl) (by kernel_rfl) (by kernel_rfl) (by kernel_rfl) (fun _ => by kernel_rfl) (fun _ _ _ h => h) hHeld ?_
      refine wpAnyH_take (i := 5) (oi := { dst := some 33, op := Go.Op.load 3 (Go.Operand.tmp 32), type := 3, pos := "hold.go:109", after := #[{ on := 4, ground := Go.Ground.data }], guard := none }) (v := .int .i64 D) rfl (by kernel_rfl) (by kernel_rfl) (by kernel_rfl) (fun _ _ _ h => h) (.inl ⟨by kernel_rfl, fun w9 h9 => by
        clear hHeld
        have d0 := (World.cell?_of_block (w := ws) (w' := w9) (a := ⟨wr.heap.size, 9, none⟩) h9.2).trans x9
        clear h9
        go_simp⟩) hHeld ?_
      refine wpAnyH_take (i := 7) (oi := { dst := some 35, op := Go.Op.load 24 (Go.Operand.tmp 4), type := 24, pos := "hold.go:109", after := #[], guard := none }) (v := .agg #[.int .i64 L, .slice a js.length ca]) rfl (by kernel_rfl) (by kernel_rfl) (by kernel_rfl) (fun _ _ _ h => h) (.inl ⟨by kernel_rfl, fun w9 h9 => by
        clear hHeld
        have d0 := (h9.1.cell (p := ⟨w.heap.size, 0, none⟩) hz4).trans l0
        have d1 := (h9.1.cell (p := ⟨w.heap.size, 1, none⟩) hz4).trans l1
        clear h9
        go_simp⟩) hHeld ?_
      refine takeU (i := 8) (some 36) (.pointer (some ⟨w.heap.size + 1, 1, none⟩)) (by kernel_rfl) (by kernel_rfl) (by kernel_rfl) (by kernel_rfl) (by kernel_rfl) (fun _ => by kernel_rfl) (fun _ _ _ h => h) hHeld ?_
      refine wpAnyH_take (i := 9) (oi := { dst := some 37, op := Go.Op.load 3 (Go.Operand.tmp 36), type := 3, pos := "hold.go:109", after := #[{ on := 8, ground := Go.Ground.data }], guard := none }) (v := .int .i64 dir) rfl (by kernel_rfl) (by kernel_rfl) (by kernel_rfl) (fun _ _ _ h => h) (.inl ⟨by kernel_rfl, fun w9 h9 => by
        clear hHeld
        have d0 := (h9.1.cell (p := ⟨w.heap.size + 1, 1, none⟩) hz7).trans y1
        clear h9
        go_simp⟩) hHeld ?_
      refine takeU (i := 10) (some 38) (.pointer (some ⟨wr.heap.size, 10, none⟩)) (by kernel_rfl) (by kernel_rfl) (by kernel_rfl) (by kernel_rfl) (by kernel_rfl) (fun _ => by kernel_rfl) (fun _ _ _ h => h) hHeld ?_
      refine wpAnyH_take (i := 11) (oi := { dst := some 39, op := Go.Op.load 3 (Go.Operand.tmp 38), type := 3, pos := "hold.go:109", after := #[{ on := 10, ground := Go.Ground.data }], guard := none }) (v := .int .i64 U) rfl (by kernel_rfl) (by kernel_rfl) (by kernel_rfl) (fun _ _ _ h => h) (.inl ⟨by kernel_rfl, fun w9 h9 => by
        clear hHeld
        have d0 := (World.cell?_of_block (w := ws) (w' := w9) (a := ⟨wr.heap.size, 10, none⟩) h9.2).trans x10
        clear h9
        go_simp⟩) hHeld ?_
      try simp only [Act.put, List.setIfInBounds_toArray, List.set_cons_zero, List.set_cons_succ]
      refine wpAnyH_ready (rs := [6]) (by kernel_rfl) (by simp) ?_
      refine AllReadyH.cons (o := { dst := some 34, op := Go.Op.call { callee := Go.Callee.value (Go.Operand.func 70), args := #[Go.Operand.tmp 29, Go.Operand.tmp 31, Go.Operand.tmp 33], argTypes := #[24, 3, 3] }, type := 3, pos := "hold.go:109", after := #[{ on := 1, ground := Go.Ground.data }, { on := 3, ground := Go.Ground.data }, { on := 5, ground := Go.Ground.data }], guard := none }) rfl (fun K hK => ?_) AllReadyH.nil
      go_simp
      go_at_call 70
      refine (HD1.out _).mono ?_
      rintro e w6 ⟨rfl, hb6⟩
      have hw6 : Below ws.heap.size ws w6 := ((Below.refl ws.heap.size ws).drew).trans (hb6.mono ((Below.refl ws.heap.size ws).drew).size)
      have hs6 := hw6.size
      refine hK.out _ _ ⟨hHeld.1.trans (hb6.mono (by have := hHeld.1.size; omega)), (hb6.block wr.heap.size (by have := hHeld.1.size; omega)).trans hHeld.2⟩ (fun hHeld => ?_)
      clear hK K hb6
      try simp only [Act.put, List.setIfInBounds_toArray, List.set_cons_zero, List.set_cons_succ]
      refine wpAnyH_ready (rs := [12]) (by kernel_rfl) (by simp) ?_
      refine AllReadyH.cons (o := { dst := some 40, op := Go.Op.call { callee := Go.Callee.value (Go.Operand.func 70), args := #[Go.Operand.tmp 35, Go.Operand.tmp 37, Go.Operand.tmp 39], argTypes := #[24, 3, 3] }, type := 3, pos := "hold.go:109", after := #[{ on := 7, ground := Go.Ground.data }, { on := 9, ground := Go.Ground.data }, { on := 11, ground := Go.Ground.data }, { on := 6, ground := Go.Ground.chain }], guard := none }) rfl (fun K hK => ?_) AllReadyH.nil
      go_simp
      go_at_call 70
      refine (HD2.out _).mono ?_
      rintro e w12 ⟨rfl, hb12⟩
      have hw12 : Below ws.heap.size ws w12 := (hw6).trans (hb12.mono (hw6).size)
      have hs12 := hw12.size
      refine hK.out _ _ ⟨hHeld.1.trans (hb12.mono (by have := hHeld.1.size; omega)), (hb12.block wr.heap.size (by have := hHeld.1.size; omega)).trans hHeld.2⟩ (fun hHeld => ?_)
      clear hK K hb12
      try simp only [Act.put, List.setIfInBounds_toArray, List.set_cons_zero, List.set_cons_succ]
      refine wpAnyH_ready (rs := [13]) (by kernel_rfl) (by simp) ?_
      refine AllReadyH.cons (o := { dst := some 41, op := Go.Op.buildSlice 22 2 #[(0, Go.Operand.tmp 34), (1, Go.Operand.tmp 40)], type := 22, pos := "hold.go:109", after := #[{ on := 6, ground := Go.Ground.data }, { on := 12, ground := Go.Ground.data }], guard := none }) rfl (fun K hK => ?_) AllReadyH.nil
      go_simp
      refine hK.out _ _ ⟨hHeld.1.alloc (by omega) _, (Below.heap_alloc _ _ _ (by omega)).trans hHeld.2⟩ (fun hHeld => ?_)
      clear hK K
      refine wpAnyH_ready (rs := [14]) (by kernel_rfl) (by simp) ?_
      refine AllReadyH.cons (o := { dst := some 42, op := Go.Op.call { callee := Go.Callee.builtin Go.Builtin.append, args := #[Go.Operand.tmp 28, Go.Operand.tmp 41], argTypes := #[22, 22] }, type := 22, pos := "hold.go:109", after := #[{ on := 0, ground := Go.Ground.data }, { on := 13, ground := Go.Ground.data }, { on := 12, ground := Go.Ground.chain }], guard := none }) rfl (fun K hK => ?_) AllReadyH.nil
      refine step_append_lies _ (by rfl) _ _ _ (by rfl) wX.heap.size 3 n0 _ 1 8 Tryz.underlying22 hi hz0 hz1 hz2 rfl (by decide) (.slice av CQ.length cv) CQ.length _ (by rfl) (owns_belowI HRow.out (hw12.alloc hs12 _)) ⟨w12.heap.size, 0, none⟩ 2 2 [.int .i64 (dstK L dir D), .int .i64 (dstK L dir U)] (by rfl) (by rfl) (World.news_of_block (w := w12.alloc (.cells #[.int .i64 (dstK L dir D), .int .i64 (dstK L dir U)] 3)) (B := w12.heap.size) (cs := #[.int .i64 (dstK L dir D), .int .i64 (dstK L dir U)]) (t := 3) (fr := (0, 0)) (heap_alloc_new _ _)) (by simp [Value.oneCell']) (by decide) (by unfold maxLen; omega) (by omega) (by simp; omega) _ rfl ?_
      intro g6 c6 w6 hown6 hgrow6 hat6 hlt6
      refine hK.out _ _ ⟨hHeld.1.grown hgrow6 (by simp; omega) (fun z hz => owns_blockI HRow.out hz), (hgrow6.block wr.heap.size (by simp; omega) HNe.out).trans hHeld.2⟩ (fun hHeld => ?_)
      have hb6 : Below wX.heap.size wX w6 := hbs.trans hHeld.1
      have hown6 := Lib.hid hown6
      clear hK K hgrow6 hat6 hlt6
      try simp only [Act.put, List.setIfInBounds_toArray, List.set_cons_zero, List.set_cons_succ]
      refine takeU (i := 15) (some 10) (.slice (some ⟨g6, 0, none⟩) (CQ.length + 2) c6) (by kernel_rfl) (by kernel_rfl) (by kernel_rfl) (by kernel_rfl) (by kernel_rfl) (fun _ => by kernel_rfl) (fun _ _ _ h => h) hHeld ?_
      refine wpAnyH_done (by kernel_rfl) ?_ _
      try simp only [Act.put, List.setIfInBounds_toArray, List.set_cons_zero, List.set_cons_succ]
      go_wp2_with fail
      go_roundw
      case rel => exact ⟨k + 1, by omega, by go_num, ⟨some ⟨g6, 0, none⟩, c6, by rw [HPair.out.2]⟩, Lib.hid (by rw [HPair.out.1, HPair.out.2]; exact hown6.out), hb6⟩
      case measure => simp [intOf]; omega
    · obtain rfl : k = row.length := by omega
      have hbw := hwX.trans (hbr.mono hwX.size)
      have r0 := cell_below HR0.out hbr
      have r1 := cell_below HR1.out hbr
      have f0 := (hbr.frozen (p := ⟨w.heap.size + 1 + 1, 0, none⟩) (block_lt HR0.out)).trans HF01.out.1
      have f1 := (hbr.frozen (p := ⟨w.heap.size + 1 + 1, 1, none⟩) (block_lt HR1.out)).trans HF01.out.2
      have HRW : Hid (wr.heap[w.heap.size + 1 + 1]? = some (.cells #[.nilFunc, .slice none 0 0] 77)) := Lib.hid ((((hbB1.out.trans (hbX1.out.mono hbB1.out.size)).trans (hbr.mono (by have := hbB1.out.size; have := hbX1.out.size; omega))).block _ (by omega)).trans HRH.out)
      have HPr := Lib.hid (HPX.out.below hbr)
      have q0 := cell_below HQ0.out hbr
      have y0 := cell_below HY0.out hbr
      have HFar : Hid (∀ v0 v1 b, b ≠ w.heap.size + 1 + 1 → ((wr.setCell ⟨w.heap.size + 1 + 1, 0, none⟩ v0).setCell ⟨w.heap.size + 1 + 1, 1, none⟩ v1).heap[b]? = wr.heap[b]?) := Lib.hid fun v0 v1 b hb => (Below.heap_setCell _ _ _ _ (by simpa using hb)).trans (Below.heap_setCell _ _ _ _ (by simpa using hb))
      have HBf : Hid (∀ v0 v1, Below w.heap.size w ((wr.setCell ⟨w.heap.size + 1 + 1, 0, none⟩ v0).setCell ⟨w.heap.size + 1 + 1, 1, none⟩ v1)) := Lib.hid fun v0 v1 => (hbw.setCell (p := ⟨w.heap.size + 1 + 1, 0, none⟩) (by simp; omega) _).setCell (p := ⟨w.heap.size + 1 + 1, 1, none⟩) (by simp; omega) _
      have Q0 := Lib.hid q0
      have Y0 := Lib.hid y0
      have L0 := Lib.hid l0
      have L1 := Lib.hid l1
      have Y1 := Lib.hid y1
      have hlc := HLen2.out row.length
      have HLc := Lib.hid hlc
      have hsr := hbr.size
      clear q0 y0 hbr hbw hlc l0 l1 y1
      go_wp2_with fail
      refine bodyPost_ret (v := .agg #[.func (.func 71) #[] #[.pointer (some ⟨w1.heap.size, 0, none⟩), .pointer (some ⟨w.heap.size + 1, 0, none⟩), .pointer (some ⟨w.heap.size, 0, none⟩)], .slice av (cutsK L dir row row.length).length cv]) (by simp [results, Tryz.results29, go_sem, r0, r1]) rfl ?_
      have tr : ∀ v0 v1 b o v, b ≠ w.heap.size + 1 + 1 → wr.cell? ⟨b, o, none⟩ = some v → ((wr.setCell ⟨w.heap.size + 1 + 1, 0, none⟩ v0).setCell ⟨w.heap.size + 1 + 1, 1, none⟩ v1).cell? ⟨b, o, none⟩ = some v := fun v0 v1 b o v hb hc => (World.cell?_of_block (w := wr) (a := ⟨b, o, none⟩) (HFar.out v0 v1 b hb)).trans hc
      refine ⟨row, ar, cr, w1.heap.size, w.heap.size + 1, w.heap.size, av, cv, HRL.out, hrl, pst_far HPr.out (fun b o k n hc => HFar.out _ _ b (cell_neF HRW.out hc)), tr _ _ _ _ _ (by omega) Q0.out, tr _ _ _ _ _ (by omega) Y0.out, tr _ _ _ _ _ (by omega) Y1.out, tr _ _ _ _ _ (by omega) L0.out, tr _ _ _ _ _ (by omega) L1.out, rfl, ?_, cutsK_bd HLB.out.1 HLB.out.2 HBd.out row.length (Nat.le_refl _), HBf.out _ _⟩
      have hcb := cutsK_bd HLB.out.1 HLB.out.2 HBd.out (dir := dir) row.length (Nat.le_refl _)
      refine ⟨by rw [HLc.out]; omega, fun i hi => ?_, ?_⟩
      · have := hcb (gi (cutsK L dir row row.length) i) (by unfold gi; rw [List.getD_eq_getElem?_getD, List.getElem?_eq_getElem hi]; exact List.getElem_mem hi)
        unfold I64
        omega
      · rcases HRow.out.2 with ⟨h1, h2⟩ | ⟨g2, c2, cur, h1, hg2, hb2, _⟩
        · exact absurd h2 (by rw [HLc.out]; omega)
        · obtain ⟨rfl, rfl⟩ : av = some ⟨g2, 0, none⟩ ∧ cv = c2 := by simpa using h1
          refine ⟨g2, 0, fun _ => rfl, fun i hi => ?_⟩
          rw [Nat.zero_add]
          refine tr _ _ _ _ _ (by omega) ?_
          rw [World.ownsRow.cellAt HRow.out i (by omega)]; exact clI_get _ hi
end Go.Proofs.YtlpdjinhkmgbgaaGreatDoor

namespace Go.Proofs.YtlpdjinhkmgbgaaGreatDoor
set_option linter.unusedVariables false
set_option linter.unusedSimpArgs false
open Go.RowKit

/-- What a line with signs holds along its way. -/
def hldM (L dir tp : Int) (row : List Pst) : List Tri := heldL (prtK (ascL (cutsK L dir row row.length)) (fun m => hldL tp (begK L dir m) row 0) (ascL (cutsK L dir row row.length)).length)
/-- Held returns. -/
def HeldE (L : Int) (js : List Int) (dir tp h : Int) (l : List Sgn) (w : World) (e : Ending) (w' : World) : Prop :=
  ∃ (row : List Pst) (b : Option Addr) (c : Nat), RowL L js dir h l row ∧ e = .returned (.tuple #[.slice b (hldM L dir tp row).length c, .int .i64 0]) ∧ w'.ownsRow w.heap.size 70 3 (.slice b (hldM L dir tp row).length c) (hldM L dir tp row).length (cl3 (hldM L dir tp row)) ∧ Below w.heap.size w w'
theorem btw_ge {n a b : Int} (h : btw n a b = true) : a ≤ n ∧ n ≤ b := by simpa [btw] using h
theorem val_bd {k v : Int} (h : valB k v = true) : 0 ≤ v ∧ v ≤ 100000 := by
  unfold valB at h
  split at h
  · have := btw_ge h; omega
  · split at h
    · have := eq_of_beq h; omega
    · split at h
      · have := btw_ge h; omega
      · split at h
        · have := btw_ge h; omega
        · cases h
/-- What good lists say of their numbers. -/
theorem lst_good {L : Int} {js : List Int} {l : List Sgn} {q : List Edc} (h : lstE L js l q = 0) : (0 ≤ L ∧ L ≤ 100000) ∧ (∀ j, j < js.length → 0 ≤ gi js j ∧ gi js j ≤ 100000) ∧ (∀ j, j < l.length → (0 ≤ (gs l j).c ∧ (gs l j).c ≤ 100000) ∧ 0 ≤ (gs l j).v ∧ (gs l j).v ≤ 100000) ∧ l.length ≤ 1000 := by
  unfold lstE at h
  split at h
  · cases h
  next h1 =>
  split at h
  · cases h
  next h2 =>
  have h1 : lineB L js = true := by simpa using h1
  have h2 : sgnsB L js l = true := by simpa using h2
  have g := h1
  unfold lineB at g
  simp only [Bool.and_eq_true, decide_eq_true_eq, Bool.not_eq_true'] at g
  have hL := btw_ge g.1.1
  have hJ := (anyK_iff _).1 g.2
  have hj : ∀ j, j < js.length → jOk L js j = true := fun j hj => by simpa using hJ j hj
  unfold sgnsB at h2
  simp only [Bool.and_eq_true, decide_eq_true_eq] at h2
  have hA := h2.1.2
  unfold allB at hA
  simp only [Bool.not_eq_true'] at hA
  have hS := (anyK_iff _).1 hA
  refine ⟨by omega, fun j hjl => ?_, fun j hjl => ?_, by omega⟩
  · have h0 := jOk_pos j (fun i hi => hj i (by omega))
    have h3 := hj j hjl
    unfold jOk at h3
    simp only [Bool.and_eq_true, decide_eq_true_eq] at h3
    omega
  · have h3 : sgnB L (gs l j) = true := by simpa using hS j hjl
    unfold sgnB at h3
    simp only [Bool.and_eq_true, decide_eq_true_eq] at h3
    have hc := btw_ge h3.1.1.1.1.1.2
    have hv := val_bd h3.1.1.1.1.1.1
    omega
theorem cuts_ne (L dir : Int) (row : List Pst) (k : Nat) : cutsK L dir row k ≠ [] := fun e => by
  have := cutsK_len L dir row k
  rw [e] at this
  simp at this
  omega
theorem ed_nil (w : World) : EdS w none [] := ⟨by decide, 0, 0, fun h => (h rfl).elim, fun i hi => absurd hi (Nat.not_lt_zero i)⟩
set_option maxRecDepth 100000 in
set_option maxHeartbeats 1000000 in
theorem Held_good (L : Int) (a : Option Addr) (js : List Int) (ca : Nat) (aa : Option Addr) (l : List Sgn) (cl : Nat) (h dir tp : Int) (hV : lstE L js l [] = 0) (hh : btw h 0 10000000 = true) (hd : dirB dir = true) (ht : topB tp = true) (w : World) (hI : IntsS w a js) (hA : SgnS w aa l) :
    Calls Tryz.prog 18 #[.agg #[.int .i64 L, .slice a js.length ca], .slice aa l.length cl, .int .i64 h, .int .i64 dir, .int .i64 tp] w (HeldE L js dir tp h l w) := by
  obtain ⟨⟨hL1, hL2⟩, hJ, hC, hn⟩ := lst_good hV
  have H1 := Lib.hid (fun W (hW : Below w.heap.size w W) => by
    have := listsError_r L a js ca aa l cl none [] 0 W (hI.below hW) (hA.below hW) (ed_nil W)
    rw [hV] at this
    exact this)
  have H2 := Lib.hid (fun W => hh ▸ isHour_r h W)
  have H3 := Lib.hid (fun W => hd ▸ isDir_r dir W)
  have H4 := Lib.hid (fun W => ht ▸ isTopic_r tp W)
  have H5 := Lib.hid (fun W (hW : Below w.heap.size w W) => told_r L a js ca aa l cl h dir tp hL1 hL2 hJ hC hn W (hI.below hW) (hA.below hW))
  have HF := Lib.hid (And.intro (And.intro hL1 hL2) hn)
  clear hI hA hV hh hd ht hJ hC hL1 hL2 hn
  go_enter Tryz.func18, Tryz.ntmps18
  go_wp2_with fail
  obtain ⟨wB, hwB⟩ : ∃ wB, w.alloc (.cells #[.int .i64 L, .slice a js.length ca] 24) = wB := ⟨_, rfl⟩
  have hb : Below w.heap.size w wB := by rw [← hwB]; exact (Below.refl _ _).alloc (Nat.le_refl _) _
  have l0 : wB.cell? ⟨w.heap.size, 0, none⟩ = some (.int .i64 L) := by rw [← hwB]; simp [go_sem]
  have l1 : wB.cell? ⟨w.heap.size, 1, none⟩ = some (.slice a js.length ca) := by rw [← hwB]; simp [go_sem]
  rw [hwB]
  clear hwB
  go_wp2_with (first | (go_at_call 27; refine (H1.out _ hb).mono ?_; rintro e w1 ⟨rfl, hb1⟩; have hbw := hb.trans (hb1.mono hb.size); replace l0 := cell_below l0 hb1; replace l1 := cell_below l1 hb1) | (go_at_call 28; refine (H2.out _).mono ?_; rintro e w2 ⟨rfl, rfl⟩) | (go_at_call 45; refine (H3.out _).mono ?_; rintro e w2 ⟨rfl, rfl⟩) | (go_at_call 46; refine (H4.out _).mono ?_; rintro e w2 ⟨rfl, rfl⟩) | (go_at_call 29; refine (H5.out _ hbw).mono ?_; rintro e w2 ⟨row, ar, cr, rb, wb, lb, aq, cq, hRL, hrl, hP, g1, g2, g3, g4, g5, rfl, hAq, hm, hb2⟩; have hbz := hbw.trans (hb2.mono hbw.size); have HG := Lib.hid (And.intro hRL hbz)) | (go_at_call 47; refine (heldT_r aq (cutsK L dir row row.length) cq #[.pointer (some ⟨rb, 0, none⟩), .pointer (some ⟨wb, 0, none⟩), .pointer (some ⟨lb, 0, none⟩)] (fun m => hldL tp (begK L dir m) row 0) w2 hAq (cuts_ne L dir row row.length) (by have := HF.out; rw [cutsK_len]; omega) (fun m W hm2 hW => told1_r L a js ca dir tp m row ar cr rb wb lb HF.out.1.1 HF.out.1.2 (hm m hm2).1 (hm m hm2).2 W (hP.below hW) (cell_below g1 hW) (cell_below g2 hW) (cell_below g3 hW) (cell_below g4 hW) (cell_below g5 hW))).mono ?_; rintro e w3 ⟨bb, cc, rfl, hown, hb3⟩; clear g1 g2 g3 g4 g5; have HOW := Lib.hid hown; clear hown))
  go_ret2
  exact ⟨row, bb, cc, HG.out.1, rfl, owns_baseI HOW.out HG.out.2.size, HG.out.2.trans (hb3.mono HG.out.2.size)⟩
end Go.Proofs.YtlpdjinhkmgbgaaGreatDoor

namespace Go.Proofs.YtlpdjinhkmgbgaaGreatDoor
set_option linter.unusedVariables false
set_option linter.unusedSimpArgs false
open Go.RowKit

theorem nil_nums : numB [] = true := by
  have e3 : srt ([] : List Int) = [] := by simp [srt]
  unfold numB
  rw [e3]
  decide
theorem edcs_nil (L : Int) (js : List Int) : edcsB L js [] = lineB L js := by
  have e2 : nosE [] ([] : List Edc).length = [] := rfl
  unfold edcsB
  rw [e2, nil_nums]
  cases lineB L js <;> rfl
theorem sgns_nil (L : Int) (js : List Int) : sgnsB L js [] = lineB L js := by
  have e2 : nosK [] ([] : List Sgn).length = [] := rfl
  unfold sgnsB
  rw [e2, nil_nums]
  cases lineB L js <;> rfl
theorem sgns_line {L : Int} {js : List Int} {l : List Sgn} (h : sgnsB L js l = true) : lineB L js = true := by
  unfold sgnsB at h
  simp only [Bool.and_eq_true] at h
  exact h.1.1.1
theorem edcs_line {L : Int} {js : List Int} {l : List Edc} (h : edcsB L js l = true) : lineB L js = true := by
  unfold edcsB at h
  simp only [Bool.and_eq_true] at h
  exact h.1.1.1
/-- Signs alone. -/
theorem lst_s (L : Int) (js : List Int) (l : List Sgn) (e b3 r : Bool) : (lstE L js l [] ≠ 0 → whyK (lineB L js) true (sgnsB L js l) false b3 r = lstE L js l []) ∧ (lstE L js l [] = 0 → whyK (lineB L js) true (sgnsB L js l) false b3 r = if r = false then 2 else 0) := by
  unfold lstE whyK
  rw [edcs_nil]
  cases lineB L js <;> cases sgnsB L js l <;> cases r <;> cases b3 <;> decide
/-- Edicts alone. -/
theorem lst_e (L : Int) (js : List Int) (q : List Edc) (b2 r : Bool) : (lstE L js [] q ≠ 0 → whyK (lineB L js) false b2 true (edcsB L js q) r = lstE L js [] q) ∧ (lstE L js [] q = 0 → whyK (lineB L js) false b2 true (edcsB L js q) r = if r = false then 2 else 0) := by
  unfold lstE whyK
  rw [sgns_nil]
  cases lineB L js <;> cases edcsB L js q <;> cases r <;> cases b2 <;> decide
/-- Both. -/
theorem lst_se (L : Int) (js : List Int) (l : List Sgn) (q : List Edc) (r : Bool) : (lstE L js l q ≠ 0 → whyK (lineB L js) true (sgnsB L js l) true (edcsB L js q) r = lstE L js l q) ∧ (lstE L js l q = 0 → whyK (lineB L js) true (sgnsB L js l) true (edcsB L js q) r = if r = false then 2 else 0) := by
  unfold lstE whyK
  cases lineB L js <;> cases sgnsB L js l <;> cases edcsB L js q <;> cases r <;> decide
/-- The numbers of good signs. -/
theorem sgn_nums {L : Int} {js : List Int} {l : List Sgn} (h : sgnsB L js l = true) : (∀ k, k < l.length → 1 ≤ (gs l k).n ∧ (gs l k).n ≤ 1000000000) ∧ ∀ i j, i < j → j < l.length → (gs l i).n ≠ (gs l j).n := by
  unfold sgnsB at h
  simp only [Bool.and_eq_true] at h
  obtain ⟨h1, h2⟩ := (num_iff _).1 h.2
  have hl : (nosK l l.length).length = l.length := by exact nosK_len _ (Nat.le_refl _)
  refine ⟨fun k hk => ?_, fun i j hij hj e => ?_⟩
  · rw [← s_num l hk]
    refine h1 _ ?_
    rw [gi_at _ (by omega)]
    exact List.getElem_mem _
  · rw [← s_num l (by omega), ← s_num l hj, gi_at _ (by omega), gi_at _ (by omega)] at e
    exact (List.pairwise_iff_getElem.1 h2) i j (by omega) (by omega) hij e
theorem lst_sgns {L : Int} {js : List Int} {l : List Sgn} {q : List Edc} (h : lstE L js l q = 0) : sgnsB L js l = true := by
  unfold lstE at h
  split at h
  · cases h
  split at h
  · cases h
  next h2 => simpa using h2
theorem lst_edcs {L : Int} {js : List Int} {l : List Sgn} {q : List Edc} (h : lstE L js l q = 0) : edcsB L js q = true := by
  unfold lstE at h
  split at h
  · cases h
  split at h
  · cases h
  split at h
  · cases h
  next h2 => simpa using h2
/-- The numbers of a row. -/
def numsR (L dir h : Int) (l : List Sgn) : List Int := (insR L dir h l l.length).map (·.n)
theorem insR_mem {L dir h : Int} {l : List Sgn} {x : Sgn} {k : Nat} (hx : x ∈ insR L dir h l k) : ∃ j, j < k ∧ gs l j = x := selR_mem ((insR_perm L dir h l k).mem_iff.1 hx)
/-- Row answers: the numbers, or an error and none. -/
def RwA (X : List Int) (E : Int) (w : World) (e : Ending) (w' : World) : Prop := ∃ b c, e = .returned (.tuple #[.slice b X.length c, .int .i64 E]) ∧ IntsS w' b X ∧ Below w.heap.size w w'
/-- The reference's row. -/
def RrZ (L dir h : Int) (l : List Sgn) (w : World) (e : Ending) (w' : World) : Prop := ∃ b c, e = .returned (.slice b (numsR L dir h l).length c) ∧ SgnS w' b (insR L dir h l l.length) ∧ Below w.heap.size w w'
theorem refRow_z (L : Int) (a : Option Addr) (n ca : Nat) (aa : Option Addr) (l : List Sgn) (cl : Nat) (h dir : Int) (hL1 : 0 ≤ L) (hL2 : L ≤ 100000) (hC : ∀ j, j < l.length → 0 ≤ (gs l j).c ∧ (gs l j).c ≤ 100000) (hn : l.length ≤ 1000) (w : World) (hA : SgnS w aa l) :
    Calls Tryz.prog 80 #[.agg #[.int .i64 L, .slice a n ca], .slice aa l.length cl, .int .i64 h, .int .i64 dir] w (RrZ L dir h l w) := by
  refine (refRow_r L a n ca aa l cl h dir hL1 hL2 hC hn w hA).mono ?_
  rintro e w' ⟨b, c, rfl, hS, hb⟩
  exact ⟨b, c, by unfold numsR; rw [List.length_map], hS, hb⟩
/-- A row with its numbers. -/
def RrQ (X : List Int) (R : List Sgn) (w : World) (e : Ending) (w' : World) : Prop := ∃ b c, e = .returned (.slice b X.length c) ∧ SgnS w' b R ∧ Below w.heap.size w w'
theorem nums_step (R : List Sgn) {k : Nat} (h : k < (R.map (·.n)).length) : clI ((R.map (·.n)).take (k + 1)) = clI ((R.map (·.n)).take k) ++ [.int .i64 (gs R k).n] := by
  have h2 : k < R.length := by rw [List.length_map] at h; exact h
  rw [List.take_add_one, List.getElem?_eq_getElem h, Option.toList_some, clI_app, List.getElem_map, gs_at _ h2]
end Go.Proofs.YtlpdjinhkmgbgaaGreatDoor

namespace Go.Proofs.YtlpdjinhkmgbgaaGreatDoor
set_option linter.unusedVariables false
set_option linter.unusedSimpArgs false
open Go.RowKit

/-- The value of a start of a topic, or 0. -/
def strR (k v t : Int) : Int := if t = 1 ∧ k = 1 then v else if t = 2 ∧ k = 3 then 1 else 0
theorem strR_top {k v t : Int} (ht : t = 1 ∨ t = 2) (hv : k = 1 → 0 < v) : (0 < strR k v t ↔ topK k = t) ∧ (topK k = t → strR k v t = strK k v) := by
  unfold strR topK strK
  rcases ht with rfl | rfl
  · by_cases h1 : k = 1
    · subst h1; have := hv rfl; simp; omega
    · by_cases h3 : k = 3
      · subst h3; simp
      · simp [h1, h3]
  · by_cases h1 : k = 1
    · subst h1; simp
    · by_cases h3 : k = 3
      · subst h3; simp
      · simp [h1, h3]
/-- Is a sign of account at a distance? -/
def relB (L dir t k : Int) (R : List Sgn) (i : Nat) : Bool := decide (dstK L dir (gs R i).c ≤ k) && (decide (0 < strR (gs R i).k (gs R i).v t) || endB (gs R i).k t)
/-- The last of n for which p holds, or -1. -/
def lstX (p : Nat → Bool) : Nat → Int
  | 0 => -1
  | i + 1 => if p i = true then (i : Int) else lstX p i
theorem lstX_cases (p : Nat → Bool) : ∀ n, (lstX p n = -1 ∧ ∀ j, j < n → p j = false) ∨ ∃ x : Nat, x < n ∧ lstX p n = x ∧ p x = true ∧ ∀ j, x < j → j < n → p j = false
  | 0 => .inl ⟨rfl, fun j hj => absurd hj (Nat.not_lt_zero j)⟩
  | n + 1 => by
    rw [lstX]
    by_cases h : p n = true
    · rw [if_pos h]
      exact .inr ⟨n, by omega, rfl, h, fun j h1 h2 => by omega⟩
    · rw [if_neg h]
      have h' : p n = false := by simpa using h
      rcases lstX_cases p n with ⟨h1, h2⟩ | ⟨x, h1, h2, h3, h4⟩
      · exact .inl ⟨h1, fun j hj => by
          by_cases e : j = n
          · rw [e]; exact h'
          · exact h2 j (by omega)⟩
      · exact .inr ⟨x, by omega, h2, h3, fun j hj1 hj2 => by
          by_cases e : j = n
          · rw [e]; exact h'
          · exact h4 j hj1 (by omega)⟩
/-- Is the sign behind number i its plate? -/
def plB (R : List Sgn) (i : Nat) : Bool := decide (i + 1 < R.length) && (((gs R (i + 1)).k == 7) && ((gs R (i + 1)).c == (gs R i).c))
theorem dst_eq (L dir a b : Int) : (dstK L dir a == dstK L dir b) = (a == b) := by
  unfold dstK
  rw [Bool.eq_iff_iff, beq_iff_eq, beq_iff_eq]
  split <;> omega
theorem plt_plB (L dir k : Int) (R : List Sgn) (i : Nat) (hi : i < R.length) : pltB L dir k (gs R i) (R[i + 1]?) = (plB R i && decide ((gs R (i + 1)).v ≤ k - dstK L dir (gs R i).c)) := by
  unfold plB
  by_cases h : i + 1 < R.length
  · rw [List.getElem?_eq_getElem h, ← gs_at R h, decide_eq_true h, Bool.true_and]
    show ((gs R (i + 1)).k == 7 && (dstK L dir (gs R (i + 1)).c == dstK L dir (gs R i).c && decide (dstK L dir (gs R i).c + (gs R (i + 1)).v ≤ k))) = _
    rw [dst_eq, Bool.and_assoc]
    have : decide (dstK L dir (gs R i).c + (gs R (i + 1)).v ≤ k) = decide ((gs R (i + 1)).v ≤ k - dstK L dir (gs R i).c) := by
      rw [Bool.eq_iff_iff, decide_eq_true_eq, decide_eq_true_eq]; omega
    rw [this]
  · rw [List.getElem?_eq_none (by omega), decide_eq_false h]
    rfl
theorem rel_acc {L dir t k : Int} {R : List Sgn} {i : Nat} (ht : t = 1 ∨ t = 2) (hv : (gs R i).k = 1 → 0 < (gs R i).v) (hd : dstK L dir (gs R i).c ≤ k) : relB L dir t k R i = true ↔ (endB (gs R i).k t = true ∨ topK (gs R i).k = t) := by
  unfold relB
  rw [decide_eq_true hd, Bool.true_and, Bool.or_eq_true, decide_eq_true_eq, (strR_top ht hv).1]
  exact Or.comm
/-- No sign is of account. -/
theorem hold_none {L dir t k : Int} {js : List Int} {R : List Sgn} (ht : t = 1 ∨ t = 2) (hv : ∀ i, i < R.length → (gs R i).k = 1 → 0 < (gs R i).v) (h : ∀ j, j < R.length → relB L dir t k R j = false) (v : Int) : hS L js dir t k R v = v := by
  refine hS_none R v fun s hs hd => ?_
  obtain ⟨i, hi, e⟩ := List.getElem_of_mem hs
  have hi2 := gs_at R hi
  rw [e] at hi2
  subst hi2
  have h1 := h i hi
  have h2 := rel_acc ht (hv i hi) hd
  rw [h1] at h2
  constructor
  · cases h3 : endB (gs R i).k t with
    | false => rfl
    | true => exact absurd (h2.2 (.inl h3)) (by simp)
  · intro h3
    exact absurd (h2.2 (.inr h3)) (by simp)
/-- The last sign of account. -/
theorem hold_last {L dir t k : Int} {js : List Int} {R : List Sgn} {x : Nat} (ht : t = 1 ∨ t = 2) (hv : ∀ i, i < R.length → (gs R i).k = 1 → 0 < (gs R i).v) (hs : ∀ i j, i < j → j < R.length → dstK L dir (gs R i).c ≤ dstK L dir (gs R j).c) (hx : x < R.length) (h : relB L dir t k R x = true) (hl : ∀ j, x < j → j < R.length → relB L dir t k R j = false) (v : Int) :
    hS L js dir t k R v = if endB (gs R x).k t = true then 0 else if jctB L js dir (dstK L dir (gs R x).c) k = true then 0 else if (plB R x && decide ((gs R (x + 1)).v ≤ k - dstK L dir (gs R x).c)) = true then 0 else strR (gs R x).k (gs R x).v t := by
  have hd : dstK L dir (gs R x).c ≤ k := by
    unfold relB at h
    rw [Bool.and_eq_true, decide_eq_true_eq] at h
    exact h.1
  have ha := (rel_acc ht (hv x hx) hd).1 h
  have hsp : R = R.take x ++ gs R x :: R.drop (x + 1) := by
    rw [gs_at R hx, ← List.drop_eq_getElem_cons hx, List.take_append_drop]
  have key := hS_last (L := L) (js := js) (dir := dir) (t := t) (k := k) (gs R x) (R.drop (x + 1)) hd ha (fun y hy hyd => by
    obtain ⟨j, hj, e⟩ := List.getElem_of_mem hy
    rw [List.length_drop] at hj
    rw [List.getElem_drop] at e
    have e2 := gs_at R (i := x + 1 + j) (by omega)
    rw [e] at e2
    subst e2
    have h1 := hl (x + 1 + j) (by omega) (by omega)
    have h2 := rel_acc ht (hv _ (by omega)) hyd
    rw [h1] at h2
    constructor
    · cases h3 : endB (gs R (x + 1 + j)).k t with
      | false => rfl
      | true => exact absurd (h2.2 (.inl h3)) (by simp)
    · intro h3
      exact absurd (h2.2 (.inr h3)) (by simp)) (R.take x) v (fun y hy => by
    obtain ⟨j, hj, e⟩ := List.getElem_of_mem hy
    rw [List.length_take] at hj
    rw [List.getElem_take] at e
    have e2 := gs_at R (i := j) (by omega)
    rw [e] at e2
    subst e2
    have := hs j x (by omega) hx
    omega)
  rw [← hsp] at key
  rw [key]
  have hh : (R.drop (x + 1)).head? = R[x + 1]? := by rw [List.head?_eq_getElem?, List.getElem?_drop]
  rw [hh]
  unfold stpS shutB
  rw [plt_plB L dir k R x hx]
  by_cases h1 : endB (gs R x).k t = true
  · rw [if_pos h1, if_pos h1]
  · rw [if_neg h1, if_neg h1, if_pos (ha.resolve_left h1), (strR_top ht (hv x hx)).2 (ha.resolve_left h1)]
    by_cases h2 : jctB L js dir (dstK L dir (gs R x).c) k = true
    · rw [if_pos h2, if_pos (by simp [h2])]
    · rw [if_neg h2]
      have h2' : jctB L js dir (dstK L dir (gs R x).c) k = false := by simpa using h2
      rw [h2', Bool.false_or]
set_option maxRecDepth 100000 in
set_option maxHeartbeats 1000000 in
theorem refStart_r (s : Sgn) (ad : Option Addr) (cp : Nat) (t : Int) (ht : t = 1 ∨ t = 2) (w : World) :
    Calls Tryz.prog 117 #[.agg #[.int .i64 s.n, .int .i64 s.k, .int .i64 s.v, .int .i64 s.c, .int .i64 s.d, .int .i64 s.rk, .int .i64 s.up, .int .i64 s.dn, .slice ad s.cv.length cp], .int .i64 t] w fun e w' => e = .returned (.int .i64 (strR s.k s.v t)) ∧ Below w.heap.size w w' := by
  rcases ht with rfl | rfl
  · by_cases hk : s.k = 1
    · have hr : Hid (strR s.k s.v 1 = s.v) := Lib.hid (by rw [hk]; rfl)
      have b1 : (s.k == 1) = true := by rw [hk]; rfl
      clear hk
      generalize s.k = sk at *
      go_enter Tryz.func117, Tryz.ntmps117
      go_wp2_with fail
      go_ret
      exact ⟨by rw [hr.out] <;> rfl, (Below.refl _ _).alloc (Nat.le_refl _) _⟩
    · have hr : Hid (strR s.k s.v 1 = 0) := Lib.hid (by unfold strR; simp [hk])
      have b1 : (s.k == 1) = false := beq_false_of_ne hk
      clear hk
      generalize s.k = sk at *
      go_enter Tryz.func117, Tryz.ntmps117
      go_wp2_with fail
      go_ret
      exact ⟨by rw [hr.out] <;> rfl, (Below.refl _ _).alloc (Nat.le_refl _) _⟩
  · by_cases hk : s.k = 3
    · have hr : Hid (strR s.k s.v 2 = 1) := Lib.hid (by rw [hk]; rfl)
      have b1 : (s.k == 3) = true := by rw [hk]; rfl
      clear hk
      generalize s.k = sk at *
      go_enter Tryz.func117, Tryz.ntmps117
      go_wp2_with fail
      go_ret
      exact ⟨by rw [hr.out] <;> rfl, (Below.refl _ _).alloc (Nat.le_refl _) _⟩
    · have hr : Hid (strR s.k s.v 2 = 0) := Lib.hid (by unfold strR; simp [hk])
      have b1 : (s.k == 3) = false := beq_false_of_ne hk
      clear hk
      generalize s.k = sk at *
      go_enter Tryz.func117, Tryz.ntmps117
      go_wp2_with fail
      go_ret
      exact ⟨by rw [hr.out] <;> rfl, (Below.refl _ _).alloc (Nat.le_refl _) _⟩
set_option maxRecDepth 100000 in
set_option maxHeartbeats 1000000 in
theorem refEnd_r (s : Sgn) (ad : Option Addr) (cp : Nat) (t : Int) (ht : t = 1 ∨ t = 2) (w : World) :
    Calls Tryz.prog 118 #[.agg #[.int .i64 s.n, .int .i64 s.k, .int .i64 s.v, .int .i64 s.c, .int .i64 s.d, .int .i64 s.rk, .int .i64 s.up, .int .i64 s.dn, .slice ad s.cv.length cp], .int .i64 t] w fun e w' => e = .returned (.bool (endB s.k t)) ∧ Below w.heap.size w w' := by
  rcases ht with rfl | rfl
  · by_cases h5 : s.k = 5
    · have hr : Hid (endB s.k 1 = true) := Lib.hid (by rw [h5]; rfl)
      have b1 : (s.k == 5) = true := by rw [h5]; rfl
      clear h5
      generalize s.k = sk at *
      go_enter Tryz.func118, Tryz.ntmps118
      go_wp2_with fail
      go_ret
      exact ⟨by rw [hr.out] <;> rfl, (Below.refl _ _).alloc (Nat.le_refl _) _⟩
    · by_cases hk : s.k = 2
      · have hr : Hid (endB s.k 1 = true) := Lib.hid (by rw [hk]; rfl)
        have b1 : (s.k == 5) = false := beq_false_of_ne h5
        have b2 : (s.k == 2) = true := by rw [hk]; rfl
        clear h5 hk
        generalize s.k = sk at *
        go_enter Tryz.func118, Tryz.ntmps118
        go_wp2_with fail
        go_ret
        exact ⟨by rw [hr.out] <;> rfl, (Below.refl _ _).alloc (Nat.le_refl _) _⟩
      · have hr : Hid (endB s.k 1 = false) := Lib.hid (by unfold endB; simp [h5, hk])
        have b1 : (s.k == 5) = false := beq_false_of_ne h5
        have b2 : (s.k == 2) = false := beq_false_of_ne hk
        clear h5 hk
        generalize s.k = sk at *
        go_enter Tryz.func118, Tryz.ntmps118
        go_wp2_with fail
        go_ret
        exact ⟨by rw [hr.out] <;> rfl, (Below.refl _ _).alloc (Nat.le_refl _) _⟩
  · by_cases h5 : s.k = 5
    · have hr : Hid (endB s.k 2 = true) := Lib.hid (by rw [h5]; rfl)
      have b1 : (s.k == 5) = true := by rw [h5]; rfl
      clear h5
      generalize s.k = sk at *
      go_enter Tryz.func118, Tryz.ntmps118
      go_wp2_with fail
      go_ret
      exact ⟨by rw [hr.out] <;> rfl, (Below.refl _ _).alloc (Nat.le_refl _) _⟩
    · by_cases hk : s.k = 4
      · have hr : Hid (endB s.k 2 = true) := Lib.hid (by rw [hk]; rfl)
        have b1 : (s.k == 5) = false := beq_false_of_ne h5
        have b2 : (s.k == 4) = true := by rw [hk]; rfl
        clear h5 hk
        generalize s.k = sk at *
        go_enter Tryz.func118, Tryz.ntmps118
        go_wp2_with fail
        go_ret
        exact ⟨by rw [hr.out] <;> rfl, (Below.refl _ _).alloc (Nat.le_refl _) _⟩
      · have hr : Hid (endB s.k 2 = false) := Lib.hid (by unfold endB; simp [h5, hk])
        have b1 : (s.k == 5) = false := beq_false_of_ne h5
        have b2 : (s.k == 4) = false := beq_false_of_ne hk
        clear h5 hk
        generalize s.k = sk at *
        go_enter Tryz.func118, Tryz.ntmps118
        go_wp2_with fail
        go_ret
        exact ⟨by rw [hr.out] <;> rfl, (Below.refl _ _).alloc (Nat.le_refl _) _⟩
set_option maxRecDepth 100000 in
set_option maxHeartbeats 1000000 in
theorem refBeginning_r (L : Int) (a : Option Addr) (n ca : Nat) (dir c : Int) (hL1 : 0 ≤ L) (hL2 : L ≤ 100000) (hc1 : -1000000 ≤ c) (hc2 : c ≤ 1000000) (w : World) :
    Calls Tryz.prog 41 #[.agg #[.int .i64 L, .slice a n ca], .int .i64 dir, .int .i64 c] w fun e w' => e = .returned (.int .i64 (begK L dir c)) ∧ Below w.heap.size w w' := by
  by_cases h1 : dir = 1
  · subst h1
    have hr : Hid (begK L 1 c = c) := Lib.hid (by unfold begK; simp)
    go_enter Tryz.func41, Tryz.ntmps41
    go_wp2_with fail
    go_ret
    exact ⟨by rw [hr.out]; rfl, (Below.refl _ _).alloc (Nat.le_refl _) _⟩
  · have hr : Hid (begK L dir c = L - 1 - c) := Lib.hid (by unfold begK; simp [h1])
    go_enter Tryz.func41, Tryz.ntmps41
    go_wp2_with fail
    go_ret
    exact ⟨by rw [hr.out]; rfl, (Below.refl _ _).alloc (Nat.le_refl _) _⟩
set_option maxRecDepth 100000 in
set_option maxHeartbeats 1000000 in
theorem refPlated_r (a : Option Addr) (l : List Sgn) (ca i : Nat) (hi : i < l.length) (hn : l.length ≤ 1000) (w : World) (hA : SgnS w a l) :
    Calls Tryz.prog 119 #[.slice a l.length ca, .int .i64 i] w fun e w' => e = .returned (.bool (plB l i)) ∧ Below w.heap.size w w' := by
  obtain ⟨-, blk, off, ad, cp, hadr, hc⟩ := hA
  obtain rfl := hadr (List.ne_nil_of_length_pos (by omega))
  obtain ⟨m, hm1⟩ : ∃ m : Nat, m = i + 1 := ⟨_, rfl⟩
  have HP : Hid (plB l i = (decide (m < l.length) && (((gs l m).k == 7) && ((gs l m).c == (gs l i).c)))) := Lib.hid (by rw [hm1]; rfl)
  have hw : IntKind.i64.wrap ((i : Int) + 1) = (m : Int) := by rw [hm1]; exact IntWalk.i64_in _ (by omega)
  clear hm1
  by_cases hm : m < l.length
  · obtain ⟨⟨-, e1, -, e3, -⟩, -⟩ := hc i hi
    obtain ⟨⟨-, d1, -, d3, -⟩, -⟩ := hc m hm
    by_cases h7 : (gs l m).k = 7
    · by_cases hcc : (gs l m).c = (gs l i).c
      · have hr : Hid (plB l i = true) := Lib.hid (by rw [HP.out, decide_eq_true hm, h7, hcc]; simp)
        have b1 : ((gs l m).k == 7) = true := by rw [h7]; rfl
        have b2 : ((gs l m).c == (gs l i).c) = true := by rw [hcc]; simp
        have b3 : decide (m < l.length) = true := decide_eq_true hm
        clear h7 hcc HP
        generalize (gs l i).c = ci at *
        generalize (gs l m).c = cm at *
        generalize (gs l m).k = km at *
        clear hc hadr
        go_enter Tryz.func119, Tryz.ntmps119
        go_wp2_with fail
        go_quiet (fail)
        go_wp2_with fail
        go_ret
        exact ⟨by rw [hr.out] <;> rfl, below_drewN (Below.refl _ _) _⟩
      · have hr : Hid (plB l i = false) := Lib.hid (by rw [HP.out]; simp [hcc])
        have b1 : ((gs l m).k == 7) = true := by rw [h7]; rfl
        have b2 : ((gs l m).c == (gs l i).c) = false := beq_false_of_ne hcc
        have b3 : decide (m < l.length) = true := decide_eq_true hm
        clear h7 hcc HP
        generalize (gs l i).c = ci at *
        generalize (gs l m).c = cm at *
        generalize (gs l m).k = km at *
        clear hc hadr
        go_enter Tryz.func119, Tryz.ntmps119
        go_wp2_with fail
        go_quiet (fail)
        go_wp2_with fail
        go_ret
        exact ⟨by rw [hr.out] <;> rfl, below_drewN (Below.refl _ _) _⟩
    · have hr : Hid (plB l i = false) := Lib.hid (by rw [HP.out]; simp [h7])
      have b1 : ((gs l m).k == 7) = false := beq_false_of_ne h7
      have b3 : decide (m < l.length) = true := decide_eq_true hm
      clear h7 HP
      generalize (gs l i).c = ci at *
      generalize (gs l m).c = cm at *
      generalize (gs l m).k = km at *
      clear hc hadr
      go_enter Tryz.func119, Tryz.ntmps119
      go_wp2_with fail
      go_quiet (fail)
      go_wp2_with fail
      go_ret
      exact ⟨by rw [hr.out] <;> rfl, below_drewN (Below.refl _ _) _⟩
  · have hr : Hid (plB l i = false) := Lib.hid (by rw [HP.out, decide_eq_false hm]; rfl)
    have b3 : decide (m < l.length) = false := decide_eq_false hm
    clear HP hc hadr
    go_enter Tryz.func119, Tryz.ntmps119
    go_wp2_with fail
    go_quiet (fail)
    go_wp2_with fail
    go_ret
    exact ⟨by rw [hr.out] <;> rfl, below_drewN (Below.refl _ _) _⟩
end Go.Proofs.YtlpdjinhkmgbgaaGreatDoor
