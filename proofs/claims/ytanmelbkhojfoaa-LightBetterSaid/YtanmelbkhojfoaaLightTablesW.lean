/-
  The walk of the law LightTables: it answers true. By an AI agent.
-/
import Derived.Test.YtanmelbkhojfoaaLightCoefficientsW
import Derived.Deep.RegionHeld3
namespace Go.Proofs.Ytanmelbkhojfoaa
set_option linter.unusedVariables false
set_option linter.unusedSimpArgs false
open Go.RowKit

theorem box2_below {w w' : World} {o1 o2 : Obj} (h : Below ((w.alloc o1).alloc o2).heap.size ((w.alloc o1).alloc o2) w') : Below w.heap.size w w' := box_below (box_below h)
theorem box2_start {w : World} {o1 o2 : Obj} : Below w.heap.size w ((w.alloc o1).alloc o2) := box2_below (Below.refl _ _)

set_option maxRecDepth 100000 in
set_option maxHeartbeats 4000000 in
theorem lightTables_any (ao ae ar : Option Addr) (o e : List Int) (r : List (List Int)) (co ce cr : Nat) (z0 z1 z2 z3 : Int) (w : World) (hT : TableS w ao ae ar o e r) (b0 : I64 z0) (b1 : I64 z1) (b2 : I64 z2) (b3 : I64 z3) :
    Calls Try.prog 3 #[.agg #[.slice ao o.length co, .slice ae e.length ce, .slice ar r.length cr], .agg #[.int .i64 z0, .int .i64 z1, .int .i64 z2, .int .i64 z3]] w fun E w' => E = .returned (.bool true) ∧ Below w.heap.size w w' := by
  have HL : Hid (∀ W, Below w.heap.size w W → Calls Try.prog 19 #[.agg #[.slice ao o.length co, .slice ae e.length ce, .slice ar r.length cr]] W fun E w' => SomeBool E ∧ Below W.heap.size W w') := Lib.hid fun W hW => long_any ao ae ar o e r co ce cr W (hT.below hW)
  have HV : Hid (∀ W, Below w.heap.size w W → Calls Try.prog 21 #[.agg #[.slice ao o.length co, .slice ae e.length ce, .slice ar r.length cr]] W fun E w' => E = .returned (.bool (tableB o e r)) ∧ Below W.heap.size W w') := Lib.hid fun W hW => validTable_any ao ae ar o e r co ce cr W (hT.below hW)
  have HW : Hid (∀ W, Below w.heap.size w W → Calls Try.prog 22 #[.agg #[.slice ao o.length co, .slice ae e.length ce, .slice ar r.length cr]] W fun E w' => E = .returned (.bool (tableB o e r)) ∧ Below W.heap.size W w') := Lib.hid fun W hW => refValidTable_any ao ae ar o e r co ce cr W (hT.below hW)
  have HS : Hid (∀ W, Calls Try.prog 23 #[.agg #[.int .i64 z0, .int .i64 z1, .int .i64 z2, .int .i64 z3]] W fun E w' => E = .returned (.bool (sceneB z0 z1 z2 z3)) ∧ Below W.heap.size W w') := Lib.hid fun W => validScene_any z0 z1 z2 z3 W
  have HR : Hid (∀ W, Calls Try.prog 24 #[.agg #[.int .i64 z0, .int .i64 z1, .int .i64 z2, .int .i64 z3]] W fun E w' => E = .returned (.bool (sceneB z0 z1 z2 z3)) ∧ Below W.heap.size W w') := Lib.hid fun W => refScene_any z0 z1 z2 z3 W
  have H1 := Lib.hid first_any
  clear hT b0 b1 b2 b3
  generalize tableB o e r = tb at *
  generalize sceneB z0 z1 z2 z3 = sb at *
  have ht : (tb == tb) = true := by simp
  have hs : (sb == sb) = true := by simp
  go_enter Try.func3, Try.ntmps3
  go_wp2_with fail
  refine (HL.out _ box2_start).mono ?_
  rintro E w1 ⟨⟨b, rfl⟩, hb1⟩
  cases b with
  | true =>
    go_wp2_with fail
    refine (H1.out _).mono ?_
    rintro E w2 ⟨rfl, hb2⟩
    go_wp2_with fail
    go_ret
    exact ⟨rfl, (box2_below hb1).trans (hb2.mono (box2_below hb1).size)⟩
  | false =>
    have p0 := (hb1.cell (p := ⟨w.heap.size, 0, none⟩) (by simp; omega)).trans (show _ = some (Value.slice ao o.length co) by simp [go_sem])
    have p1 := (hb1.cell (p := ⟨w.heap.size, 1, none⟩) (by simp; omega)).trans (show _ = some (Value.slice ae e.length ce) by simp [go_sem])
    have p2 := (hb1.cell (p := ⟨w.heap.size, 2, none⟩) (by simp; omega)).trans (show _ = some (Value.slice ar r.length cr) by simp [go_sem])
    have s0 := (hb1.cell (p := ⟨w.heap.size + 1, 0, none⟩) (by simp)).trans (show _ = some (Value.int .i64 z0) by simp [go_sem])
    have s1 := (hb1.cell (p := ⟨w.heap.size + 1, 1, none⟩) (by simp)).trans (show _ = some (Value.int .i64 z1) by simp [go_sem])
    have s2 := (hb1.cell (p := ⟨w.heap.size + 1, 2, none⟩) (by simp)).trans (show _ = some (Value.int .i64 z2) by simp [go_sem])
    have s3 := (hb1.cell (p := ⟨w.heap.size + 1, 3, none⟩) (by simp)).trans (show _ = some (Value.int .i64 z3) by simp [go_sem])
    have hz : w.heap.size + 1 < w1.heap.size := by have := hb1.size; simp at this; omega
    have hB := box2_below hb1
    clear hb1
    go_wp2_with fail
    go_region_held3 (fun w' => w'.cell? ⟨w.heap.size, 0, none⟩ = some (Value.slice ao o.length co) ∧ w'.cell? ⟨w.heap.size, 1, none⟩ = some (Value.slice ae e.length ce) ∧ w'.cell? ⟨w.heap.size, 2, none⟩ = some (Value.slice ar r.length cr) ∧ w'.cell? ⟨w.heap.size + 1, 0, none⟩ = some (Value.int .i64 z0) ∧ w'.cell? ⟨w.heap.size + 1, 1, none⟩ = some (Value.int .i64 z1) ∧ w'.cell? ⟨w.heap.size + 1, 2, none⟩ = some (Value.int .i64 z2) ∧ w'.cell? ⟨w.heap.size + 1, 3, none⟩ = some (Value.int .i64 z3)) (go_keep)
      (first
        | (go_at_call 21
           refine (HV.out _ (by first | exact hB.drew | exact hB | exact hB.drew.drew | exact hB.drew.drew.drew | exact below_drewN hB _ | exact below_drewN hB.drew _)).mono ?_
           rintro E w2 ⟨rfl, hb2⟩
           have p0 := (hb2.cell (p := ⟨w.heap.size, 0, none⟩) (by show w.heap.size < _; first | exact Nat.lt_trans (Nat.lt_succ_self _) hz | omega)).trans p0
           have p1 := (hb2.cell (p := ⟨w.heap.size, 1, none⟩) (Nat.lt_trans (Nat.lt_succ_self _) hz)).trans p1
           have p2 := (hb2.cell (p := ⟨w.heap.size, 2, none⟩) (Nat.lt_trans (Nat.lt_succ_self _) hz)).trans p2
           have s0 := (hb2.cell (p := ⟨w.heap.size + 1, 0, none⟩) hz).trans s0
           have s1 := (hb2.cell (p := ⟨w.heap.size + 1, 1, none⟩) hz).trans s1
           have s2 := (hb2.cell (p := ⟨w.heap.size + 1, 2, none⟩) hz).trans s2
           have s3 := (hb2.cell (p := ⟨w.heap.size + 1, 3, none⟩) hz).trans s3
           have hB : Below w.heap.size w w2 := by first | exact (hB.drew).trans (hb2.mono hB.size) | exact hB.trans (hb2.mono hB.size)
           have hz := Nat.lt_of_lt_of_le hz hb2.size)
        | (go_at_call 22
           refine (HW.out _ (by first | exact hB.drew | exact hB | exact hB.drew.drew | exact hB.drew.drew.drew | exact below_drewN hB _ | exact below_drewN hB.drew _)).mono ?_
           rintro E w2 ⟨rfl, hb2⟩
           have p0 := (hb2.cell (p := ⟨w.heap.size, 0, none⟩) (Nat.lt_trans (Nat.lt_succ_self _) hz)).trans p0
           have p1 := (hb2.cell (p := ⟨w.heap.size, 1, none⟩) (Nat.lt_trans (Nat.lt_succ_self _) hz)).trans p1
           have p2 := (hb2.cell (p := ⟨w.heap.size, 2, none⟩) (Nat.lt_trans (Nat.lt_succ_self _) hz)).trans p2
           have s0 := (hb2.cell (p := ⟨w.heap.size + 1, 0, none⟩) hz).trans s0
           have s1 := (hb2.cell (p := ⟨w.heap.size + 1, 1, none⟩) hz).trans s1
           have s2 := (hb2.cell (p := ⟨w.heap.size + 1, 2, none⟩) hz).trans s2
           have s3 := (hb2.cell (p := ⟨w.heap.size + 1, 3, none⟩) hz).trans s3
           have hB : Below w.heap.size w w2 := by first | exact (hB.drew).trans (hb2.mono hB.size) | exact hB.trans (hb2.mono hB.size)
           have hz := Nat.lt_of_lt_of_le hz hb2.size)
        | (go_at_call 23
           refine (HS.out _).mono ?_
           rintro E w2 ⟨rfl, hb2⟩
           have p0 := (hb2.cell (p := ⟨w.heap.size, 0, none⟩) (Nat.lt_trans (Nat.lt_succ_self _) hz)).trans p0
           have p1 := (hb2.cell (p := ⟨w.heap.size, 1, none⟩) (Nat.lt_trans (Nat.lt_succ_self _) hz)).trans p1
           have p2 := (hb2.cell (p := ⟨w.heap.size, 2, none⟩) (Nat.lt_trans (Nat.lt_succ_self _) hz)).trans p2
           have s0 := (hb2.cell (p := ⟨w.heap.size + 1, 0, none⟩) hz).trans s0
           have s1 := (hb2.cell (p := ⟨w.heap.size + 1, 1, none⟩) hz).trans s1
           have s2 := (hb2.cell (p := ⟨w.heap.size + 1, 2, none⟩) hz).trans s2
           have s3 := (hb2.cell (p := ⟨w.heap.size + 1, 3, none⟩) hz).trans s3
           have hB : Below w.heap.size w w2 := by first | exact (hB.drew).trans (hb2.mono hB.size) | exact hB.trans (hb2.mono hB.size)
           have hz := Nat.lt_of_lt_of_le hz hb2.size)
        | (go_at_call 24
           refine (HR.out _).mono ?_
           rintro E w2 ⟨rfl, hb2⟩
           have p0 := (hb2.cell (p := ⟨w.heap.size, 0, none⟩) (Nat.lt_trans (Nat.lt_succ_self _) hz)).trans p0
           have p1 := (hb2.cell (p := ⟨w.heap.size, 1, none⟩) (Nat.lt_trans (Nat.lt_succ_self _) hz)).trans p1
           have p2 := (hb2.cell (p := ⟨w.heap.size, 2, none⟩) (Nat.lt_trans (Nat.lt_succ_self _) hz)).trans p2
           have s0 := (hb2.cell (p := ⟨w.heap.size + 1, 0, none⟩) hz).trans s0
           have s1 := (hb2.cell (p := ⟨w.heap.size + 1, 1, none⟩) hz).trans s1
           have s2 := (hb2.cell (p := ⟨w.heap.size + 1, 2, none⟩) hz).trans s2
           have s3 := (hb2.cell (p := ⟨w.heap.size + 1, 3, none⟩) hz).trans s3
           have hB : Below w.heap.size w w2 := by first | exact (hB.drew).trans (hb2.mono hB.size) | exact hB.trans (hb2.mono hB.size)
           have hz := Nat.lt_of_lt_of_le hz hb2.size)
        | (go_at_call 20
           refine (H1.out _).mono ?_
           rintro E w2 ⟨rfl, hb2⟩
           have p0 := (hb2.cell (p := ⟨w.heap.size, 0, none⟩) (Nat.lt_trans (Nat.lt_succ_self _) hz)).trans p0
           have p1 := (hb2.cell (p := ⟨w.heap.size, 1, none⟩) (Nat.lt_trans (Nat.lt_succ_self _) hz)).trans p1
           have p2 := (hb2.cell (p := ⟨w.heap.size, 2, none⟩) (Nat.lt_trans (Nat.lt_succ_self _) hz)).trans p2
           have s0 := (hb2.cell (p := ⟨w.heap.size + 1, 0, none⟩) hz).trans s0
           have s1 := (hb2.cell (p := ⟨w.heap.size + 1, 1, none⟩) hz).trans s1
           have s2 := (hb2.cell (p := ⟨w.heap.size + 1, 2, none⟩) hz).trans s2
           have s3 := (hb2.cell (p := ⟨w.heap.size + 1, 3, none⟩) hz).trans s3
           have hB : Below w.heap.size w w2 := by first | exact (hB.drew).trans (hb2.mono hB.size) | exact hB.trans (hb2.mono hB.size)))
    all_goals
      go_wp2_with fail
      go_ret
      exact ⟨rfl, hB⟩
end Go.Proofs.Ytanmelbkhojfoaa
