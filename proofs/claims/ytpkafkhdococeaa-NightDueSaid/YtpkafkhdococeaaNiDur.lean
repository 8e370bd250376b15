/-
  DueJob of the reference of package night. By an AI agent.
-/
import Derived.Test.YtpkafkhdococeaaNiDue
import Derived.Deep.RegionHeld3
import Derived.BigQuiet
namespace Go.Proofs.Ytpkafkhdococeaa
set_option linter.unusedVariables false
set_option linter.unusedSimpArgs false
open Go.RowKit

theorem jobB_zero (n r c cr : Int) : jobB ⟨n, r, c, 0, 0, cr, true, false⟩ = (btw n 1 1000000000 && placeB r c cr) := by
  have e : btw 0 0 100000 = true := by decide
  unfold jobB
  simp only [e]
  simp
set_option maxRecDepth 100000 in
set_option maxHeartbeats 4000000 in
theorem refDueJob_a (n r c cr z0 z1 z2 z3 side : Int) (a : Option Addr) (l : List (Int × Int)) (cap : Nat) (least lead : Int) (w : World) (hP : PairsS w a l) (hle : I64 least) (hld : I64 lead) (h0 : jobB ⟨n, r, c, 0, 0, cr, true, false⟩ = false) :
    Calls Try.prog 38 #[.agg #[.int .i64 n, .int .i64 r, .int .i64 c, .int .i64 cr, .int .i64 z0, .int .i64 z1, .int .i64 z2, .int .i64 z3, .int .i64 side, .slice a l.length cap, .int .i64 least, .int .i64 lead]] w fun e w' => e = .returned (djV n r c cr z0 z1 z2 z3 side l least lead) ∧ Below w.heap.size w w' := by
  have HJ := Lib.hid (fun W => refJob_r ⟨n, r, c, 0, 0, cr, true, false⟩ W)
  have HV : Hid (djV n r c cr z0 z1 z2 z3 side l least lead = .tuple #[.agg #[.int .i64 0, .int .i64 0, .int .i64 0, .int .i64 0, .int .i64 0, .int .i64 0, .bool false, .bool false], .bool false, .int .i64 2]) := Lib.hid (by unfold djV; rw [← Bool.and_assoc, ← jobB_zero]; simp [h0])
  have H0 := Lib.hid h0
  clear h0
  obtain ⟨wB, hwB⟩ : ∃ wB, (((w.alloc (.cells #[.int .i64 n, .int .i64 r, .int .i64 c, .int .i64 cr, .int .i64 z0, .int .i64 z1, .int .i64 z2, .int .i64 z3, .int .i64 side, .slice a l.length cap, .int .i64 least, .int .i64 lead] 65)).alloc (.cells #[.int .i64 0, .int .i64 0, .int .i64 0, .int .i64 0, .int .i64 0, .int .i64 0, .bool false, .bool false] 53)).alloc (.cells #[.int .i64 n, .int .i64 r, .int .i64 c, .int .i64 0, .int .i64 0, .int .i64 cr, .bool true, .bool false] 53)).setCell ⟨w.heap.size + 2, 7, none⟩ (.bool false) = wB := ⟨_, rfl⟩
  have hb : Below w.heap.size w wB := by rw [← hwB]; exact ((((Below.refl _ _).alloc (Nat.le_refl _) _).alloc (by simp) _).alloc (by simp <;> omega) _).setCell (p := ⟨w.heap.size + 2, 7, none⟩) (by simp) _
  have p0 : wB.cell? ⟨w.heap.size, 0, none⟩ = some (.int .i64 n) := by rw [← hwB, World.cell?_setCell_other _ _ _ _ (by simp)]; simp [go_sem]
  have p1 : wB.cell? ⟨w.heap.size, 1, none⟩ = some (.int .i64 r) := by rw [← hwB, World.cell?_setCell_other _ _ _ _ (by simp)]; simp [go_sem]
  have p2 : wB.cell? ⟨w.heap.size, 2, none⟩ = some (.int .i64 c) := by rw [← hwB, World.cell?_setCell_other _ _ _ _ (by simp)]; simp [go_sem]
  have p3 : wB.cell? ⟨w.heap.size, 3, none⟩ = some (.int .i64 cr) := by rw [← hwB, World.cell?_setCell_other _ _ _ _ (by simp)]; simp [go_sem]
  have p4 : wB.cell? ⟨w.heap.size, 4, none⟩ = some (.int .i64 z0) := by rw [← hwB, World.cell?_setCell_other _ _ _ _ (by simp)]; simp [go_sem]
  have p5 : wB.cell? ⟨w.heap.size, 5, none⟩ = some (.int .i64 z1) := by rw [← hwB, World.cell?_setCell_other _ _ _ _ (by simp)]; simp [go_sem]
  have p6 : wB.cell? ⟨w.heap.size, 6, none⟩ = some (.int .i64 z2) := by rw [← hwB, World.cell?_setCell_other _ _ _ _ (by simp)]; simp [go_sem]
  have p7 : wB.cell? ⟨w.heap.size, 7, none⟩ = some (.int .i64 z3) := by rw [← hwB, World.cell?_setCell_other _ _ _ _ (by simp)]; simp [go_sem]
  have p8 : wB.cell? ⟨w.heap.size, 8, none⟩ = some (.int .i64 side) := by rw [← hwB, World.cell?_setCell_other _ _ _ _ (by simp)]; simp [go_sem]
  have p9 : wB.cell? ⟨w.heap.size, 9, none⟩ = some (.slice a l.length cap) := by rw [← hwB, World.cell?_setCell_other _ _ _ _ (by simp)]; simp [go_sem]
  have p10 : wB.cell? ⟨w.heap.size, 10, none⟩ = some (.int .i64 least) := by rw [← hwB, World.cell?_setCell_other _ _ _ _ (by simp)]; simp [go_sem]
  have p11 : wB.cell? ⟨w.heap.size, 11, none⟩ = some (.int .i64 lead) := by rw [← hwB, World.cell?_setCell_other _ _ _ _ (by simp)]; simp [go_sem]
  have r0 : wB.cell? ⟨w.heap.size + 1, 0, none⟩ = some (.int .i64 0) := by rw [← hwB, World.cell?_setCell_other _ _ _ _ (by simp)]; simp [go_sem]
  have s0 : wB.frozen? ⟨w.heap.size + 1, 0, none⟩ = false := by rw [← hwB, World.frozen?_setCell]; simp [go_sem]
  have r1 : wB.cell? ⟨w.heap.size + 1, 1, none⟩ = some (.int .i64 0) := by rw [← hwB, World.cell?_setCell_other _ _ _ _ (by simp)]; simp [go_sem]
  have s1 : wB.frozen? ⟨w.heap.size + 1, 1, none⟩ = false := by rw [← hwB, World.frozen?_setCell]; simp [go_sem]
  have r2 : wB.cell? ⟨w.heap.size + 1, 2, none⟩ = some (.int .i64 0) := by rw [← hwB, World.cell?_setCell_other _ _ _ _ (by simp)]; simp [go_sem]
  have s2 : wB.frozen? ⟨w.heap.size + 1, 2, none⟩ = false := by rw [← hwB, World.frozen?_setCell]; simp [go_sem]
  have r3 : wB.cell? ⟨w.heap.size + 1, 3, none⟩ = some (.int .i64 0) := by rw [← hwB, World.cell?_setCell_other _ _ _ _ (by simp)]; simp [go_sem]
  have s3 : wB.frozen? ⟨w.heap.size + 1, 3, none⟩ = false := by rw [← hwB, World.frozen?_setCell]; simp [go_sem]
  have r4 : wB.cell? ⟨w.heap.size + 1, 4, none⟩ = some (.int .i64 0) := by rw [← hwB, World.cell?_setCell_other _ _ _ _ (by simp)]; simp [go_sem]
  have s4 : wB.frozen? ⟨w.heap.size + 1, 4, none⟩ = false := by rw [← hwB, World.frozen?_setCell]; simp [go_sem]
  have r5 : wB.cell? ⟨w.heap.size + 1, 5, none⟩ = some (.int .i64 0) := by rw [← hwB, World.cell?_setCell_other _ _ _ _ (by simp)]; simp [go_sem]
  have s5 : wB.frozen? ⟨w.heap.size + 1, 5, none⟩ = false := by rw [← hwB, World.frozen?_setCell]; simp [go_sem]
  have r6 : wB.cell? ⟨w.heap.size + 1, 6, none⟩ = some (.bool false) := by rw [← hwB, World.cell?_setCell_other _ _ _ _ (by simp)]; simp [go_sem]
  have s6 : wB.frozen? ⟨w.heap.size + 1, 6, none⟩ = false := by rw [← hwB, World.frozen?_setCell]; simp [go_sem]
  have r7 : wB.cell? ⟨w.heap.size + 1, 7, none⟩ = some (.bool false) := by rw [← hwB, World.cell?_setCell_other _ _ _ _ (by simp)]; simp [go_sem]
  have s7 : wB.frozen? ⟨w.heap.size + 1, 7, none⟩ = false := by rw [← hwB, World.frozen?_setCell]; simp [go_sem]
  have y0 : wB.cell? ⟨w.heap.size + 2, 0, none⟩ = some (.int .i64 n) := by rw [← hwB, World.cell?_setCell_other _ _ _ _ (by simp)]; simp [go_sem]
  have t0 : wB.frozen? ⟨w.heap.size + 2, 0, none⟩ = false := by rw [← hwB, World.frozen?_setCell]; simp [go_sem]
  have y1 : wB.cell? ⟨w.heap.size + 2, 1, none⟩ = some (.int .i64 r) := by rw [← hwB, World.cell?_setCell_other _ _ _ _ (by simp)]; simp [go_sem]
  have t1 : wB.frozen? ⟨w.heap.size + 2, 1, none⟩ = false := by rw [← hwB, World.frozen?_setCell]; simp [go_sem]
  have y2 : wB.cell? ⟨w.heap.size + 2, 2, none⟩ = some (.int .i64 c) := by rw [← hwB, World.cell?_setCell_other _ _ _ _ (by simp)]; simp [go_sem]
  have t2 : wB.frozen? ⟨w.heap.size + 2, 2, none⟩ = false := by rw [← hwB, World.frozen?_setCell]; simp [go_sem]
  have y3 : wB.cell? ⟨w.heap.size + 2, 3, none⟩ = some (.int .i64 0) := by rw [← hwB, World.cell?_setCell_other _ _ _ _ (by simp)]; simp [go_sem]
  have t3 : wB.frozen? ⟨w.heap.size + 2, 3, none⟩ = false := by rw [← hwB, World.frozen?_setCell]; simp [go_sem]
  have y4 : wB.cell? ⟨w.heap.size + 2, 4, none⟩ = some (.int .i64 0) := by rw [← hwB, World.cell?_setCell_other _ _ _ _ (by simp)]; simp [go_sem]
  have t4 : wB.frozen? ⟨w.heap.size + 2, 4, none⟩ = false := by rw [← hwB, World.frozen?_setCell]; simp [go_sem]
  have y5 : wB.cell? ⟨w.heap.size + 2, 5, none⟩ = some (.int .i64 cr) := by rw [← hwB, World.cell?_setCell_other _ _ _ _ (by simp)]; simp [go_sem]
  have t5 : wB.frozen? ⟨w.heap.size + 2, 5, none⟩ = false := by rw [← hwB, World.frozen?_setCell]; simp [go_sem]
  have y6 : wB.cell? ⟨w.heap.size + 2, 6, none⟩ = some (.bool true) := by rw [← hwB, World.cell?_setCell_other _ _ _ _ (by simp)]; simp [go_sem]
  have t6 : wB.frozen? ⟨w.heap.size + 2, 6, none⟩ = false := by rw [← hwB, World.frozen?_setCell]; simp [go_sem]
  have y7 : wB.cell? ⟨w.heap.size + 2, 7, none⟩ = some (.bool false) := by rw [← hwB]; exact World.cell?_setCell_same (u := .bool false) _ _ _ (by simp [go_sem])
  have t7 : wB.frozen? ⟨w.heap.size + 2, 7, none⟩ = false := by rw [← hwB, World.frozen?_setCell]; simp [go_sem]

  clear hP hle hld
  go_enter Try.func38, Try.ntmps38
  go_wp2_with fail
  refine (HJ.out _).mono ?_
  rintro e w1 ⟨rfl, hb1⟩
  rw [H0.out]
  have hzr := block_lt y0
  have s0 := (Below.frozen hb1 (p := ⟨w.heap.size + 1, 0, none⟩) (Nat.lt_of_succ_lt hzr)).trans s0
  have r0 := cell_below r0 hb1
  have t0 := (Below.frozen hb1 (p := ⟨w.heap.size + 2, 0, none⟩) hzr).trans t0
  have s1 := (Below.frozen hb1 (p := ⟨w.heap.size + 1, 1, none⟩) (Nat.lt_of_succ_lt hzr)).trans s1
  have r1 := cell_below r1 hb1
  have t1 := (Below.frozen hb1 (p := ⟨w.heap.size + 2, 1, none⟩) hzr).trans t1
  have s2 := (Below.frozen hb1 (p := ⟨w.heap.size + 1, 2, none⟩) (Nat.lt_of_succ_lt hzr)).trans s2
  have r2 := cell_below r2 hb1
  have t2 := (Below.frozen hb1 (p := ⟨w.heap.size + 2, 2, none⟩) hzr).trans t2
  have s3 := (Below.frozen hb1 (p := ⟨w.heap.size + 1, 3, none⟩) (Nat.lt_of_succ_lt hzr)).trans s3
  have r3 := cell_below r3 hb1
  have t3 := (Below.frozen hb1 (p := ⟨w.heap.size + 2, 3, none⟩) hzr).trans t3
  have s4 := (Below.frozen hb1 (p := ⟨w.heap.size + 1, 4, none⟩) (Nat.lt_of_succ_lt hzr)).trans s4
  have r4 := cell_below r4 hb1
  have t4 := (Below.frozen hb1 (p := ⟨w.heap.size + 2, 4, none⟩) hzr).trans t4
  have s5 := (Below.frozen hb1 (p := ⟨w.heap.size + 1, 5, none⟩) (Nat.lt_of_succ_lt hzr)).trans s5
  have r5 := cell_below r5 hb1
  have t5 := (Below.frozen hb1 (p := ⟨w.heap.size + 2, 5, none⟩) hzr).trans t5
  have s6 := (Below.frozen hb1 (p := ⟨w.heap.size + 1, 6, none⟩) (Nat.lt_of_succ_lt hzr)).trans s6
  have r6 := cell_below r6 hb1
  have t6 := (Below.frozen hb1 (p := ⟨w.heap.size + 2, 6, none⟩) hzr).trans t6
  have s7 := (Below.frozen hb1 (p := ⟨w.heap.size + 1, 7, none⟩) (Nat.lt_of_succ_lt hzr)).trans s7
  have r7 := cell_below r7 hb1
  have t7 := (Below.frozen hb1 (p := ⟨w.heap.size + 2, 7, none⟩) hzr).trans t7
  have y0 := cell_below y0 hb1
  have y1 := cell_below y1 hb1
  have y2 := cell_below y2 hb1
  have y3 := cell_below y3 hb1
  have y4 := cell_below y4 hb1
  have y5 := cell_below y5 hb1
  have y6 := cell_below y6 hb1
  have y7 := cell_below y7 hb1
  have p0 := cell_below p0 hb1
  have p1 := cell_below p1 hb1
  have p2 := cell_below p2 hb1
  have p3 := cell_below p3 hb1
  have p4 := cell_below p4 hb1
  have p5 := cell_below p5 hb1
  have p6 := cell_below p6 hb1
  have p7 := cell_below p7 hb1
  have p8 := cell_below p8 hb1
  have p9 := cell_below p9 hb1
  have p10 := cell_below p10 hb1
  have p11 := cell_below p11 hb1
  have hb := below_onN hb hb1 hb.size
  clear hzr
  clear hwB hb1
  go_wp2_with fail
  obtain ⟨wz, hwz, x0, x1, x2, x3, x4, x5, x6, x7, hbz⟩ := set8 _ (w.heap.size + 1) (.int .i64 0) (.int .i64 0) (.int .i64 0) (.int .i64 0) (.int .i64 0) (.int .i64 0) (.bool false) (.bool false) (eight (isSome_of r0) (isSome_of r1) (isSome_of r2) (isSome_of r3) (isSome_of r4) (isSome_of r5) (isSome_of r6) (isSome_of r7))
  have hb := hbz w.heap.size w (Nat.le_succ _) hb
  clear hbz r0 s0 r1 s1 r2 s2 r3 s3 r4 s4 r5 s5 r6 s6 r7 s7
  rw [hwz]
  clear hwz
  refine bodyPost_ret (v := .tuple #[.agg #[.int .i64 0, .int .i64 0, .int .i64 0, .int .i64 0, .int .i64 0, .int .i64 0, .bool false, .bool false], .bool false, .int .i64 2]) (by simp [results, Try.results38, go_sem, x0, x1, x2, x3, x4, x5, x6, x7]) rfl ?_
  exact ⟨by rw [HV.out], hb⟩

set_option maxRecDepth 100000 in
set_option maxHeartbeats 4000000 in
theorem refDueJob_c (n r c cr z0 z1 z2 z3 side : Int) (a : Option Addr) (l : List (Int × Int)) (cap : Nat) (least lead : Int) (w : World) (hP : PairsS w a l) (hle : I64 least) (hld : I64 lead) (h0 : jobB ⟨n, r, c, 0, 0, cr, true, false⟩ = true) (h2 : btw lead 0 100000 = false) :
    Calls Try.prog 38 #[.agg #[.int .i64 n, .int .i64 r, .int .i64 c, .int .i64 cr, .int .i64 z0, .int .i64 z1, .int .i64 z2, .int .i64 z3, .int .i64 side, .slice a l.length cap, .int .i64 least, .int .i64 lead]] w fun e w' => e = .returned (djV n r c cr z0 z1 z2 z3 side l least lead) ∧ Below w.heap.size w w' := by
  have HJ := Lib.hid (fun W => refJob_r ⟨n, r, c, 0, 0, cr, true, false⟩ W)
  have HV : Hid (djV n r c cr z0 z1 z2 z3 side l least lead = .tuple #[.agg #[.int .i64 0, .int .i64 0, .int .i64 0, .int .i64 0, .int .i64 0, .int .i64 0, .bool false, .bool false], .bool false, .int .i64 2]) := Lib.hid (by unfold djV; rw [← Bool.and_assoc, ← jobB_zero]; simp [h0, h2])
  have H0 := Lib.hid h0
  have H2 := Lib.hid (fun W => refFrom_v h2 W)
  clear h0 h2
  obtain ⟨wB, hwB⟩ : ∃ wB, (((w.alloc (.cells #[.int .i64 n, .int .i64 r, .int .i64 c, .int .i64 cr, .int .i64 z0, .int .i64 z1, .int .i64 z2, .int .i64 z3, .int .i64 side, .slice a l.length cap, .int .i64 least, .int .i64 lead] 65)).alloc (.cells #[.int .i64 0, .int .i64 0, .int .i64 0, .int .i64 0, .int .i64 0, .int .i64 0, .bool false, .bool false] 53)).alloc (.cells #[.int .i64 n, .int .i64 r, .int .i64 c, .int .i64 0, .int .i64 0, .int .i64 cr, .bool true, .bool false] 53)).setCell ⟨w.heap.size + 2, 7, none⟩ (.bool false) = wB := ⟨_, rfl⟩
  have hb : Below w.heap.size w wB := by rw [← hwB]; exact ((((Below.refl _ _).alloc (Nat.le_refl _) _).alloc (by simp) _).alloc (by simp <;> omega) _).setCell (p := ⟨w.heap.size + 2, 7, none⟩) (by simp) _
  have p0 : wB.cell? ⟨w.heap.size, 0, none⟩ = some (.int .i64 n) := by rw [← hwB, World.cell?_setCell_other _ _ _ _ (by simp)]; simp [go_sem]
  have p1 : wB.cell? ⟨w.heap.size, 1, none⟩ = some (.int .i64 r) := by rw [← hwB, World.cell?_setCell_other _ _ _ _ (by simp)]; simp [go_sem]
  have p2 : wB.cell? ⟨w.heap.size, 2, none⟩ = some (.int .i64 c) := by rw [← hwB, World.cell?_setCell_other _ _ _ _ (by simp)]; simp [go_sem]
  have p3 : wB.cell? ⟨w.heap.size, 3, none⟩ = some (.int .i64 cr) := by rw [← hwB, World.cell?_setCell_other _ _ _ _ (by simp)]; simp [go_sem]
  have p4 : wB.cell? ⟨w.heap.size, 4, none⟩ = some (.int .i64 z0) := by rw [← hwB, World.cell?_setCell_other _ _ _ _ (by simp)]; simp [go_sem]
  have p5 : wB.cell? ⟨w.heap.size, 5, none⟩ = some (.int .i64 z1) := by rw [← hwB, World.cell?_setCell_other _ _ _ _ (by simp)]; simp [go_sem]
  have p6 : wB.cell? ⟨w.heap.size, 6, none⟩ = some (.int .i64 z2) := by rw [← hwB, World.cell?_setCell_other _ _ _ _ (by simp)]; simp [go_sem]
  have p7 : wB.cell? ⟨w.heap.size, 7, none⟩ = some (.int .i64 z3) := by rw [← hwB, World.cell?_setCell_other _ _ _ _ (by simp)]; simp [go_sem]
  have p8 : wB.cell? ⟨w.heap.size, 8, none⟩ = some (.int .i64 side) := by rw [← hwB, World.cell?_setCell_other _ _ _ _ (by simp)]; simp [go_sem]
  have p9 : wB.cell? ⟨w.heap.size, 9, none⟩ = some (.slice a l.length cap) := by rw [← hwB, World.cell?_setCell_other _ _ _ _ (by simp)]; simp [go_sem]
  have p10 : wB.cell? ⟨w.heap.size, 10, none⟩ = some (.int .i64 least) := by rw [← hwB, World.cell?_setCell_other _ _ _ _ (by simp)]; simp [go_sem]
  have p11 : wB.cell? ⟨w.heap.size, 11, none⟩ = some (.int .i64 lead) := by rw [← hwB, World.cell?_setCell_other _ _ _ _ (by simp)]; simp [go_sem]
  have r0 : wB.cell? ⟨w.heap.size + 1, 0, none⟩ = some (.int .i64 0) := by rw [← hwB, World.cell?_setCell_other _ _ _ _ (by simp)]; simp [go_sem]
  have s0 : wB.frozen? ⟨w.heap.size + 1, 0, none⟩ = false := by rw [← hwB, World.frozen?_setCell]; simp [go_sem]
  have r1 : wB.cell? ⟨w.heap.size + 1, 1, none⟩ = some (.int .i64 0) := by rw [← hwB, World.cell?_setCell_other _ _ _ _ (by simp)]; simp [go_sem]
  have s1 : wB.frozen? ⟨w.heap.size + 1, 1, none⟩ = false := by rw [← hwB, World.frozen?_setCell]; simp [go_sem]
  have r2 : wB.cell? ⟨w.heap.size + 1, 2, none⟩ = some (.int .i64 0) := by rw [← hwB, World.cell?_setCell_other _ _ _ _ (by simp)]; simp [go_sem]
  have s2 : wB.frozen? ⟨w.heap.size + 1, 2, none⟩ = false := by rw [← hwB, World.frozen?_setCell]; simp [go_sem]
  have r3 : wB.cell? ⟨w.heap.size + 1, 3, none⟩ = some (.int .i64 0) := by rw [← hwB, World.cell?_setCell_other _ _ _ _ (by simp)]; simp [go_sem]
  have s3 : wB.frozen? ⟨w.heap.size + 1, 3, none⟩ = false := by rw [← hwB, World.frozen?_setCell]; simp [go_sem]
  have r4 : wB.cell? ⟨w.heap.size + 1, 4, none⟩ = some (.int .i64 0) := by rw [← hwB, World.cell?_setCell_other _ _ _ _ (by simp)]; simp [go_sem]
  have s4 : wB.frozen? ⟨w.heap.size + 1, 4, none⟩ = false := by rw [← hwB, World.frozen?_setCell]; simp [go_sem]
  have r5 : wB.cell? ⟨w.heap.size + 1, 5, none⟩ = some (.int .i64 0) := by rw [← hwB, World.cell?_setCell_other _ _ _ _ (by simp)]; simp [go_sem]
  have s5 : wB.frozen? ⟨w.heap.size + 1, 5, none⟩ = false := by rw [← hwB, World.frozen?_setCell]; simp [go_sem]
  have r6 : wB.cell? ⟨w.heap.size + 1, 6, none⟩ = some (.bool false) := by rw [← hwB, World.cell?_setCell_other _ _ _ _ (by simp)]; simp [go_sem]
  have s6 : wB.frozen? ⟨w.heap.size + 1, 6, none⟩ = false := by rw [← hwB, World.frozen?_setCell]; simp [go_sem]
  have r7 : wB.cell? ⟨w.heap.size + 1, 7, none⟩ = some (.bool false) := by rw [← hwB, World.cell?_setCell_other _ _ _ _ (by simp)]; simp [go_sem]
  have s7 : wB.frozen? ⟨w.heap.size + 1, 7, none⟩ = false := by rw [← hwB, World.frozen?_setCell]; simp [go_sem]
  have y0 : wB.cell? ⟨w.heap.size + 2, 0, none⟩ = some (.int .i64 n) := by rw [← hwB, World.cell?_setCell_other _ _ _ _ (by simp)]; simp [go_sem]
  have t0 : wB.frozen? ⟨w.heap.size + 2, 0, none⟩ = false := by rw [← hwB, World.frozen?_setCell]; simp [go_sem]
  have y1 : wB.cell? ⟨w.heap.size + 2, 1, none⟩ = some (.int .i64 r) := by rw [← hwB, World.cell?_setCell_other _ _ _ _ (by simp)]; simp [go_sem]
  have t1 : wB.frozen? ⟨w.heap.size + 2, 1, none⟩ = false := by rw [← hwB, World.frozen?_setCell]; simp [go_sem]
  have y2 : wB.cell? ⟨w.heap.size + 2, 2, none⟩ = some (.int .i64 c) := by rw [← hwB, World.cell?_setCell_other _ _ _ _ (by simp)]; simp [go_sem]
  have t2 : wB.frozen? ⟨w.heap.size + 2, 2, none⟩ = false := by rw [← hwB, World.frozen?_setCell]; simp [go_sem]
  have y3 : wB.cell? ⟨w.heap.size + 2, 3, none⟩ = some (.int .i64 0) := by rw [← hwB, World.cell?_setCell_other _ _ _ _ (by simp)]; simp [go_sem]
  have t3 : wB.frozen? ⟨w.heap.size + 2, 3, none⟩ = false := by rw [← hwB, World.frozen?_setCell]; simp [go_sem]
  have y4 : wB.cell? ⟨w.heap.size + 2, 4, none⟩ = some (.int .i64 0) := by rw [← hwB, World.cell?_setCell_other _ _ _ _ (by simp)]; simp [go_sem]
  have t4 : wB.frozen? ⟨w.heap.size + 2, 4, none⟩ = false := by rw [← hwB, World.frozen?_setCell]; simp [go_sem]
  have y5 : wB.cell? ⟨w.heap.size + 2, 5, none⟩ = some (.int .i64 cr) := by rw [← hwB, World.cell?_setCell_other _ _ _ _ (by simp)]; simp [go_sem]
  have t5 : wB.frozen? ⟨w.heap.size + 2, 5, none⟩ = false := by rw [← hwB, World.frozen?_setCell]; simp [go_sem]
  have y6 : wB.cell? ⟨w.heap.size + 2, 6, none⟩ = some (.bool true) := by rw [← hwB, World.cell?_setCell_other _ _ _ _ (by simp)]; simp [go_sem]
  have t6 : wB.frozen? ⟨w.heap.size + 2, 6, none⟩ = false := by rw [← hwB, World.frozen?_setCell]; simp [go_sem]
  have y7 : wB.cell? ⟨w.heap.size + 2, 7, none⟩ = some (.bool false) := by rw [← hwB]; exact World.cell?_setCell_same (u := .bool false) _ _ _ (by simp [go_sem])
  have t7 : wB.frozen? ⟨w.heap.size + 2, 7, none⟩ = false := by rw [← hwB, World.frozen?_setCell]; simp [go_sem]

  clear hP hle hld
  go_enter Try.func38, Try.ntmps38
  go_wp2_with fail
  refine (HJ.out _).mono ?_
  rintro e w1 ⟨rfl, hb1⟩
  rw [H0.out]
  have hzr := block_lt y0
  have s0 := (Below.frozen hb1 (p := ⟨w.heap.size + 1, 0, none⟩) (Nat.lt_of_succ_lt hzr)).trans s0
  have r0 := cell_below r0 hb1
  have t0 := (Below.frozen hb1 (p := ⟨w.heap.size + 2, 0, none⟩) hzr).trans t0
  have s1 := (Below.frozen hb1 (p := ⟨w.heap.size + 1, 1, none⟩) (Nat.lt_of_succ_lt hzr)).trans s1
  have r1 := cell_below r1 hb1
  have t1 := (Below.frozen hb1 (p := ⟨w.heap.size + 2, 1, none⟩) hzr).trans t1
  have s2 := (Below.frozen hb1 (p := ⟨w.heap.size + 1, 2, none⟩) (Nat.lt_of_succ_lt hzr)).trans s2
  have r2 := cell_below r2 hb1
  have t2 := (Below.frozen hb1 (p := ⟨w.heap.size + 2, 2, none⟩) hzr).trans t2
  have s3 := (Below.frozen hb1 (p := ⟨w.heap.size + 1, 3, none⟩) (Nat.lt_of_succ_lt hzr)).trans s3
  have r3 := cell_below r3 hb1
  have t3 := (Below.frozen hb1 (p := ⟨w.heap.size + 2, 3, none⟩) hzr).trans t3
  have s4 := (Below.frozen hb1 (p := ⟨w.heap.size + 1, 4, none⟩) (Nat.lt_of_succ_lt hzr)).trans s4
  have r4 := cell_below r4 hb1
  have t4 := (Below.frozen hb1 (p := ⟨w.heap.size + 2, 4, none⟩) hzr).trans t4
  have s5 := (Below.frozen hb1 (p := ⟨w.heap.size + 1, 5, none⟩) (Nat.lt_of_succ_lt hzr)).trans s5
  have r5 := cell_below r5 hb1
  have t5 := (Below.frozen hb1 (p := ⟨w.heap.size + 2, 5, none⟩) hzr).trans t5
  have s6 := (Below.frozen hb1 (p := ⟨w.heap.size + 1, 6, none⟩) (Nat.lt_of_succ_lt hzr)).trans s6
  have r6 := cell_below r6 hb1
  have t6 := (Below.frozen hb1 (p := ⟨w.heap.size + 2, 6, none⟩) hzr).trans t6
  have s7 := (Below.frozen hb1 (p := ⟨w.heap.size + 1, 7, none⟩) (Nat.lt_of_succ_lt hzr)).trans s7
  have r7 := cell_below r7 hb1
  have t7 := (Below.frozen hb1 (p := ⟨w.heap.size + 2, 7, none⟩) hzr).trans t7
  have y0 := cell_below y0 hb1
  have y1 := cell_below y1 hb1
  have y2 := cell_below y2 hb1
  have y3 := cell_below y3 hb1
  have y4 := cell_below y4 hb1
  have y5 := cell_below y5 hb1
  have y6 := cell_below y6 hb1
  have y7 := cell_below y7 hb1
  have p0 := cell_below p0 hb1
  have p1 := cell_below p1 hb1
  have p2 := cell_below p2 hb1
  have p3 := cell_below p3 hb1
  have p4 := cell_below p4 hb1
  have p5 := cell_below p5 hb1
  have p6 := cell_below p6 hb1
  have p7 := cell_below p7 hb1
  have p8 := cell_below p8 hb1
  have p9 := cell_below p9 hb1
  have p10 := cell_below p10 hb1
  have p11 := cell_below p11 hb1
  have hb := below_onN hb hb1 hb.size
  clear hzr
  clear hwB hb1
  go_wp2_with fail
  refine (H2.out _).mono ?_
  rintro e w2 ⟨rfl, rfl⟩
  go_wp2_with fail
  obtain ⟨wz, hwz, x0, x1, x2, x3, x4, x5, x6, x7, hbz⟩ := set8 _ (w.heap.size + 1) (.int .i64 0) (.int .i64 0) (.int .i64 0) (.int .i64 0) (.int .i64 0) (.int .i64 0) (.bool false) (.bool false) (eight (isSome_of r0) (isSome_of r1) (isSome_of r2) (isSome_of r3) (isSome_of r4) (isSome_of r5) (isSome_of r6) (isSome_of r7))
  have hb := hbz w.heap.size w (Nat.le_succ _) hb
  clear hbz r0 s0 r1 s1 r2 s2 r3 s3 r4 s4 r5 s5 r6 s6 r7 s7
  rw [hwz]
  clear hwz
  refine bodyPost_ret (v := .tuple #[.agg #[.int .i64 0, .int .i64 0, .int .i64 0, .int .i64 0, .int .i64 0, .int .i64 0, .bool false, .bool false], .bool false, .int .i64 2]) (by simp [results, Try.results38, go_sem, x0, x1, x2, x3, x4, x5, x6, x7]) rfl ?_
  exact ⟨by rw [HV.out], hb⟩

set_option maxRecDepth 100000 in
set_option maxHeartbeats 4000000 in
theorem refDueJob_d (n r c cr z0 z1 z2 z3 side : Int) (a : Option Addr) (l : List (Int × Int)) (cap : Nat) (least lead : Int) (w : World) (hP : PairsS w a l) (hle : I64 least) (hld : I64 lead) (h0 : jobB ⟨n, r, c, 0, 0, cr, true, false⟩ = true) (h2 : btw lead 0 100000 = true) (h3 : dqO z0 z1 z2 z3 side l least = false) :
    Calls Try.prog 38 #[.agg #[.int .i64 n, .int .i64 r, .int .i64 c, .int .i64 cr, .int .i64 z0, .int .i64 z1, .int .i64 z2, .int .i64 z3, .int .i64 side, .slice a l.length cap, .int .i64 least, .int .i64 lead]] w fun e w' => e = .returned (djV n r c cr z0 z1 z2 z3 side l least lead) ∧ Below w.heap.size w w' := by
  have HJ := Lib.hid (fun W => refJob_r ⟨n, r, c, 0, 0, cr, true, false⟩ W)
  have HV : Hid (djV n r c cr z0 z1 z2 z3 side l least lead = .tuple #[.agg #[.int .i64 0, .int .i64 0, .int .i64 0, .int .i64 0, .int .i64 0, .int .i64 0, .bool false, .bool false], .bool false, .int .i64 (dueE z0 z1 z2 z3 side l least)]) := Lib.hid (by unfold djV; rw [← Bool.and_assoc, ← jobB_zero]; simp [h0, h2, h3])
  have H0 := Lib.hid h0
  have H2 := Lib.hid (fun W => refFrom_v h2 W)
  have HD := Lib.hid (fun W (hW : Below w.heap.size w W) => refDue_any z0 z1 z2 z3 side least a l cap W (hP.below hW) hle)
  clear h0 h2
  obtain ⟨wB, hwB⟩ : ∃ wB, (((w.alloc (.cells #[.int .i64 n, .int .i64 r, .int .i64 c, .int .i64 cr, .int .i64 z0, .int .i64 z1, .int .i64 z2, .int .i64 z3, .int .i64 side, .slice a l.length cap, .int .i64 least, .int .i64 lead] 65)).alloc (.cells #[.int .i64 0, .int .i64 0, .int .i64 0, .int .i64 0, .int .i64 0, .int .i64 0, .bool false, .bool false] 53)).alloc (.cells #[.int .i64 n, .int .i64 r, .int .i64 c, .int .i64 0, .int .i64 0, .int .i64 cr, .bool true, .bool false] 53)).setCell ⟨w.heap.size + 2, 7, none⟩ (.bool false) = wB := ⟨_, rfl⟩
  have hb : Below w.heap.size w wB := by rw [← hwB]; exact ((((Below.refl _ _).alloc (Nat.le_refl _) _).alloc (by simp) _).alloc (by simp <;> omega) _).setCell (p := ⟨w.heap.size + 2, 7, none⟩) (by simp) _
  have p0 : wB.cell? ⟨w.heap.size, 0, none⟩ = some (.int .i64 n) := by rw [← hwB, World.cell?_setCell_other _ _ _ _ (by simp)]; simp [go_sem]
  have p1 : wB.cell? ⟨w.heap.size, 1, none⟩ = some (.int .i64 r) := by rw [← hwB, World.cell?_setCell_other _ _ _ _ (by simp)]; simp [go_sem]
  have p2 : wB.cell? ⟨w.heap.size, 2, none⟩ = some (.int .i64 c) := by rw [← hwB, World.cell?_setCell_other _ _ _ _ (by simp)]; simp [go_sem]
  have p3 : wB.cell? ⟨w.heap.size, 3, none⟩ = some (.int .i64 cr) := by rw [← hwB, World.cell?_setCell_other _ _ _ _ (by simp)]; simp [go_sem]
  have p4 : wB.cell? ⟨w.heap.size, 4, none⟩ = some (.int .i64 z0) := by rw [← hwB, World.cell?_setCell_other _ _ _ _ (by simp)]; simp [go_sem]
  have p5 : wB.cell? ⟨w.heap.size, 5, none⟩ = some (.int .i64 z1) := by rw [← hwB, World.cell?_setCell_other _ _ _ _ (by simp)]; simp [go_sem]
  have p6 : wB.cell? ⟨w.heap.size, 6, none⟩ = some (.int .i64 z2) := by rw [← hwB, World.cell?_setCell_other _ _ _ _ (by simp)]; simp [go_sem]
  have p7 : wB.cell? ⟨w.heap.size, 7, none⟩ = some (.int .i64 z3) := by rw [← hwB, World.cell?_setCell_other _ _ _ _ (by simp)]; simp [go_sem]
  have p8 : wB.cell? ⟨w.heap.size, 8, none⟩ = some (.int .i64 side) := by rw [← hwB, World.cell?_setCell_other _ _ _ _ (by simp)]; simp [go_sem]
  have p9 : wB.cell? ⟨w.heap.size, 9, none⟩ = some (.slice a l.length cap) := by rw [← hwB, World.cell?_setCell_other _ _ _ _ (by simp)]; simp [go_sem]
  have p10 : wB.cell? ⟨w.heap.size, 10, none⟩ = some (.int .i64 least) := by rw [← hwB, World.cell?_setCell_other _ _ _ _ (by simp)]; simp [go_sem]
  have p11 : wB.cell? ⟨w.heap.size, 11, none⟩ = some (.int .i64 lead) := by rw [← hwB, World.cell?_setCell_other _ _ _ _ (by simp)]; simp [go_sem]
  have r0 : wB.cell? ⟨w.heap.size + 1, 0, none⟩ = some (.int .i64 0) := by rw [← hwB, World.cell?_setCell_other _ _ _ _ (by simp)]; simp [go_sem]
  have s0 : wB.frozen? ⟨w.heap.size + 1, 0, none⟩ = false := by rw [← hwB, World.frozen?_setCell]; simp [go_sem]
  have r1 : wB.cell? ⟨w.heap.size + 1, 1, none⟩ = some (.int .i64 0) := by rw [← hwB, World.cell?_setCell_other _ _ _ _ (by simp)]; simp [go_sem]
  have s1 : wB.frozen? ⟨w.heap.size + 1, 1, none⟩ = false := by rw [← hwB, World.frozen?_setCell]; simp [go_sem]
  have r2 : wB.cell? ⟨w.heap.size + 1, 2, none⟩ = some (.int .i64 0) := by rw [← hwB, World.cell?_setCell_other _ _ _ _ (by simp)]; simp [go_sem]
  have s2 : wB.frozen? ⟨w.heap.size + 1, 2, none⟩ = false := by rw [← hwB, World.frozen?_setCell]; simp [go_sem]
  have r3 : wB.cell? ⟨w.heap.size + 1, 3, none⟩ = some (.int .i64 0) := by rw [← hwB, World.cell?_setCell_other _ _ _ _ (by simp)]; simp [go_sem]
  have s3 : wB.frozen? ⟨w.heap.size + 1, 3, none⟩ = false := by rw [← hwB, World.frozen?_setCell]; simp [go_sem]
  have r4 : wB.cell? ⟨w.heap.size + 1, 4, none⟩ = some (.int .i64 0) := by rw [← hwB, World.cell?_setCell_other _ _ _ _ (by simp)]; simp [go_sem]
  have s4 : wB.frozen? ⟨w.heap.size + 1, 4, none⟩ = false := by rw [← hwB, World.frozen?_setCell]; simp [go_sem]
  have r5 : wB.cell? ⟨w.heap.size + 1, 5, none⟩ = some (.int .i64 0) := by rw [← hwB, World.cell?_setCell_other _ _ _ _ (by simp)]; simp [go_sem]
  have s5 : wB.frozen? ⟨w.heap.size + 1, 5, none⟩ = false := by rw [← hwB, World.frozen?_setCell]; simp [go_sem]
  have r6 : wB.cell? ⟨w.heap.size + 1, 6, none⟩ = some (.bool false) := by rw [← hwB, World.cell?_setCell_other _ _ _ _ (by simp)]; simp [go_sem]
  have s6 : wB.frozen? ⟨w.heap.size + 1, 6, none⟩ = false := by rw [← hwB, World.frozen?_setCell]; simp [go_sem]
  have r7 : wB.cell? ⟨w.heap.size + 1, 7, none⟩ = some (.bool false) := by rw [← hwB, World.cell?_setCell_other _ _ _ _ (by simp)]; simp [go_sem]
  have s7 : wB.frozen? ⟨w.heap.size + 1, 7, none⟩ = false := by rw [← hwB, World.frozen?_setCell]; simp [go_sem]
  have y0 : wB.cell? ⟨w.heap.size + 2, 0, none⟩ = some (.int .i64 n) := by rw [← hwB, World.cell?_setCell_other _ _ _ _ (by simp)]; simp [go_sem]
  have t0 : wB.frozen? ⟨w.heap.size + 2, 0, none⟩ = false := by rw [← hwB, World.frozen?_setCell]; simp [go_sem]
  have y1 : wB.cell? ⟨w.heap.size + 2, 1, none⟩ = some (.int .i64 r) := by rw [← hwB, World.cell?_setCell_other _ _ _ _ (by simp)]; simp [go_sem]
  have t1 : wB.frozen? ⟨w.heap.size + 2, 1, none⟩ = false := by rw [← hwB, World.frozen?_setCell]; simp [go_sem]
  have y2 : wB.cell? ⟨w.heap.size + 2, 2, none⟩ = some (.int .i64 c) := by rw [← hwB, World.cell?_setCell_other _ _ _ _ (by simp)]; simp [go_sem]
  have t2 : wB.frozen? ⟨w.heap.size + 2, 2, none⟩ = false := by rw [← hwB, World.frozen?_setCell]; simp [go_sem]
  have y3 : wB.cell? ⟨w.heap.size + 2, 3, none⟩ = some (.int .i64 0) := by rw [← hwB, World.cell?_setCell_other _ _ _ _ (by simp)]; simp [go_sem]
  have t3 : wB.frozen? ⟨w.heap.size + 2, 3, none⟩ = false := by rw [← hwB, World.frozen?_setCell]; simp [go_sem]
  have y4 : wB.cell? ⟨w.heap.size + 2, 4, none⟩ = some (.int .i64 0) := by rw [← hwB, World.cell?_setCell_other _ _ _ _ (by simp)]; simp [go_sem]
  have t4 : wB.frozen? ⟨w.heap.size + 2, 4, none⟩ = false := by rw [← hwB, World.frozen?_setCell]; simp [go_sem]
  have y5 : wB.cell? ⟨w.heap.size + 2, 5, none⟩ = some (.int .i64 cr) := by rw [← hwB, World.cell?_setCell_other _ _ _ _ (by simp)]; simp [go_sem]
  have t5 : wB.frozen? ⟨w.heap.size + 2, 5, none⟩ = false := by rw [← hwB, World.frozen?_setCell]; simp [go_sem]
  have y6 : wB.cell? ⟨w.heap.size + 2, 6, none⟩ = some (.bool true) := by rw [← hwB, World.cell?_setCell_other _ _ _ _ (by simp)]; simp [go_sem]
  have t6 : wB.frozen? ⟨w.heap.size + 2, 6, none⟩ = false := by rw [← hwB, World.frozen?_setCell]; simp [go_sem]
  have y7 : wB.cell? ⟨w.heap.size + 2, 7, none⟩ = some (.bool false) := by rw [← hwB]; exact World.cell?_setCell_same (u := .bool false) _ _ _ (by simp [go_sem])
  have t7 : wB.frozen? ⟨w.heap.size + 2, 7, none⟩ = false := by rw [← hwB, World.frozen?_setCell]; simp [go_sem]

  clear hP hle hld
  go_enter Try.func38, Try.ntmps38
  go_wp2_with fail
  refine (HJ.out _).mono ?_
  rintro e w1 ⟨rfl, hb1⟩
  rw [H0.out]
  have hzr := block_lt y0
  have s0 := (Below.frozen hb1 (p := ⟨w.heap.size + 1, 0, none⟩) (Nat.lt_of_succ_lt hzr)).trans s0
  have r0 := cell_below r0 hb1
  have t0 := (Below.frozen hb1 (p := ⟨w.heap.size + 2, 0, none⟩) hzr).trans t0
  have s1 := (Below.frozen hb1 (p := ⟨w.heap.size + 1, 1, none⟩) (Nat.lt_of_succ_lt hzr)).trans s1
  have r1 := cell_below r1 hb1
  have t1 := (Below.frozen hb1 (p := ⟨w.heap.size + 2, 1, none⟩) hzr).trans t1
  have s2 := (Below.frozen hb1 (p := ⟨w.heap.size + 1, 2, none⟩) (Nat.lt_of_succ_lt hzr)).trans s2
  have r2 := cell_below r2 hb1
  have t2 := (Below.frozen hb1 (p := ⟨w.heap.size + 2, 2, none⟩) hzr).trans t2
  have s3 := (Below.frozen hb1 (p := ⟨w.heap.size + 1, 3, none⟩) (Nat.lt_of_succ_lt hzr)).trans s3
  have r3 := cell_below r3 hb1
  have t3 := (Below.frozen hb1 (p := ⟨w.heap.size + 2, 3, none⟩) hzr).trans t3
  have s4 := (Below.frozen hb1 (p := ⟨w.heap.size + 1, 4, none⟩) (Nat.lt_of_succ_lt hzr)).trans s4
  have r4 := cell_below r4 hb1
  have t4 := (Below.frozen hb1 (p := ⟨w.heap.size + 2, 4, none⟩) hzr).trans t4
  have s5 := (Below.frozen hb1 (p := ⟨w.heap.size + 1, 5, none⟩) (Nat.lt_of_succ_lt hzr)).trans s5
  have r5 := cell_below r5 hb1
  have t5 := (Below.frozen hb1 (p := ⟨w.heap.size + 2, 5, none⟩) hzr).trans t5
  have s6 := (Below.frozen hb1 (p := ⟨w.heap.size + 1, 6, none⟩) (Nat.lt_of_succ_lt hzr)).trans s6
  have r6 := cell_below r6 hb1
  have t6 := (Below.frozen hb1 (p := ⟨w.heap.size + 2, 6, none⟩) hzr).trans t6
  have s7 := (Below.frozen hb1 (p := ⟨w.heap.size + 1, 7, none⟩) (Nat.lt_of_succ_lt hzr)).trans s7
  have r7 := cell_below r7 hb1
  have t7 := (Below.frozen hb1 (p := ⟨w.heap.size + 2, 7, none⟩) hzr).trans t7
  have y0 := cell_below y0 hb1
  have y1 := cell_below y1 hb1
  have y2 := cell_below y2 hb1
  have y3 := cell_below y3 hb1
  have y4 := cell_below y4 hb1
  have y5 := cell_below y5 hb1
  have y6 := cell_below y6 hb1
  have y7 := cell_below y7 hb1
  have p0 := cell_below p0 hb1
  have p1 := cell_below p1 hb1
  have p2 := cell_below p2 hb1
  have p3 := cell_below p3 hb1
  have p4 := cell_below p4 hb1
  have p5 := cell_below p5 hb1
  have p6 := cell_below p6 hb1
  have p7 := cell_below p7 hb1
  have p8 := cell_below p8 hb1
  have p9 := cell_below p9 hb1
  have p10 := cell_below p10 hb1
  have p11 := cell_below p11 hb1
  have hb := below_onN hb hb1 hb.size
  clear hzr
  clear hwB hb1
  go_wp2_with fail
  refine (H2.out _).mono ?_
  rintro e w2 ⟨rfl, rfl⟩
  go_wp2_with fail
  refine (HD.out _ hb).mono ?_
  rintro e w4 ⟨hde, hb4⟩
  have hde : e = .returned (.tuple #[.int .i64 (dqD z0 z1 z2 z3 side l least), .bool (dqO z0 z1 z2 z3 side l least), .int .i64 (dueE z0 z1 z2 z3 side l least)]) := hde
  rw [h3] at hde
  clear h3
  generalize dueE z0 z1 z2 z3 side l least = E at *
  generalize dqD z0 z1 z2 z3 side l least = D at *
  subst hde
  have hzr := block_lt y0
  have s0 := (Below.frozen hb4 (p := ⟨w.heap.size + 1, 0, none⟩) (Nat.lt_of_succ_lt hzr)).trans s0
  have r0 := cell_below r0 hb4
  have t0 := (Below.frozen hb4 (p := ⟨w.heap.size + 2, 0, none⟩) hzr).trans t0
  have s1 := (Below.frozen hb4 (p := ⟨w.heap.size + 1, 1, none⟩) (Nat.lt_of_succ_lt hzr)).trans s1
  have r1 := cell_below r1 hb4
  have t1 := (Below.frozen hb4 (p := ⟨w.heap.size + 2, 1, none⟩) hzr).trans t1
  have s2 := (Below.frozen hb4 (p := ⟨w.heap.size + 1, 2, none⟩) (Nat.lt_of_succ_lt hzr)).trans s2
  have r2 := cell_below r2 hb4
  have t2 := (Below.frozen hb4 (p := ⟨w.heap.size + 2, 2, none⟩) hzr).trans t2
  have s3 := (Below.frozen hb4 (p := ⟨w.heap.size + 1, 3, none⟩) (Nat.lt_of_succ_lt hzr)).trans s3
  have r3 := cell_below r3 hb4
  have t3 := (Below.frozen hb4 (p := ⟨w.heap.size + 2, 3, none⟩) hzr).trans t3
  have s4 := (Below.frozen hb4 (p := ⟨w.heap.size + 1, 4, none⟩) (Nat.lt_of_succ_lt hzr)).trans s4
  have r4 := cell_below r4 hb4
  have t4 := (Below.frozen hb4 (p := ⟨w.heap.size + 2, 4, none⟩) hzr).trans t4
  have s5 := (Below.frozen hb4 (p := ⟨w.heap.size + 1, 5, none⟩) (Nat.lt_of_succ_lt hzr)).trans s5
  have r5 := cell_below r5 hb4
  have t5 := (Below.frozen hb4 (p := ⟨w.heap.size + 2, 5, none⟩) hzr).trans t5
  have s6 := (Below.frozen hb4 (p := ⟨w.heap.size + 1, 6, none⟩) (Nat.lt_of_succ_lt hzr)).trans s6
  have r6 := cell_below r6 hb4
  have t6 := (Below.frozen hb4 (p := ⟨w.heap.size + 2, 6, none⟩) hzr).trans t6
  have s7 := (Below.frozen hb4 (p := ⟨w.heap.size + 1, 7, none⟩) (Nat.lt_of_succ_lt hzr)).trans s7
  have r7 := cell_below r7 hb4
  have t7 := (Below.frozen hb4 (p := ⟨w.heap.size + 2, 7, none⟩) hzr).trans t7
  have y0 := cell_below y0 hb4
  have y1 := cell_below y1 hb4
  have y2 := cell_below y2 hb4
  have y3 := cell_below y3 hb4
  have y4 := cell_below y4 hb4
  have y5 := cell_below y5 hb4
  have y6 := cell_below y6 hb4
  have y7 := cell_below y7 hb4
  have p0 := cell_below p0 hb4
  have p1 := cell_below p1 hb4
  have p2 := cell_below p2 hb4
  have p3 := cell_below p3 hb4
  have p4 := cell_below p4 hb4
  have p5 := cell_below p5 hb4
  have p6 := cell_below p6 hb4
  have p7 := cell_below p7 hb4
  have p8 := cell_below p8 hb4
  have p9 := cell_below p9 hb4
  have p10 := cell_below p10 hb4
  have p11 := cell_below p11 hb4
  have hb := below_onN hb hb4 hb.size
  clear hzr
  clear hb4
  by_cases hE : E = 0
  · subst hE
    go_wp2_with fail
    obtain ⟨wz, hwz, x0, x1, x2, x3, x4, x5, x6, x7, hbz⟩ := set8 _ (w.heap.size + 1) (.int .i64 0) (.int .i64 0) (.int .i64 0) (.int .i64 0) (.int .i64 0) (.int .i64 0) (.bool false) (.bool false) (eight (isSome_of r0) (isSome_of r1) (isSome_of r2) (isSome_of r3) (isSome_of r4) (isSome_of r5) (isSome_of r6) (isSome_of r7))
    have hb := hbz w.heap.size w (Nat.le_succ _) hb
    clear hbz r0 s0 r1 s1 r2 s2 r3 s3 r4 s4 r5 s5 r6 s6 r7 s7
    rw [hwz]
    clear hwz
    refine bodyPost_ret (v := .tuple #[.agg #[.int .i64 0, .int .i64 0, .int .i64 0, .int .i64 0, .int .i64 0, .int .i64 0, .bool false, .bool false], .bool false, .int .i64 0]) (by simp [results, Try.results38, go_sem, x0, x1, x2, x3, x4, x5, x6, x7]) rfl ?_
    exact ⟨by rw [HV.out], hb⟩

  · have hE2 : (E == 0) = false := beq_false_of_ne hE
    go_wp2_with fail
    obtain ⟨wz, hwz, x0, x1, x2, x3, x4, x5, x6, x7, hbz⟩ := set8 _ (w.heap.size + 1) (.int .i64 0) (.int .i64 0) (.int .i64 0) (.int .i64 0) (.int .i64 0) (.int .i64 0) (.bool false) (.bool false) (eight (isSome_of r0) (isSome_of r1) (isSome_of r2) (isSome_of r3) (isSome_of r4) (isSome_of r5) (isSome_of r6) (isSome_of r7))
    have hb := hbz w.heap.size w (Nat.le_succ _) hb
    clear hbz r0 s0 r1 s1 r2 s2 r3 s3 r4 s4 r5 s5 r6 s6 r7 s7
    rw [hwz]
    clear hwz
    refine bodyPost_ret (v := .tuple #[.agg #[.int .i64 0, .int .i64 0, .int .i64 0, .int .i64 0, .int .i64 0, .int .i64 0, .bool false, .bool false], .bool false, .int .i64 E]) (by simp [results, Try.results38, go_sem, x0, x1, x2, x3, x4, x5, x6, x7]) rfl ?_
    exact ⟨by rw [HV.out], hb⟩

set_option maxRecDepth 100000 in
set_option maxHeartbeats 4000000 in
theorem refDueJob_e (n r c cr z0 z1 z2 z3 side : Int) (a : Option Addr) (l : List (Int × Int)) (cap : Nat) (least lead : Int) (w : World) (hP : PairsS w a l) (hle : I64 least) (hld : I64 lead) (h0 : jobB ⟨n, r, c, 0, 0, cr, true, false⟩ = true) (h2 : btw lead 0 100000 = true) (h3 : dqO z0 z1 z2 z3 side l least = true) :
    Calls Try.prog 38 #[.agg #[.int .i64 n, .int .i64 r, .int .i64 c, .int .i64 cr, .int .i64 z0, .int .i64 z1, .int .i64 z2, .int .i64 z3, .int .i64 side, .slice a l.length cap, .int .i64 least, .int .i64 lead]] w fun e w' => e = .returned (djV n r c cr z0 z1 z2 z3 side l least lead) ∧ Below w.heap.size w w' := by
  have HJ := Lib.hid (fun W => refJob_r ⟨n, r, c, 0, 0, cr, true, false⟩ W)
  have H0 := Lib.hid h0
  have H2 := Lib.hid (fun W => refFrom_v h2 W)
  have HD := Lib.hid (fun W (hW : Below w.heap.size w W) => refDue_any z0 z1 z2 z3 side least a l cap W (hP.below hW) hle)
  obtain ⟨e0, hl0, ⟨q0, q1⟩, q2, q3⟩ := dq_good h3
  obtain ⟨m, hm⟩ : ∃ m, l.length - 1 = m := ⟨_, rfl⟩
  have hV : djV n r c cr z0 z1 z2 z3 side l least lead = .tuple #[.agg #[.int .i64 n, .int .i64 r, .int .i64 c, .int .i64 (max (max (dqD z0 z1 z2 z3 side l least - 1) (gp l m).1 - lead) 0), .int .i64 (max (dqD z0 z1 z2 z3 side l least - 1) (gp l m).1), .int .i64 cr, .bool true, .bool false], .bool true, .int .i64 0] := by unfold djV; rw [← Bool.and_assoc, ← jobB_zero]; simp [h0, h2, h3, hm]
  rw [hm] at q0 q1
  obtain ⟨hlen, hb64, blk, off, hadr, hc⟩ := hP
  obtain rfl := hadr (pos_ne (n := 0) hl0)
  have cD := (hc m (by omega)).1
  have hmw : IntKind.i64.wrap ((l.length : Int) - 1) = m := by rw [show (l.length : Int) - 1 = m by omega]; exact IntWalk.i64_in _ (by omega)
  have hm1 : (0 : Int) ≤ m := by omega
  have hm2 : (m : Int) < l.length := by omega
  obtain ⟨hd0, hd1⟩ := (btw_iff _ _ _).1 h2
  generalize (gp l m).1 = Dl at *
  generalize hdq : dqD z0 z1 z2 z3 side l least = dd at *
  have hw1 : IntKind.i64.wrap (dd - 1) = dd - 1 := IntWalk.i64_in _ (by omega)
  obtain ⟨M, hM⟩ : ∃ M, max (dd - 1) Dl = M := ⟨_, rfl⟩
  have hMb : 0 ≤ M ∧ M ≤ 1000000 := by omega
  obtain ⟨hM0, hM1⟩ := hMb
  rw [hM] at hV
  obtain ⟨F, hF⟩ : ∃ F, max (M - lead) 0 = F := ⟨_, rfl⟩
  rw [hF] at hV
  have hF2 : max 0 (M - lead) = F := by rw [← hF]; exact Int.max_comm _ _
  have hw2 : IntKind.i64.wrap (M - lead) = M - lead := IntWalk.i64_in _ (by omega)
  have HV := Lib.hid hV
  clear hc hb64 hadr hV hm h0 h2 hF
  have hblkX := Lib.hid (block_lt cD)

  obtain ⟨wB, hwB⟩ : ∃ wB, (((w.alloc (.cells #[.int .i64 n, .int .i64 r, .int .i64 c, .int .i64 cr, .int .i64 z0, .int .i64 z1, .int .i64 z2, .int .i64 z3, .int .i64 side, .slice (some ⟨blk, off, none⟩) l.length cap, .int .i64 least, .int .i64 lead] 65)).alloc (.cells #[.int .i64 0, .int .i64 0, .int .i64 0, .int .i64 0, .int .i64 0, .int .i64 0, .bool false, .bool false] 53)).alloc (.cells #[.int .i64 n, .int .i64 r, .int .i64 c, .int .i64 0, .int .i64 0, .int .i64 cr, .bool true, .bool false] 53)).setCell ⟨w.heap.size + 2, 7, none⟩ (.bool false) = wB := ⟨_, rfl⟩
  have hb : Below w.heap.size w wB := by rw [← hwB]; exact ((((Below.refl _ _).alloc (Nat.le_refl _) _).alloc (by simp) _).alloc (by simp <;> omega) _).setCell (p := ⟨w.heap.size + 2, 7, none⟩) (by simp) _
  have p0 : wB.cell? ⟨w.heap.size, 0, none⟩ = some (.int .i64 n) := by rw [← hwB, World.cell?_setCell_other _ _ _ _ (by simp)]; simp [go_sem]
  have p1 : wB.cell? ⟨w.heap.size, 1, none⟩ = some (.int .i64 r) := by rw [← hwB, World.cell?_setCell_other _ _ _ _ (by simp)]; simp [go_sem]
  have p2 : wB.cell? ⟨w.heap.size, 2, none⟩ = some (.int .i64 c) := by rw [← hwB, World.cell?_setCell_other _ _ _ _ (by simp)]; simp [go_sem]
  have p3 : wB.cell? ⟨w.heap.size, 3, none⟩ = some (.int .i64 cr) := by rw [← hwB, World.cell?_setCell_other _ _ _ _ (by simp)]; simp [go_sem]
  have p4 : wB.cell? ⟨w.heap.size, 4, none⟩ = some (.int .i64 z0) := by rw [← hwB, World.cell?_setCell_other _ _ _ _ (by simp)]; simp [go_sem]
  have p5 : wB.cell? ⟨w.heap.size, 5, none⟩ = some (.int .i64 z1) := by rw [← hwB, World.cell?_setCell_other _ _ _ _ (by simp)]; simp [go_sem]
  have p6 : wB.cell? ⟨w.heap.size, 6, none⟩ = some (.int .i64 z2) := by rw [← hwB, World.cell?_setCell_other _ _ _ _ (by simp)]; simp [go_sem]
  have p7 : wB.cell? ⟨w.heap.size, 7, none⟩ = some (.int .i64 z3) := by rw [← hwB, World.cell?_setCell_other _ _ _ _ (by simp)]; simp [go_sem]
  have p8 : wB.cell? ⟨w.heap.size, 8, none⟩ = some (.int .i64 side) := by rw [← hwB, World.cell?_setCell_other _ _ _ _ (by simp)]; simp [go_sem]
  have p9 : wB.cell? ⟨w.heap.size, 9, none⟩ = some (.slice (some ⟨blk, off, none⟩) l.length cap) := by rw [← hwB, World.cell?_setCell_other _ _ _ _ (by simp)]; simp [go_sem]
  have p10 : wB.cell? ⟨w.heap.size, 10, none⟩ = some (.int .i64 least) := by rw [← hwB, World.cell?_setCell_other _ _ _ _ (by simp)]; simp [go_sem]
  have p11 : wB.cell? ⟨w.heap.size, 11, none⟩ = some (.int .i64 lead) := by rw [← hwB, World.cell?_setCell_other _ _ _ _ (by simp)]; simp [go_sem]
  have r0 : wB.cell? ⟨w.heap.size + 1, 0, none⟩ = some (.int .i64 0) := by rw [← hwB, World.cell?_setCell_other _ _ _ _ (by simp)]; simp [go_sem]
  have s0 : wB.frozen? ⟨w.heap.size + 1, 0, none⟩ = false := by rw [← hwB, World.frozen?_setCell]; simp [go_sem]
  have r1 : wB.cell? ⟨w.heap.size + 1, 1, none⟩ = some (.int .i64 0) := by rw [← hwB, World.cell?_setCell_other _ _ _ _ (by simp)]; simp [go_sem]
  have s1 : wB.frozen? ⟨w.heap.size + 1, 1, none⟩ = false := by rw [← hwB, World.frozen?_setCell]; simp [go_sem]
  have r2 : wB.cell? ⟨w.heap.size + 1, 2, none⟩ = some (.int .i64 0) := by rw [← hwB, World.cell?_setCell_other _ _ _ _ (by simp)]; simp [go_sem]
  have s2 : wB.frozen? ⟨w.heap.size + 1, 2, none⟩ = false := by rw [← hwB, World.frozen?_setCell]; simp [go_sem]
  have r3 : wB.cell? ⟨w.heap.size + 1, 3, none⟩ = some (.int .i64 0) := by rw [← hwB, World.cell?_setCell_other _ _ _ _ (by simp)]; simp [go_sem]
  have s3 : wB.frozen? ⟨w.heap.size + 1, 3, none⟩ = false := by rw [← hwB, World.frozen?_setCell]; simp [go_sem]
  have r4 : wB.cell? ⟨w.heap.size + 1, 4, none⟩ = some (.int .i64 0) := by rw [← hwB, World.cell?_setCell_other _ _ _ _ (by simp)]; simp [go_sem]
  have s4 : wB.frozen? ⟨w.heap.size + 1, 4, none⟩ = false := by rw [← hwB, World.frozen?_setCell]; simp [go_sem]
  have r5 : wB.cell? ⟨w.heap.size + 1, 5, none⟩ = some (.int .i64 0) := by rw [← hwB, World.cell?_setCell_other _ _ _ _ (by simp)]; simp [go_sem]
  have s5 : wB.frozen? ⟨w.heap.size + 1, 5, none⟩ = false := by rw [← hwB, World.frozen?_setCell]; simp [go_sem]
  have r6 : wB.cell? ⟨w.heap.size + 1, 6, none⟩ = some (.bool false) := by rw [← hwB, World.cell?_setCell_other _ _ _ _ (by simp)]; simp [go_sem]
  have s6 : wB.frozen? ⟨w.heap.size + 1, 6, none⟩ = false := by rw [← hwB, World.frozen?_setCell]; simp [go_sem]
  have r7 : wB.cell? ⟨w.heap.size + 1, 7, none⟩ = some (.bool false) := by rw [← hwB, World.cell?_setCell_other _ _ _ _ (by simp)]; simp [go_sem]
  have s7 : wB.frozen? ⟨w.heap.size + 1, 7, none⟩ = false := by rw [← hwB, World.frozen?_setCell]; simp [go_sem]
  have y0 : wB.cell? ⟨w.heap.size + 2, 0, none⟩ = some (.int .i64 n) := by rw [← hwB, World.cell?_setCell_other _ _ _ _ (by simp)]; simp [go_sem]
  have t0 : wB.frozen? ⟨w.heap.size + 2, 0, none⟩ = false := by rw [← hwB, World.frozen?_setCell]; simp [go_sem]
  have y1 : wB.cell? ⟨w.heap.size + 2, 1, none⟩ = some (.int .i64 r) := by rw [← hwB, World.cell?_setCell_other _ _ _ _ (by simp)]; simp [go_sem]
  have t1 : wB.frozen? ⟨w.heap.size + 2, 1, none⟩ = false := by rw [← hwB, World.frozen?_setCell]; simp [go_sem]
  have y2 : wB.cell? ⟨w.heap.size + 2, 2, none⟩ = some (.int .i64 c) := by rw [← hwB, World.cell?_setCell_other _ _ _ _ (by simp)]; simp [go_sem]
  have t2 : wB.frozen? ⟨w.heap.size + 2, 2, none⟩ = false := by rw [← hwB, World.frozen?_setCell]; simp [go_sem]
  have y3 : wB.cell? ⟨w.heap.size + 2, 3, none⟩ = some (.int .i64 0) := by rw [← hwB, World.cell?_setCell_other _ _ _ _ (by simp)]; simp [go_sem]
  have t3 : wB.frozen? ⟨w.heap.size + 2, 3, none⟩ = false := by rw [← hwB, World.frozen?_setCell]; simp [go_sem]
  have y4 : wB.cell? ⟨w.heap.size + 2, 4, none⟩ = some (.int .i64 0) := by rw [← hwB, World.cell?_setCell_other _ _ _ _ (by simp)]; simp [go_sem]
  have t4 : wB.frozen? ⟨w.heap.size + 2, 4, none⟩ = false := by rw [← hwB, World.frozen?_setCell]; simp [go_sem]
  have y5 : wB.cell? ⟨w.heap.size + 2, 5, none⟩ = some (.int .i64 cr) := by rw [← hwB, World.cell?_setCell_other _ _ _ _ (by simp)]; simp [go_sem]
  have t5 : wB.frozen? ⟨w.heap.size + 2, 5, none⟩ = false := by rw [← hwB, World.frozen?_setCell]; simp [go_sem]
  have y6 : wB.cell? ⟨w.heap.size + 2, 6, none⟩ = some (.bool true) := by rw [← hwB, World.cell?_setCell_other _ _ _ _ (by simp)]; simp [go_sem]
  have t6 : wB.frozen? ⟨w.heap.size + 2, 6, none⟩ = false := by rw [← hwB, World.frozen?_setCell]; simp [go_sem]
  have y7 : wB.cell? ⟨w.heap.size + 2, 7, none⟩ = some (.bool false) := by rw [← hwB]; exact World.cell?_setCell_same (u := .bool false) _ _ _ (by simp [go_sem])
  have t7 : wB.frozen? ⟨w.heap.size + 2, 7, none⟩ = false := by rw [← hwB, World.frozen?_setCell]; simp [go_sem]

  clear hle hld
  go_enter Try.func38, Try.ntmps38
  go_wp2_with fail
  refine (HJ.out _).mono ?_
  rintro e w1 ⟨rfl, hb1⟩
  rw [H0.out]
  have hzr := block_lt y0
  have s0 := (Below.frozen hb1 (p := ⟨w.heap.size + 1, 0, none⟩) (Nat.lt_of_succ_lt hzr)).trans s0
  have r0 := cell_below r0 hb1
  have t0 := (Below.frozen hb1 (p := ⟨w.heap.size + 2, 0, none⟩) hzr).trans t0
  have s1 := (Below.frozen hb1 (p := ⟨w.heap.size + 1, 1, none⟩) (Nat.lt_of_succ_lt hzr)).trans s1
  have r1 := cell_below r1 hb1
  have t1 := (Below.frozen hb1 (p := ⟨w.heap.size + 2, 1, none⟩) hzr).trans t1
  have s2 := (Below.frozen hb1 (p := ⟨w.heap.size + 1, 2, none⟩) (Nat.lt_of_succ_lt hzr)).trans s2
  have r2 := cell_below r2 hb1
  have t2 := (Below.frozen hb1 (p := ⟨w.heap.size + 2, 2, none⟩) hzr).trans t2
  have s3 := (Below.frozen hb1 (p := ⟨w.heap.size + 1, 3, none⟩) (Nat.lt_of_succ_lt hzr)).trans s3
  have r3 := cell_below r3 hb1
  have t3 := (Below.frozen hb1 (p := ⟨w.heap.size + 2, 3, none⟩) hzr).trans t3
  have s4 := (Below.frozen hb1 (p := ⟨w.heap.size + 1, 4, none⟩) (Nat.lt_of_succ_lt hzr)).trans s4
  have r4 := cell_below r4 hb1
  have t4 := (Below.frozen hb1 (p := ⟨w.heap.size + 2, 4, none⟩) hzr).trans t4
  have s5 := (Below.frozen hb1 (p := ⟨w.heap.size + 1, 5, none⟩) (Nat.lt_of_succ_lt hzr)).trans s5
  have r5 := cell_below r5 hb1
  have t5 := (Below.frozen hb1 (p := ⟨w.heap.size + 2, 5, none⟩) hzr).trans t5
  have s6 := (Below.frozen hb1 (p := ⟨w.heap.size + 1, 6, none⟩) (Nat.lt_of_succ_lt hzr)).trans s6
  have r6 := cell_below r6 hb1
  have t6 := (Below.frozen hb1 (p := ⟨w.heap.size + 2, 6, none⟩) hzr).trans t6
  have s7 := (Below.frozen hb1 (p := ⟨w.heap.size + 1, 7, none⟩) (Nat.lt_of_succ_lt hzr)).trans s7
  have r7 := cell_below r7 hb1
  have t7 := (Below.frozen hb1 (p := ⟨w.heap.size + 2, 7, none⟩) hzr).trans t7
  have y0 := cell_below y0 hb1
  have y1 := cell_below y1 hb1
  have y2 := cell_below y2 hb1
  have y3 := cell_below y3 hb1
  have y4 := cell_below y4 hb1
  have y5 := cell_below y5 hb1
  have y6 := cell_below y6 hb1
  have y7 := cell_below y7 hb1
  have p0 := cell_below p0 hb1
  have p1 := cell_below p1 hb1
  have p2 := cell_below p2 hb1
  have p3 := cell_below p3 hb1
  have p4 := cell_below p4 hb1
  have p5 := cell_below p5 hb1
  have p6 := cell_below p6 hb1
  have p7 := cell_below p7 hb1
  have p8 := cell_below p8 hb1
  have p9 := cell_below p9 hb1
  have p10 := cell_below p10 hb1
  have p11 := cell_below p11 hb1
  have hb := below_onN hb hb1 hb.size
  clear hzr
  clear hwB hb1
  go_wp2_with fail
  refine (H2.out _).mono ?_
  rintro e w2 ⟨rfl, rfl⟩
  go_wp2_with fail
  refine (HD.out _ hb).mono ?_
  rintro e w4 ⟨hde, hb4⟩
  have hde : e = .returned (.tuple #[.int .i64 (dd), .bool (dqO z0 z1 z2 z3 side l least), .int .i64 (dueE z0 z1 z2 z3 side l least)]) := by rw [← hdq]; exact hde
  rw [h3, e0] at hde
  clear h3 e0
  clear hdq
  subst hde
  have cD := cell_below cD (below_onN hb hb4 hb.size)
  have hzr := block_lt y0
  have s0 := (Below.frozen hb4 (p := ⟨w.heap.size + 1, 0, none⟩) (Nat.lt_of_succ_lt hzr)).trans s0
  have r0 := cell_below r0 hb4
  have t0 := (Below.frozen hb4 (p := ⟨w.heap.size + 2, 0, none⟩) hzr).trans t0
  have s1 := (Below.frozen hb4 (p := ⟨w.heap.size + 1, 1, none⟩) (Nat.lt_of_succ_lt hzr)).trans s1
  have r1 := cell_below r1 hb4
  have t1 := (Below.frozen hb4 (p := ⟨w.heap.size + 2, 1, none⟩) hzr).trans t1
  have s2 := (Below.frozen hb4 (p := ⟨w.heap.size + 1, 2, none⟩) (Nat.lt_of_succ_lt hzr)).trans s2
  have r2 := cell_below r2 hb4
  have t2 := (Below.frozen hb4 (p := ⟨w.heap.size + 2, 2, none⟩) hzr).trans t2
  have s3 := (Below.frozen hb4 (p := ⟨w.heap.size + 1, 3, none⟩) (Nat.lt_of_succ_lt hzr)).trans s3
  have r3 := cell_below r3 hb4
  have t3 := (Below.frozen hb4 (p := ⟨w.heap.size + 2, 3, none⟩) hzr).trans t3
  have s4 := (Below.frozen hb4 (p := ⟨w.heap.size + 1, 4, none⟩) (Nat.lt_of_succ_lt hzr)).trans s4
  have r4 := cell_below r4 hb4
  have t4 := (Below.frozen hb4 (p := ⟨w.heap.size + 2, 4, none⟩) hzr).trans t4
  have s5 := (Below.frozen hb4 (p := ⟨w.heap.size + 1, 5, none⟩) (Nat.lt_of_succ_lt hzr)).trans s5
  have r5 := cell_below r5 hb4
  have t5 := (Below.frozen hb4 (p := ⟨w.heap.size + 2, 5, none⟩) hzr).trans t5
  have s6 := (Below.frozen hb4 (p := ⟨w.heap.size + 1, 6, none⟩) (Nat.lt_of_succ_lt hzr)).trans s6
  have r6 := cell_below r6 hb4
  have t6 := (Below.frozen hb4 (p := ⟨w.heap.size + 2, 6, none⟩) hzr).trans t6
  have s7 := (Below.frozen hb4 (p := ⟨w.heap.size + 1, 7, none⟩) (Nat.lt_of_succ_lt hzr)).trans s7
  have r7 := cell_below r7 hb4
  have t7 := (Below.frozen hb4 (p := ⟨w.heap.size + 2, 7, none⟩) hzr).trans t7
  have y0 := cell_below y0 hb4
  have y1 := cell_below y1 hb4
  have y2 := cell_below y2 hb4
  have y3 := cell_below y3 hb4
  have y4 := cell_below y4 hb4
  have y5 := cell_below y5 hb4
  have y6 := cell_below y6 hb4
  have y7 := cell_below y7 hb4
  have p0 := cell_below p0 hb4
  have p1 := cell_below p1 hb4
  have p2 := cell_below p2 hb4
  have p3 := cell_below p3 hb4
  have p4 := cell_below p4 hb4
  have p5 := cell_below p5 hb4
  have p6 := cell_below p6 hb4
  have p7 := cell_below p7 hb4
  have p8 := cell_below p8 hb4
  have p9 := cell_below p9 hb4
  have p10 := cell_below p10 hb4
  have p11 := cell_below p11 hb4
  have hb := below_onN hb hb4 hb.size
  clear hzr
  clear hb4
  have hblk : blk < w.heap.size := hblkX.out
  have cD4 := cD
  obtain ⟨w5, hw5⟩ : ∃ w5, w4.setCell ⟨w.heap.size + 2, 4, none⟩ (.int .i64 M) = w5 := ⟨_, rfl⟩
  have p0 : w5.cell? ⟨w.heap.size, 0, none⟩ = some (.int .i64 n) := by rw [← hw5, World.cell?_setCell_other _ _ _ _ (by simp)]; exact p0
  have p1 : w5.cell? ⟨w.heap.size, 1, none⟩ = some (.int .i64 r) := by rw [← hw5, World.cell?_setCell_other _ _ _ _ (by simp)]; exact p1
  have p2 : w5.cell? ⟨w.heap.size, 2, none⟩ = some (.int .i64 c) := by rw [← hw5, World.cell?_setCell_other _ _ _ _ (by simp)]; exact p2
  have p3 : w5.cell? ⟨w.heap.size, 3, none⟩ = some (.int .i64 cr) := by rw [← hw5, World.cell?_setCell_other _ _ _ _ (by simp)]; exact p3
  have p4 : w5.cell? ⟨w.heap.size, 4, none⟩ = some (.int .i64 z0) := by rw [← hw5, World.cell?_setCell_other _ _ _ _ (by simp)]; exact p4
  have p5 : w5.cell? ⟨w.heap.size, 5, none⟩ = some (.int .i64 z1) := by rw [← hw5, World.cell?_setCell_other _ _ _ _ (by simp)]; exact p5
  have p6 : w5.cell? ⟨w.heap.size, 6, none⟩ = some (.int .i64 z2) := by rw [← hw5, World.cell?_setCell_other _ _ _ _ (by simp)]; exact p6
  have p7 : w5.cell? ⟨w.heap.size, 7, none⟩ = some (.int .i64 z3) := by rw [← hw5, World.cell?_setCell_other _ _ _ _ (by simp)]; exact p7
  have p8 : w5.cell? ⟨w.heap.size, 8, none⟩ = some (.int .i64 side) := by rw [← hw5, World.cell?_setCell_other _ _ _ _ (by simp)]; exact p8
  have p9 : w5.cell? ⟨w.heap.size, 9, none⟩ = some (.slice (some ⟨blk, off, none⟩) l.length cap) := by rw [← hw5, World.cell?_setCell_other _ _ _ _ (by simp)]; exact p9
  have p10 : w5.cell? ⟨w.heap.size, 10, none⟩ = some (.int .i64 least) := by rw [← hw5, World.cell?_setCell_other _ _ _ _ (by simp)]; exact p10
  have p11 : w5.cell? ⟨w.heap.size, 11, none⟩ = some (.int .i64 lead) := by rw [← hw5, World.cell?_setCell_other _ _ _ _ (by simp)]; exact p11
  have r0 : w5.cell? ⟨w.heap.size + 1, 0, none⟩ = some (.int .i64 0) := by rw [← hw5, World.cell?_setCell_other _ _ _ _ (by simp)]; exact r0
  have r1 : w5.cell? ⟨w.heap.size + 1, 1, none⟩ = some (.int .i64 0) := by rw [← hw5, World.cell?_setCell_other _ _ _ _ (by simp)]; exact r1
  have r2 : w5.cell? ⟨w.heap.size + 1, 2, none⟩ = some (.int .i64 0) := by rw [← hw5, World.cell?_setCell_other _ _ _ _ (by simp)]; exact r2
  have r3 : w5.cell? ⟨w.heap.size + 1, 3, none⟩ = some (.int .i64 0) := by rw [← hw5, World.cell?_setCell_other _ _ _ _ (by simp)]; exact r3
  have r4 : w5.cell? ⟨w.heap.size + 1, 4, none⟩ = some (.int .i64 0) := by rw [← hw5, World.cell?_setCell_other _ _ _ _ (by simp)]; exact r4
  have r5 : w5.cell? ⟨w.heap.size + 1, 5, none⟩ = some (.int .i64 0) := by rw [← hw5, World.cell?_setCell_other _ _ _ _ (by simp)]; exact r5
  have r6 : w5.cell? ⟨w.heap.size + 1, 6, none⟩ = some (.bool false) := by rw [← hw5, World.cell?_setCell_other _ _ _ _ (by simp)]; exact r6
  have r7 : w5.cell? ⟨w.heap.size + 1, 7, none⟩ = some (.bool false) := by rw [← hw5, World.cell?_setCell_other _ _ _ _ (by simp)]; exact r7
  have y0 : w5.cell? ⟨w.heap.size + 2, 0, none⟩ = some (.int .i64 n) := by rw [← hw5, World.cell?_setCell_other _ _ _ _ (by simp)]; exact y0
  have t0 : w5.frozen? ⟨w.heap.size + 2, 0, none⟩ = false := by rw [← hw5, World.frozen?_setCell]; exact t0
  have s0 : w5.frozen? ⟨w.heap.size + 1, 0, none⟩ = false := by rw [← hw5, World.frozen?_setCell]; exact s0
  have y1 : w5.cell? ⟨w.heap.size + 2, 1, none⟩ = some (.int .i64 r) := by rw [← hw5, World.cell?_setCell_other _ _ _ _ (by simp)]; exact y1
  have t1 : w5.frozen? ⟨w.heap.size + 2, 1, none⟩ = false := by rw [← hw5, World.frozen?_setCell]; exact t1
  have s1 : w5.frozen? ⟨w.heap.size + 1, 1, none⟩ = false := by rw [← hw5, World.frozen?_setCell]; exact s1
  have y2 : w5.cell? ⟨w.heap.size + 2, 2, none⟩ = some (.int .i64 c) := by rw [← hw5, World.cell?_setCell_other _ _ _ _ (by simp)]; exact y2
  have t2 : w5.frozen? ⟨w.heap.size + 2, 2, none⟩ = false := by rw [← hw5, World.frozen?_setCell]; exact t2
  have s2 : w5.frozen? ⟨w.heap.size + 1, 2, none⟩ = false := by rw [← hw5, World.frozen?_setCell]; exact s2
  have y3 : w5.cell? ⟨w.heap.size + 2, 3, none⟩ = some (.int .i64 0) := by rw [← hw5, World.cell?_setCell_other _ _ _ _ (by simp)]; exact y3
  have t3 : w5.frozen? ⟨w.heap.size + 2, 3, none⟩ = false := by rw [← hw5, World.frozen?_setCell]; exact t3
  have s3 : w5.frozen? ⟨w.heap.size + 1, 3, none⟩ = false := by rw [← hw5, World.frozen?_setCell]; exact s3
  have y4 : w5.cell? ⟨w.heap.size + 2, 4, none⟩ = some (.int .i64 M) := by rw [← hw5]; exact World.cell?_setCell_same _ _ _ y4
  have t4 : w5.frozen? ⟨w.heap.size + 2, 4, none⟩ = false := by rw [← hw5, World.frozen?_setCell]; exact t4
  have s4 : w5.frozen? ⟨w.heap.size + 1, 4, none⟩ = false := by rw [← hw5, World.frozen?_setCell]; exact s4
  have y5 : w5.cell? ⟨w.heap.size + 2, 5, none⟩ = some (.int .i64 cr) := by rw [← hw5, World.cell?_setCell_other _ _ _ _ (by simp)]; exact y5
  have t5 : w5.frozen? ⟨w.heap.size + 2, 5, none⟩ = false := by rw [← hw5, World.frozen?_setCell]; exact t5
  have s5 : w5.frozen? ⟨w.heap.size + 1, 5, none⟩ = false := by rw [← hw5, World.frozen?_setCell]; exact s5
  have y6 : w5.cell? ⟨w.heap.size + 2, 6, none⟩ = some (.bool true) := by rw [← hw5, World.cell?_setCell_other _ _ _ _ (by simp)]; exact y6
  have t6 : w5.frozen? ⟨w.heap.size + 2, 6, none⟩ = false := by rw [← hw5, World.frozen?_setCell]; exact t6
  have s6 : w5.frozen? ⟨w.heap.size + 1, 6, none⟩ = false := by rw [← hw5, World.frozen?_setCell]; exact s6
  have y7 : w5.cell? ⟨w.heap.size + 2, 7, none⟩ = some (.bool false) := by rw [← hw5, World.cell?_setCell_other _ _ _ _ (by simp)]; exact y7
  have t7 : w5.frozen? ⟨w.heap.size + 2, 7, none⟩ = false := by rw [← hw5, World.frozen?_setCell]; exact t7
  have s7 : w5.frozen? ⟨w.heap.size + 1, 7, none⟩ = false := by rw [← hw5, World.frozen?_setCell]; exact s7
  have hb : Below w.heap.size w w5 := by rw [← hw5]; exact hb.setCell (p := ⟨w.heap.size + 2, 4, none⟩) (by simp) _
  obtain ⟨w6, hw6⟩ : ∃ w6, w5.setCell ⟨w.heap.size + 2, 3, none⟩ (.int .i64 F) = w6 := ⟨_, rfl⟩
  have p0 : w6.cell? ⟨w.heap.size, 0, none⟩ = some (.int .i64 n) := by rw [← hw6, World.cell?_setCell_other _ _ _ _ (by simp)]; exact p0
  have p1 : w6.cell? ⟨w.heap.size, 1, none⟩ = some (.int .i64 r) := by rw [← hw6, World.cell?_setCell_other _ _ _ _ (by simp)]; exact p1
  have p2 : w6.cell? ⟨w.heap.size, 2, none⟩ = some (.int .i64 c) := by rw [← hw6, World.cell?_setCell_other _ _ _ _ (by simp)]; exact p2
  have p3 : w6.cell? ⟨w.heap.size, 3, none⟩ = some (.int .i64 cr) := by rw [← hw6, World.cell?_setCell_other _ _ _ _ (by simp)]; exact p3
  have p4 : w6.cell? ⟨w.heap.size, 4, none⟩ = some (.int .i64 z0) := by rw [← hw6, World.cell?_setCell_other _ _ _ _ (by simp)]; exact p4
  have p5 : w6.cell? ⟨w.heap.size, 5, none⟩ = some (.int .i64 z1) := by rw [← hw6, World.cell?_setCell_other _ _ _ _ (by simp)]; exact p5
  have p6 : w6.cell? ⟨w.heap.size, 6, none⟩ = some (.int .i64 z2) := by rw [← hw6, World.cell?_setCell_other _ _ _ _ (by simp)]; exact p6
  have p7 : w6.cell? ⟨w.heap.size, 7, none⟩ = some (.int .i64 z3) := by rw [← hw6, World.cell?_setCell_other _ _ _ _ (by simp)]; exact p7
  have p8 : w6.cell? ⟨w.heap.size, 8, none⟩ = some (.int .i64 side) := by rw [← hw6, World.cell?_setCell_other _ _ _ _ (by simp)]; exact p8
  have p9 : w6.cell? ⟨w.heap.size, 9, none⟩ = some (.slice (some ⟨blk, off, none⟩) l.length cap) := by rw [← hw6, World.cell?_setCell_other _ _ _ _ (by simp)]; exact p9
  have p10 : w6.cell? ⟨w.heap.size, 10, none⟩ = some (.int .i64 least) := by rw [← hw6, World.cell?_setCell_other _ _ _ _ (by simp)]; exact p10
  have p11 : w6.cell? ⟨w.heap.size, 11, none⟩ = some (.int .i64 lead) := by rw [← hw6, World.cell?_setCell_other _ _ _ _ (by simp)]; exact p11
  have r0 : w6.cell? ⟨w.heap.size + 1, 0, none⟩ = some (.int .i64 0) := by rw [← hw6, World.cell?_setCell_other _ _ _ _ (by simp)]; exact r0
  have r1 : w6.cell? ⟨w.heap.size + 1, 1, none⟩ = some (.int .i64 0) := by rw [← hw6, World.cell?_setCell_other _ _ _ _ (by simp)]; exact r1
  have r2 : w6.cell? ⟨w.heap.size + 1, 2, none⟩ = some (.int .i64 0) := by rw [← hw6, World.cell?_setCell_other _ _ _ _ (by simp)]; exact r2
  have r3 : w6.cell? ⟨w.heap.size + 1, 3, none⟩ = some (.int .i64 0) := by rw [← hw6, World.cell?_setCell_other _ _ _ _ (by simp)]; exact r3
  have r4 : w6.cell? ⟨w.heap.size + 1, 4, none⟩ = some (.int .i64 0) := by rw [← hw6, World.cell?_setCell_other _ _ _ _ (by simp)]; exact r4
  have r5 : w6.cell? ⟨w.heap.size + 1, 5, none⟩ = some (.int .i64 0) := by rw [← hw6, World.cell?_setCell_other _ _ _ _ (by simp)]; exact r5
  have r6 : w6.cell? ⟨w.heap.size + 1, 6, none⟩ = some (.bool false) := by rw [← hw6, World.cell?_setCell_other _ _ _ _ (by simp)]; exact r6
  have r7 : w6.cell? ⟨w.heap.size + 1, 7, none⟩ = some (.bool false) := by rw [← hw6, World.cell?_setCell_other _ _ _ _ (by simp)]; exact r7
  have y0 : w6.cell? ⟨w.heap.size + 2, 0, none⟩ = some (.int .i64 n) := by rw [← hw6, World.cell?_setCell_other _ _ _ _ (by simp)]; exact y0
  have t0 : w6.frozen? ⟨w.heap.size + 2, 0, none⟩ = false := by rw [← hw6, World.frozen?_setCell]; exact t0
  have s0 : w6.frozen? ⟨w.heap.size + 1, 0, none⟩ = false := by rw [← hw6, World.frozen?_setCell]; exact s0
  have y1 : w6.cell? ⟨w.heap.size + 2, 1, none⟩ = some (.int .i64 r) := by rw [← hw6, World.cell?_setCell_other _ _ _ _ (by simp)]; exact y1
  have t1 : w6.frozen? ⟨w.heap.size + 2, 1, none⟩ = false := by rw [← hw6, World.frozen?_setCell]; exact t1
  have s1 : w6.frozen? ⟨w.heap.size + 1, 1, none⟩ = false := by rw [← hw6, World.frozen?_setCell]; exact s1
  have y2 : w6.cell? ⟨w.heap.size + 2, 2, none⟩ = some (.int .i64 c) := by rw [← hw6, World.cell?_setCell_other _ _ _ _ (by simp)]; exact y2
  have t2 : w6.frozen? ⟨w.heap.size + 2, 2, none⟩ = false := by rw [← hw6, World.frozen?_setCell]; exact t2
  have s2 : w6.frozen? ⟨w.heap.size + 1, 2, none⟩ = false := by rw [← hw6, World.frozen?_setCell]; exact s2
  have y3 : w6.cell? ⟨w.heap.size + 2, 3, none⟩ = some (.int .i64 F) := by rw [← hw6]; exact World.cell?_setCell_same _ _ _ y3
  have t3 : w6.frozen? ⟨w.heap.size + 2, 3, none⟩ = false := by rw [← hw6, World.frozen?_setCell]; exact t3
  have s3 : w6.frozen? ⟨w.heap.size + 1, 3, none⟩ = false := by rw [← hw6, World.frozen?_setCell]; exact s3
  have y4 : w6.cell? ⟨w.heap.size + 2, 4, none⟩ = some (.int .i64 M) := by rw [← hw6, World.cell?_setCell_other _ _ _ _ (by simp)]; exact y4
  have t4 : w6.frozen? ⟨w.heap.size + 2, 4, none⟩ = false := by rw [← hw6, World.frozen?_setCell]; exact t4
  have s4 : w6.frozen? ⟨w.heap.size + 1, 4, none⟩ = false := by rw [← hw6, World.frozen?_setCell]; exact s4
  have y5 : w6.cell? ⟨w.heap.size + 2, 5, none⟩ = some (.int .i64 cr) := by rw [← hw6, World.cell?_setCell_other _ _ _ _ (by simp)]; exact y5
  have t5 : w6.frozen? ⟨w.heap.size + 2, 5, none⟩ = false := by rw [← hw6, World.frozen?_setCell]; exact t5
  have s5 : w6.frozen? ⟨w.heap.size + 1, 5, none⟩ = false := by rw [← hw6, World.frozen?_setCell]; exact s5
  have y6 : w6.cell? ⟨w.heap.size + 2, 6, none⟩ = some (.bool true) := by rw [← hw6, World.cell?_setCell_other _ _ _ _ (by simp)]; exact y6
  have t6 : w6.frozen? ⟨w.heap.size + 2, 6, none⟩ = false := by rw [← hw6, World.frozen?_setCell]; exact t6
  have s6 : w6.frozen? ⟨w.heap.size + 1, 6, none⟩ = false := by rw [← hw6, World.frozen?_setCell]; exact s6
  have y7 : w6.cell? ⟨w.heap.size + 2, 7, none⟩ = some (.bool false) := by rw [← hw6, World.cell?_setCell_other _ _ _ _ (by simp)]; exact y7
  have t7 : w6.frozen? ⟨w.heap.size + 2, 7, none⟩ = false := by rw [← hw6, World.frozen?_setCell]; exact t7
  have s7 : w6.frozen? ⟨w.heap.size + 1, 7, none⟩ = false := by rw [← hw6, World.frozen?_setCell]; exact s7
  have hb : Below w.heap.size w w6 := by rw [← hw6]; exact hb.setCell (p := ⟨w.heap.size + 2, 3, none⟩) (by simp) _
  go_wp2_with fail
  obtain ⟨wz, hwz, x0, x1, x2, x3, x4, x5, x6, x7, hbz⟩ := set8 _ (w.heap.size + 1) (.int .i64 n) (.int .i64 r) (.int .i64 c) (.int .i64 F) (.int .i64 M) (.int .i64 cr) (.bool true) (.bool false) (eight (isSome_of r0) (isSome_of r1) (isSome_of r2) (isSome_of r3) (isSome_of r4) (isSome_of r5) (isSome_of r6) (isSome_of r7))
  have hb := hbz w.heap.size w (Nat.le_succ _) hb
  clear hbz r0 s0 r1 s1 r2 s2 r3 s3 r4 s4 r5 s5 r6 s6 r7 s7
  rw [hwz]
  clear hwz
  refine bodyPost_ret (v := .tuple #[.agg #[.int .i64 n, .int .i64 r, .int .i64 c, .int .i64 F, .int .i64 M, .int .i64 cr, .bool true, .bool false], .bool true, .int .i64 0]) (by simp [results, Try.results38, go_sem, x0, x1, x2, x3, x4, x5, x6, x7]) rfl ?_
  exact ⟨by rw [HV.out], hb⟩

theorem refDueJob_r (n r c cr z0 z1 z2 z3 side : Int) (a : Option Addr) (l : List (Int × Int)) (cap : Nat) (least lead : Int) (w : World) (hP : PairsS w a l) (hle : I64 least) (hld : I64 lead) :
    Calls Try.prog 38 #[.agg #[.int .i64 n, .int .i64 r, .int .i64 c, .int .i64 cr, .int .i64 z0, .int .i64 z1, .int .i64 z2, .int .i64 z3, .int .i64 side, .slice a l.length cap, .int .i64 least, .int .i64 lead]] w fun e w' => e = .returned (djV n r c cr z0 z1 z2 z3 side l least lead) ∧ Below w.heap.size w w' := by
  cases h0 : jobB ⟨n, r, c, 0, 0, cr, true, false⟩ with
  | false => exact refDueJob_a n r c cr z0 z1 z2 z3 side a l cap least lead w hP hle hld h0
  | true =>
    cases h2 : btw lead 0 100000 with
    | false => exact refDueJob_c n r c cr z0 z1 z2 z3 side a l cap least lead w hP hle hld h0 h2
    | true =>
      cases h3 : dqO z0 z1 z2 z3 side l least with
      | false => exact refDueJob_d n r c cr z0 z1 z2 z3 side a l cap least lead w hP hle hld h0 h2 h3
      | true => exact refDueJob_e n r c cr z0 z1 z2 z3 side a l cap least lead w hP hle hld h0 h2 h3
end Go.Proofs.Ytpkafkhdococeaa
