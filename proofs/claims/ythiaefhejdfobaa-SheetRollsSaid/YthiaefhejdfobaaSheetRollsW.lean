/-
  SheetRolls: which rolls and rules are valid. By an AI agent.
-/
import Derived.Test.YthiaefhejdfobaaSheF
import Derived.Deep.RegionHeld3
import Derived.BigQuiet
namespace Go.Proofs.Ythiaefhejdfobaa
set_option linter.unusedVariables false
set_option linter.unusedSimpArgs false
open Go.RowKit

theorem below_drewS {B : Nat} {w w' : World} (h : Below B w w') : ∀ n, Below B w (w'.drewN n)
  | 0 => h
  | n + 1 => (below_drewS h n).drew
set_option maxRecDepth 100000 in
set_option maxHeartbeats 2000000 in
theorem sheetRolls_any (i0 i1 i2 i3 i4 i5 i6 : Int) (a : Option Addr) (l : List (Int × Int)) (c : Nat) (y0 y1 y2 y3 y4 : Int) (w : World) (hA : PairsS w a l) :
    Calls Try.prog 3 #[.agg #[.int .i64 i0, .int .i64 i1, .int .i64 i2, .int .i64 i3, .int .i64 i4, .int .i64 i5, .int .i64 i6, .slice a l.length c], .agg #[.int .i64 y0, .int .i64 y1, .int .i64 y2, .int .i64 y3, .int .i64 y4]] w fun e w' => e = .returned (.bool true) ∧ Below w.heap.size w w' := by
  have HA := Lib.hid (fun W (hW : Below w.heap.size w W) => awakeS_any W)
  by_cases h40 : 40 < l.length
  · clear hA
    go_enter Try.func3, Try.ntmps3
    go_wp2_with fail
    have hb := ((Below.refl w.heap.size w).alloc (Nat.le_refl _) (.cells #[.int .i64 i0, .int .i64 i1, .int .i64 i2, .int .i64 i3, .int .i64 i4, .int .i64 i5, .int .i64 i6, .slice a l.length c] 24)).alloc (by simp) (.cells #[.int .i64 y0, .int .i64 y1, .int .i64 y2, .int .i64 y3, .int .i64 y4] 27)
    refine (HA.out _ hb).mono ?_
    rintro e w1 ⟨rfl, hb1⟩
    go_wp2_with fail
    go_ret
    exact ⟨rfl, hb.trans (hb1.mono hb.size)⟩
  · have h40 : l.length ≤ 40 := by omega
    have HV := Lib.hid (fun W (hW : Below w.heap.size w W) => rollS_any i0 i1 i2 i3 i4 i5 i6 a l c W (hA.below hW))
    have HW := Lib.hid (fun W (hW : Below w.heap.size w W) => rollR_any i0 i1 i2 i3 i4 i5 i6 a l c W (hA.below hW))
    have HX := Lib.hid (fun W (hW : Below w.heap.size w W) => rulesS_any y0 y1 y2 y3 y4 W)
    have HY := Lib.hid (fun W (hW : Below w.heap.size w W) => rulesR_any y0 y1 y2 y3 y4 W)
    clear hA
    generalize rollB i0 i1 i2 i3 i4 i5 i6 l = tb at *
    generalize rulesB y0 y1 y2 y3 y4 = sb at *
    have ht : (tb == tb) = true := by simp
    have hs : (sb == sb) = true := by simp
    go_enter Try.func3, Try.ntmps3
    go_wp2_with fail
    obtain ⟨wB, hwB⟩ : ∃ wB, (w.alloc (.cells #[.int .i64 i0, .int .i64 i1, .int .i64 i2, .int .i64 i3, .int .i64 i4, .int .i64 i5, .int .i64 i6, .slice a l.length c] 24)).alloc (.cells #[.int .i64 y0, .int .i64 y1, .int .i64 y2, .int .i64 y3, .int .i64 y4] 27) = wB := ⟨_, rfl⟩
    have hB : Below w.heap.size w wB := by rw [← hwB]; exact ((Below.refl w.heap.size w).alloc (Nat.le_refl _) _).alloc (by simp) _
    have p0 : wB.cell? ⟨w.heap.size, 0, none⟩ = some (.int .i64 i0) := by rw [← hwB]; simp [go_sem]
    have p1 : wB.cell? ⟨w.heap.size, 1, none⟩ = some (.int .i64 i1) := by rw [← hwB]; simp [go_sem]
    have p2 : wB.cell? ⟨w.heap.size, 2, none⟩ = some (.int .i64 i2) := by rw [← hwB]; simp [go_sem]
    have p3 : wB.cell? ⟨w.heap.size, 3, none⟩ = some (.int .i64 i3) := by rw [← hwB]; simp [go_sem]
    have p4 : wB.cell? ⟨w.heap.size, 4, none⟩ = some (.int .i64 i4) := by rw [← hwB]; simp [go_sem]
    have p5 : wB.cell? ⟨w.heap.size, 5, none⟩ = some (.int .i64 i5) := by rw [← hwB]; simp [go_sem]
    have p6 : wB.cell? ⟨w.heap.size, 6, none⟩ = some (.int .i64 i6) := by rw [← hwB]; simp [go_sem]
    have p7 : wB.cell? ⟨w.heap.size, 7, none⟩ = some (.slice a l.length c) := by rw [← hwB]; simp [go_sem]
    have s0 : wB.cell? ⟨w.heap.size + 1, 0, none⟩ = some (.int .i64 y0) := by rw [← hwB]; simp [go_sem]
    have s1 : wB.cell? ⟨w.heap.size + 1, 1, none⟩ = some (.int .i64 y1) := by rw [← hwB]; simp [go_sem]
    have s2 : wB.cell? ⟨w.heap.size + 1, 2, none⟩ = some (.int .i64 y2) := by rw [← hwB]; simp [go_sem]
    have s3 : wB.cell? ⟨w.heap.size + 1, 3, none⟩ = some (.int .i64 y3) := by rw [← hwB]; simp [go_sem]
    have s4 : wB.cell? ⟨w.heap.size + 1, 4, none⟩ = some (.int .i64 y4) := by rw [← hwB]; simp [go_sem]
    have hz : w.heap.size + 1 < wB.heap.size := by rw [← hwB]; simp
    rw [hwB]
    clear hwB h40
    go_region_held3 (fun w' => w'.cell? ⟨w.heap.size, 0, none⟩ = some (.int .i64 i0) ∧ w'.cell? ⟨w.heap.size, 1, none⟩ = some (.int .i64 i1) ∧ w'.cell? ⟨w.heap.size, 2, none⟩ = some (.int .i64 i2) ∧ w'.cell? ⟨w.heap.size, 3, none⟩ = some (.int .i64 i3) ∧ w'.cell? ⟨w.heap.size, 4, none⟩ = some (.int .i64 i4) ∧ w'.cell? ⟨w.heap.size, 5, none⟩ = some (.int .i64 i5) ∧ w'.cell? ⟨w.heap.size, 6, none⟩ = some (.int .i64 i6) ∧ w'.cell? ⟨w.heap.size, 7, none⟩ = some (.slice a l.length c) ∧ w'.cell? ⟨w.heap.size + 1, 0, none⟩ = some (.int .i64 y0) ∧ w'.cell? ⟨w.heap.size + 1, 1, none⟩ = some (.int .i64 y1) ∧ w'.cell? ⟨w.heap.size + 1, 2, none⟩ = some (.int .i64 y2) ∧ w'.cell? ⟨w.heap.size + 1, 3, none⟩ = some (.int .i64 y3) ∧ w'.cell? ⟨w.heap.size + 1, 4, none⟩ = some (.int .i64 y4)) (go_keep)
      (first
        | (go_at_call 7
           refine (HV.out _ (by first | exact hB.drew | exact hB | exact hB.drew.drew | exact hB.drew.drew.drew | exact below_drewS hB _ | exact below_drewS hB.drew _)).mono ?_
           rintro E w2 ⟨rfl, hb2⟩
           have p0 := (hb2.cell (p := ⟨w.heap.size, 0, none⟩) (Nat.lt_trans (Nat.lt_succ_self _) hz)).trans p0
           have p1 := (hb2.cell (p := ⟨w.heap.size, 1, none⟩) (Nat.lt_trans (Nat.lt_succ_self _) hz)).trans p1
           have p2 := (hb2.cell (p := ⟨w.heap.size, 2, none⟩) (Nat.lt_trans (Nat.lt_succ_self _) hz)).trans p2
           have p3 := (hb2.cell (p := ⟨w.heap.size, 3, none⟩) (Nat.lt_trans (Nat.lt_succ_self _) hz)).trans p3
           have p4 := (hb2.cell (p := ⟨w.heap.size, 4, none⟩) (Nat.lt_trans (Nat.lt_succ_self _) hz)).trans p4
           have p5 := (hb2.cell (p := ⟨w.heap.size, 5, none⟩) (Nat.lt_trans (Nat.lt_succ_self _) hz)).trans p5
           have p6 := (hb2.cell (p := ⟨w.heap.size, 6, none⟩) (Nat.lt_trans (Nat.lt_succ_self _) hz)).trans p6
           have p7 := (hb2.cell (p := ⟨w.heap.size, 7, none⟩) (Nat.lt_trans (Nat.lt_succ_self _) hz)).trans p7
           have s0 := (hb2.cell (p := ⟨w.heap.size + 1, 0, none⟩) hz).trans s0
           have s1 := (hb2.cell (p := ⟨w.heap.size + 1, 1, none⟩) hz).trans s1
           have s2 := (hb2.cell (p := ⟨w.heap.size + 1, 2, none⟩) hz).trans s2
           have s3 := (hb2.cell (p := ⟨w.heap.size + 1, 3, none⟩) hz).trans s3
           have s4 := (hb2.cell (p := ⟨w.heap.size + 1, 4, none⟩) hz).trans s4
           have hB : Below w.heap.size w w2 := by first | exact (hB.drew).trans (hb2.mono hB.size) | exact hB.trans (hb2.mono hB.size)
           have hz := Nat.lt_of_lt_of_le hz hb2.size)
        | (go_at_call 8
           refine (HW.out _ (by first | exact hB.drew | exact hB | exact hB.drew.drew | exact hB.drew.drew.drew | exact below_drewS hB _ | exact below_drewS hB.drew _)).mono ?_
           rintro E w2 ⟨rfl, hb2⟩
           have p0 := (hb2.cell (p := ⟨w.heap.size, 0, none⟩) (Nat.lt_trans (Nat.lt_succ_self _) hz)).trans p0
           have p1 := (hb2.cell (p := ⟨w.heap.size, 1, none⟩) (Nat.lt_trans (Nat.lt_succ_self _) hz)).trans p1
           have p2 := (hb2.cell (p := ⟨w.heap.size, 2, none⟩) (Nat.lt_trans (Nat.lt_succ_self _) hz)).trans p2
           have p3 := (hb2.cell (p := ⟨w.heap.size, 3, none⟩) (Nat.lt_trans (Nat.lt_succ_self _) hz)).trans p3
           have p4 := (hb2.cell (p := ⟨w.heap.size, 4, none⟩) (Nat.lt_trans (Nat.lt_succ_self _) hz)).trans p4
           have p5 := (hb2.cell (p := ⟨w.heap.size, 5, none⟩) (Nat.lt_trans (Nat.lt_succ_self _) hz)).trans p5
           have p6 := (hb2.cell (p := ⟨w.heap.size, 6, none⟩) (Nat.lt_trans (Nat.lt_succ_self _) hz)).trans p6
           have p7 := (hb2.cell (p := ⟨w.heap.size, 7, none⟩) (Nat.lt_trans (Nat.lt_succ_self _) hz)).trans p7
           have s0 := (hb2.cell (p := ⟨w.heap.size + 1, 0, none⟩) hz).trans s0
           have s1 := (hb2.cell (p := ⟨w.heap.size + 1, 1, none⟩) hz).trans s1
           have s2 := (hb2.cell (p := ⟨w.heap.size + 1, 2, none⟩) hz).trans s2
           have s3 := (hb2.cell (p := ⟨w.heap.size + 1, 3, none⟩) hz).trans s3
           have s4 := (hb2.cell (p := ⟨w.heap.size + 1, 4, none⟩) hz).trans s4
           have hB : Below w.heap.size w w2 := by first | exact (hB.drew).trans (hb2.mono hB.size) | exact hB.trans (hb2.mono hB.size)
           have hz := Nat.lt_of_lt_of_le hz hb2.size)
        | (go_at_call 9
           refine (HX.out _ (by first | exact hB.drew | exact hB | exact hB.drew.drew | exact hB.drew.drew.drew | exact below_drewS hB _ | exact below_drewS hB.drew _)).mono ?_
           rintro E w2 ⟨rfl, hb2⟩
           have p0 := (hb2.cell (p := ⟨w.heap.size, 0, none⟩) (Nat.lt_trans (Nat.lt_succ_self _) hz)).trans p0
           have p1 := (hb2.cell (p := ⟨w.heap.size, 1, none⟩) (Nat.lt_trans (Nat.lt_succ_self _) hz)).trans p1
           have p2 := (hb2.cell (p := ⟨w.heap.size, 2, none⟩) (Nat.lt_trans (Nat.lt_succ_self _) hz)).trans p2
           have p3 := (hb2.cell (p := ⟨w.heap.size, 3, none⟩) (Nat.lt_trans (Nat.lt_succ_self _) hz)).trans p3
           have p4 := (hb2.cell (p := ⟨w.heap.size, 4, none⟩) (Nat.lt_trans (Nat.lt_succ_self _) hz)).trans p4
           have p5 := (hb2.cell (p := ⟨w.heap.size, 5, none⟩) (Nat.lt_trans (Nat.lt_succ_self _) hz)).trans p5
           have p6 := (hb2.cell (p := ⟨w.heap.size, 6, none⟩) (Nat.lt_trans (Nat.lt_succ_self _) hz)).trans p6
           have p7 := (hb2.cell (p := ⟨w.heap.size, 7, none⟩) (Nat.lt_trans (Nat.lt_succ_self _) hz)).trans p7
           have s0 := (hb2.cell (p := ⟨w.heap.size + 1, 0, none⟩) hz).trans s0
           have s1 := (hb2.cell (p := ⟨w.heap.size + 1, 1, none⟩) hz).trans s1
           have s2 := (hb2.cell (p := ⟨w.heap.size + 1, 2, none⟩) hz).trans s2
           have s3 := (hb2.cell (p := ⟨w.heap.size + 1, 3, none⟩) hz).trans s3
           have s4 := (hb2.cell (p := ⟨w.heap.size + 1, 4, none⟩) hz).trans s4
           have hB : Below w.heap.size w w2 := by first | exact (hB.drew).trans (hb2.mono hB.size) | exact hB.trans (hb2.mono hB.size)
           have hz := Nat.lt_of_lt_of_le hz hb2.size)
        | (go_at_call 10
           refine (HY.out _ (by first | exact hB.drew | exact hB | exact hB.drew.drew | exact hB.drew.drew.drew | exact below_drewS hB _ | exact below_drewS hB.drew _)).mono ?_
           rintro E w2 ⟨rfl, hb2⟩
           have p0 := (hb2.cell (p := ⟨w.heap.size, 0, none⟩) (Nat.lt_trans (Nat.lt_succ_self _) hz)).trans p0
           have p1 := (hb2.cell (p := ⟨w.heap.size, 1, none⟩) (Nat.lt_trans (Nat.lt_succ_self _) hz)).trans p1
           have p2 := (hb2.cell (p := ⟨w.heap.size, 2, none⟩) (Nat.lt_trans (Nat.lt_succ_self _) hz)).trans p2
           have p3 := (hb2.cell (p := ⟨w.heap.size, 3, none⟩) (Nat.lt_trans (Nat.lt_succ_self _) hz)).trans p3
           have p4 := (hb2.cell (p := ⟨w.heap.size, 4, none⟩) (Nat.lt_trans (Nat.lt_succ_self _) hz)).trans p4
           have p5 := (hb2.cell (p := ⟨w.heap.size, 5, none⟩) (Nat.lt_trans (Nat.lt_succ_self _) hz)).trans p5
           have p6 := (hb2.cell (p := ⟨w.heap.size, 6, none⟩) (Nat.lt_trans (Nat.lt_succ_self _) hz)).trans p6
           have p7 := (hb2.cell (p := ⟨w.heap.size, 7, none⟩) (Nat.lt_trans (Nat.lt_succ_self _) hz)).trans p7
           have s0 := (hb2.cell (p := ⟨w.heap.size + 1, 0, none⟩) hz).trans s0
           have s1 := (hb2.cell (p := ⟨w.heap.size + 1, 1, none⟩) hz).trans s1
           have s2 := (hb2.cell (p := ⟨w.heap.size + 1, 2, none⟩) hz).trans s2
           have s3 := (hb2.cell (p := ⟨w.heap.size + 1, 3, none⟩) hz).trans s3
           have s4 := (hb2.cell (p := ⟨w.heap.size + 1, 4, none⟩) hz).trans s4
           have hB : Below w.heap.size w w2 := by first | exact (hB.drew).trans (hb2.mono hB.size) | exact hB.trans (hb2.mono hB.size)
           have hz := Nat.lt_of_lt_of_le hz hb2.size)
        | (go_at_call 6
           refine (HA.out _ (by first | exact hB.drew | exact hB | exact hB.drew.drew | exact hB.drew.drew.drew | exact below_drewS hB _ | exact below_drewS hB.drew _)).mono ?_
           rintro E w2 ⟨rfl, hb2⟩
           have p0 := (hb2.cell (p := ⟨w.heap.size, 0, none⟩) (Nat.lt_trans (Nat.lt_succ_self _) hz)).trans p0
           have p1 := (hb2.cell (p := ⟨w.heap.size, 1, none⟩) (Nat.lt_trans (Nat.lt_succ_self _) hz)).trans p1
           have p2 := (hb2.cell (p := ⟨w.heap.size, 2, none⟩) (Nat.lt_trans (Nat.lt_succ_self _) hz)).trans p2
           have p3 := (hb2.cell (p := ⟨w.heap.size, 3, none⟩) (Nat.lt_trans (Nat.lt_succ_self _) hz)).trans p3
           have p4 := (hb2.cell (p := ⟨w.heap.size, 4, none⟩) (Nat.lt_trans (Nat.lt_succ_self _) hz)).trans p4
           have p5 := (hb2.cell (p := ⟨w.heap.size, 5, none⟩) (Nat.lt_trans (Nat.lt_succ_self _) hz)).trans p5
           have p6 := (hb2.cell (p := ⟨w.heap.size, 6, none⟩) (Nat.lt_trans (Nat.lt_succ_self _) hz)).trans p6
           have p7 := (hb2.cell (p := ⟨w.heap.size, 7, none⟩) (Nat.lt_trans (Nat.lt_succ_self _) hz)).trans p7
           have s0 := (hb2.cell (p := ⟨w.heap.size + 1, 0, none⟩) hz).trans s0
           have s1 := (hb2.cell (p := ⟨w.heap.size + 1, 1, none⟩) hz).trans s1
           have s2 := (hb2.cell (p := ⟨w.heap.size + 1, 2, none⟩) hz).trans s2
           have s3 := (hb2.cell (p := ⟨w.heap.size + 1, 3, none⟩) hz).trans s3
           have s4 := (hb2.cell (p := ⟨w.heap.size + 1, 4, none⟩) hz).trans s4
           have hB : Below w.heap.size w w2 := by first | exact (hB.drew).trans (hb2.mono hB.size) | exact hB.trans (hb2.mono hB.size)
           have hz := Nat.lt_of_lt_of_le hz hb2.size))
    all_goals
      go_wp2_with fail
      go_ret
      exact ⟨rfl, by first | exact hB | exact hB.drew⟩
end Go.Proofs.Ythiaefhejdfobaa
