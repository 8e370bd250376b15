/-
  SheetNils: what a nil and a zero store return. By an AI agent.
-/
import Derived.Test.YthiaefhejdfobaaGreatSheN
import Derived.Test.YthiaefhejdfobaaGreatSheO
import Derived.Deep.RegionHeld3
import Derived.BigQuiet
import Derived.Deep.DeepCutAuto
namespace Go.Proofs.YthiaefhejdfobaaGreat
set_option linter.unusedVariables false
set_option linter.unusedSimpArgs false
open Go.RowKit

set_option maxRecDepth 100000 in
set_option maxHeartbeats 4000000 in
theorem sheetNils_any (i0 i1 i2 i3 i4 i5 i6 : Int) (ra : Option Addr) (rn rc : Nat) (n0 n1 n2 n3 n4 q0 q1 q2 : Int) (w : World) :
    Calls Tryz.prog 3 #[.agg #[.int .i64 i0, .int .i64 i1, .int .i64 i2, .int .i64 i3, .int .i64 i4, .int .i64 i5, .int .i64 i6, .slice ra rn rc, .int .i64 n0, .int .i64 n1, .int .i64 n2, .int .i64 n3, .int .i64 n4, .int .i64 q0, .int .i64 q1, .int .i64 q2]] w fun e w' => e = .returned (.bool true) ∧ Below w.heap.size w w' := by
  obtain ⟨wB, hwB⟩ : ∃ wB, ((w.alloc (.cells #[.int .i64 i0, .int .i64 i1, .int .i64 i2, .int .i64 i3, .int .i64 i4, .int .i64 i5, .int .i64 i6, .slice ra rn rc, .int .i64 n0, .int .i64 n1, .int .i64 n2, .int .i64 n3, .int .i64 n4, .int .i64 q0, .int .i64 q1, .int .i64 q2] 28)).alloc (.cells #[.int .i64 0, .int .i64 0, .int .i64 0, .int .i64 0, .int .i64 0, .map none, .map none, .map none, .map none, .int .i64 0, .int .i64 0] 38)).alloc (.cells #[.pointer none, .pointer (some ⟨w.heap.size + 1, 0, none⟩)] 29) = wB := ⟨_, rfl⟩
  have hbB : Below w.heap.size w wB := by rw [← hwB]; exact (((Below.refl _ _).alloc (Nat.le_refl _) _).alloc (by simp) _).alloc (by simp <;> omega) _
  have Q0 : Hid (wB.cell? ⟨w.heap.size, 0, none⟩ = some (.int .i64 i0)) := Lib.hid (by rw [← hwB]; simp [go_sem])
  have Q1 : Hid (wB.cell? ⟨w.heap.size, 1, none⟩ = some (.int .i64 i1)) := Lib.hid (by rw [← hwB]; simp [go_sem])
  have Q2 : Hid (wB.cell? ⟨w.heap.size, 2, none⟩ = some (.int .i64 i2)) := Lib.hid (by rw [← hwB]; simp [go_sem])
  have Q3 : Hid (wB.cell? ⟨w.heap.size, 3, none⟩ = some (.int .i64 i3)) := Lib.hid (by rw [← hwB]; simp [go_sem])
  have Q4 : Hid (wB.cell? ⟨w.heap.size, 4, none⟩ = some (.int .i64 i4)) := Lib.hid (by rw [← hwB]; simp [go_sem])
  have Q5 : Hid (wB.cell? ⟨w.heap.size, 5, none⟩ = some (.int .i64 i5)) := Lib.hid (by rw [← hwB]; simp [go_sem])
  have Q6 : Hid (wB.cell? ⟨w.heap.size, 6, none⟩ = some (.int .i64 i6)) := Lib.hid (by rw [← hwB]; simp [go_sem])
  have Q7 : Hid (wB.cell? ⟨w.heap.size, 7, none⟩ = some (.slice ra rn rc)) := Lib.hid (by rw [← hwB]; simp [go_sem])
  have Q8 : Hid (wB.cell? ⟨w.heap.size, 8, none⟩ = some (.int .i64 n0)) := Lib.hid (by rw [← hwB]; simp [go_sem])
  have Q9 : Hid (wB.cell? ⟨w.heap.size, 9, none⟩ = some (.int .i64 n1)) := Lib.hid (by rw [← hwB]; simp [go_sem])
  have Q10 : Hid (wB.cell? ⟨w.heap.size, 10, none⟩ = some (.int .i64 n2)) := Lib.hid (by rw [← hwB]; simp [go_sem])
  have Q11 : Hid (wB.cell? ⟨w.heap.size, 11, none⟩ = some (.int .i64 n3)) := Lib.hid (by rw [← hwB]; simp [go_sem])
  have Q12 : Hid (wB.cell? ⟨w.heap.size, 12, none⟩ = some (.int .i64 n4)) := Lib.hid (by rw [← hwB]; simp [go_sem])
  have Q13 : Hid (wB.cell? ⟨w.heap.size, 13, none⟩ = some (.int .i64 q0)) := Lib.hid (by rw [← hwB]; simp [go_sem])
  have Q14 : Hid (wB.cell? ⟨w.heap.size, 14, none⟩ = some (.int .i64 q1)) := Lib.hid (by rw [← hwB]; simp [go_sem])
  have Q15 : Hid (wB.cell? ⟨w.heap.size, 15, none⟩ = some (.int .i64 q2)) := Lib.hid (by rw [← hwB]; simp [go_sem])
  obtain ⟨P, hP⟩ : ∃ P : Nat → Option Addr, ∀ k, k < 2 → wB.cell? ⟨w.heap.size + 2, k, none⟩ = some (.pointer (P k)) ∧ NilP wB (P k) := by
    refine ⟨fun k => if k = 0 then none else some ⟨w.heap.size + 1, 0, none⟩, fun k hk => ?_⟩
    match k, hk with
    | 0, _ => exact ⟨by rw [← hwB]; simp [go_sem], .inl rfl⟩
    | 1, _ => exact ⟨by rw [← hwB]; simp [go_sem], .inr ⟨w.heap.size + 1, rfl, by rw [← hwB]; simp [go_sem], by rw [← hwB]; simp [go_sem], by rw [← hwB]; simp [go_sem], by rw [← hwB]; simp [go_sem], by rw [← hwB]; simp [go_sem]⟩⟩
  have HP := Lib.hid hP
  clear hP
  have hzB : w.heap.size < wB.heap.size := by rw [← hwB]; simp <;> omega
  go_enter Tryz.func3, Tryz.ntmps3
  go_wp2_with fail
  clear hwB
  go_loopw [4] (fun i wr => ∃ k : Nat, k ≤ 2 ∧ i = .int .i64 k ∧ Below wB.heap.size wB wr) (fun i _ => 2 - (intOf i).toNat)
  case atStart => exact ⟨0, Nat.zero_le _, rfl, Below.refl _ _⟩
  case round =>
    obtain ⟨k, hk, rfl, hb⟩ := hrel
    have hzw := Nat.lt_of_lt_of_le hzB hb.size
    by_cases hlt : k < 2
    · obtain ⟨hg, hN⟩ := HP.out k hlt
      have hg := cell_below hg hb
      have HN := Lib.hid (fun W (hW : Below wB.heap.size wB W) => NilP.below hN hW)
      clear hN HP
      generalize P k = p at *
      have C1 := Lib.hid (fun W (hW : Below wB.heap.size wB W) => nilLots p n0 n1 n2 n3 n4 q0 W (HN.out W hW))
      have C2 := Lib.hid (fun W (hW : Below wB.heap.size wB W) => nilTake p n0 n1 n2 n3 n4 q0 W (HN.out W hW))
      have C3 := Lib.hid (fun W (hW : Below wB.heap.size wB W) => nilExpire p q0 W (HN.out W hW))
      have C4 := Lib.hid (fun W (hW : Below wB.heap.size wB W) => nilRecall p q2 W (HN.out W hW))
      have C5 := Lib.hid (fun W (hW : Below wB.heap.size wB W) => nilTrace p q1 W (HN.out W hW))
      have C6 := Lib.hid (fun W (hW : Below wB.heap.size wB W) => nilReceive p i0 i1 i2 i3 i4 i5 i6 ra rn rc W (HN.out W hW))
      have C7 := Lib.hid (fun W (hW : Below wB.heap.size wB W) => nilUse p q1 q2 W (HN.out W hW))
      have C8 := Lib.hid (fun W (hW : Below wB.heap.size wB W) => nilReturn p q1 W (HN.out W hW))
      have C9 := Lib.hid (fun W (hW : Below wB.heap.size wB W) => nilScrap p q1 W (HN.out W hW))
      have D1 := Lib.hid (fun W (hW : Below wB.heap.size wB W) => nilItems p W (HN.out W hW))
      have D2 := Lib.hid (fun W (hW : Below wB.heap.size wB W) => nilPieces p W (HN.out W hW))
      have D3 := Lib.hid (fun W (hW : Below wB.heap.size wB W) => nilBalance p W (HN.out W hW))
      have D4 := Lib.hid (fun W (hW : Below wB.heap.size wB W) => nilCopy p W (HN.out W hW))
      clear HN
      have p0 := cell_below Q0.out hb
      have p1 := cell_below Q1.out hb
      have p2 := cell_below Q2.out hb
      have p3 := cell_below Q3.out hb
      have p4 := cell_below Q4.out hb
      have p5 := cell_below Q5.out hb
      have p6 := cell_below Q6.out hb
      have p7 := cell_below Q7.out hb
      have p8 := cell_below Q8.out hb
      have p9 := cell_below Q9.out hb
      have p10 := cell_below Q10.out hb
      have p11 := cell_below Q11.out hb
      have p12 := cell_below Q12.out hb
      have p13 := cell_below Q13.out hb
      have p14 := cell_below Q14.out hb
      have p15 := cell_below Q15.out hb
      go_wp2_with fail
      refine (C1.out _ hb).mono ?_
      rintro e w1 ⟨rfl, hbx⟩
      have hb := hb.trans (hbx.mono hb.size)
      clear hbx p0 p1 p2 p3 p4 p5 p6 p7 p8 p9 p10 p11 p12 p13 p14 p15
      have p0 := cell_below Q0.out hb
      have p1 := cell_below Q1.out hb
      have p2 := cell_below Q2.out hb
      have p3 := cell_below Q3.out hb
      have p4 := cell_below Q4.out hb
      have p5 := cell_below Q5.out hb
      have p6 := cell_below Q6.out hb
      have p7 := cell_below Q7.out hb
      have p8 := cell_below Q8.out hb
      have p9 := cell_below Q9.out hb
      have p10 := cell_below Q10.out hb
      have p11 := cell_below Q11.out hb
      have p12 := cell_below Q12.out hb
      have p13 := cell_below Q13.out hb
      have p14 := cell_below Q14.out hb
      have p15 := cell_below Q15.out hb
      go_wp2_with fail
      refine (C2.out _ hb).mono ?_
      rintro e w2 ⟨rfl, hbx⟩
      have hb := hb.trans (hbx.mono hb.size)
      clear hbx p0 p1 p2 p3 p4 p5 p6 p7 p8 p9 p10 p11 p12 p13 p14 p15
      have p0 := cell_below Q0.out hb
      have p1 := cell_below Q1.out hb
      have p2 := cell_below Q2.out hb
      have p3 := cell_below Q3.out hb
      have p4 := cell_below Q4.out hb
      have p5 := cell_below Q5.out hb
      have p6 := cell_below Q6.out hb
      have p7 := cell_below Q7.out hb
      have p8 := cell_below Q8.out hb
      have p9 := cell_below Q9.out hb
      have p10 := cell_below Q10.out hb
      have p11 := cell_below Q11.out hb
      have p12 := cell_below Q12.out hb
      have p13 := cell_below Q13.out hb
      have p14 := cell_below Q14.out hb
      have p15 := cell_below Q15.out hb
      go_wp2_with fail
      refine (C3.out _ hb).mono ?_
      rintro e w3 ⟨rfl, rfl⟩
      go_wp2_with fail
      refine (C4.out _ hb).mono ?_
      rintro e w4 ⟨rfl, rfl⟩
      go_wp2_with fail
      refine (C5.out _ hb).mono ?_
      rintro e w5 ⟨rfl, rfl⟩
      go_wp2_with fail
      have hzw := Nat.lt_of_lt_of_le hzB hb.size
      clear hg p8 p9 p10 p11 p12 p13 C1 C2 C3 C4 C5
      go_region_held3 (fun w' => w'.cell? ⟨w.heap.size, 0, none⟩ = some (.int .i64 i0) ∧ w'.cell? ⟨w.heap.size, 1, none⟩ = some (.int .i64 i1) ∧ w'.cell? ⟨w.heap.size, 2, none⟩ = some (.int .i64 i2) ∧ w'.cell? ⟨w.heap.size, 3, none⟩ = some (.int .i64 i3) ∧ w'.cell? ⟨w.heap.size, 4, none⟩ = some (.int .i64 i4) ∧ w'.cell? ⟨w.heap.size, 5, none⟩ = some (.int .i64 i5) ∧ w'.cell? ⟨w.heap.size, 6, none⟩ = some (.int .i64 i6) ∧ w'.cell? ⟨w.heap.size, 7, none⟩ = some (.slice ra rn rc) ∧ w'.cell? ⟨w.heap.size, 14, none⟩ = some (.int .i64 q1) ∧ w'.cell? ⟨w.heap.size, 15, none⟩ = some (.int .i64 q2)) (go_keep)
        (first
          | (go_at_call 9
             refine (C6.out _ (by first | exact hb | exact hb.drew | exact hb.drew.drew | exact hb.drew.drew.drew)).mono ?_
             rintro E w5 ⟨rfl, hb5⟩
             have p0 := (hb5.cell (p := ⟨w.heap.size, 0, none⟩) (by simpa using hzw)).trans p0
             have p1 := (hb5.cell (p := ⟨w.heap.size, 1, none⟩) (by simpa using hzw)).trans p1
             have p2 := (hb5.cell (p := ⟨w.heap.size, 2, none⟩) (by simpa using hzw)).trans p2
             have p3 := (hb5.cell (p := ⟨w.heap.size, 3, none⟩) (by simpa using hzw)).trans p3
             have p4 := (hb5.cell (p := ⟨w.heap.size, 4, none⟩) (by simpa using hzw)).trans p4
             have p5 := (hb5.cell (p := ⟨w.heap.size, 5, none⟩) (by simpa using hzw)).trans p5
             have p6 := (hb5.cell (p := ⟨w.heap.size, 6, none⟩) (by simpa using hzw)).trans p6
             have p7 := (hb5.cell (p := ⟨w.heap.size, 7, none⟩) (by simpa using hzw)).trans p7
             have p14 := (hb5.cell (p := ⟨w.heap.size, 14, none⟩) (by simpa using hzw)).trans p14
             have p15 := (hb5.cell (p := ⟨w.heap.size, 15, none⟩) (by simpa using hzw)).trans p15
             have hb : Below wB.heap.size wB w5 := by first | exact hb.trans (hb5.mono hb.size) | exact (hb.drew).trans (hb5.mono hb.size) | exact (hb.drew.drew).trans (hb5.mono hb.size)
             have hzw : w.heap.size < w5.heap.size := Nat.lt_of_lt_of_le hzw hb5.size)
          | (go_at_call 10
             refine (C7.out _ (by first | exact hb | exact hb.drew | exact hb.drew.drew | exact hb.drew.drew.drew)).mono ?_
             rintro E w5 ⟨rfl, rfl⟩)
          | (go_at_call 11
             refine (C8.out _ (by first | exact hb | exact hb.drew | exact hb.drew.drew | exact hb.drew.drew.drew)).mono ?_
             rintro E w5 ⟨rfl, rfl⟩)
          | (go_at_call 12
             refine (C9.out _ (by first | exact hb | exact hb.drew | exact hb.drew.drew | exact hb.drew.drew.drew)).mono ?_
             rintro E w5 ⟨rfl, rfl⟩))
      all_goals
        go_wp2_with fail
        have HX : Hid (∀ j, j < 9 → (w5.alloc (.cells #[.int .i64 2, .int .i64 2, .int .i64 2, .int .i64 2, .int .i64 2, .int .i64 2, .int .i64 2, .int .i64 2, .int .i64 2] 41)).cell? ⟨w5.heap.size, j, none⟩ = some (.int .i64 2)) := Lib.hid fun j hj => by
          match j, hj with
          | 0, _ => simp [go_sem]
          | 1, _ => simp [go_sem]
          | 2, _ => simp [go_sem]
          | 3, _ => simp [go_sem]
          | 4, _ => simp [go_sem]
          | 5, _ => simp [go_sem]
          | 6, _ => simp [go_sem]
          | 7, _ => simp [go_sem]
          | 8, _ => simp [go_sem]
        have hb6 : Below wB.heap.size wB (w5.alloc (.cells #[.int .i64 2, .int .i64 2, .int .i64 2, .int .i64 2, .int .i64 2, .int .i64 2, .int .i64 2, .int .i64 2, .int .i64 2] 41)) := by first | exact hb.alloc hb.size _ | exact (hb.drew).alloc hb.size _
        generalize w5.alloc (.cells #[.int .i64 2, .int .i64 2, .int .i64 2, .int .i64 2, .int .i64 2, .int .i64 2, .int .i64 2, .int .i64 2, .int .i64 2] 41) = w6 at *
        clear p0 p1 p2 p3 p4 p5 p6 p7 p14 p15 C6 C7 C8 C9
        go_loop [17] (fun s => ∃ j : Nat, j ≤ 9 ∧ s = .int .i64 j) (fun s => 9 - (intOf s).toNat)
        case atStart => exact ⟨0, Nat.zero_le _, rfl⟩
        case round =>
          obtain ⟨j, hj, rfl⟩ := hrel
          by_cases hjl : j < 9
          · have hcj := HX.out j hjl
            go_wp2_with fail
            go_round
            case rel => exact ⟨j + 1, by omega, by go_num⟩
            case measure => simp [intOf]; omega
          · obtain rfl : j = 9 := by omega
            clear HX
            go_wp2_with fail
            refine (D1.out _ hb6).mono ?_
            rintro e w7 ⟨rfl, rfl⟩
            go_wp2_with fail
            refine (D2.out _ hb6).mono ?_
            rintro e w7 ⟨rfl, rfl⟩
            go_wp2_with fail
            refine (D3.out _ hb6).mono ?_
            rintro e w7 ⟨rfl, hb7⟩
            have hb8 := hb6.trans (hb7.mono hb6.size)
            clear hb7 hb6
            go_wp2_with fail
            refine (D4.out _ hb8).mono ?_
            rintro e w9 ⟨rfl, rfl⟩
            go_wp2_with fail
            go_roundw
            case rel => exact ⟨k + 1, by omega, by go_num, hb8⟩
            case measure => simp [intOf]; omega
    · obtain rfl : k = 2 := by omega
      go_wp2_with fail
      refine (awakeS_any _).mono ?_
      rintro e w1 ⟨rfl, hb1⟩
      go_wp2_with fail
      go_ret
      have hb2 := hbB.trans (hb.mono hbB.size)
      exact ⟨rfl, hb2.trans (hb1.mono hb2.size)⟩
end Go.Proofs.YthiaefhejdfobaaGreat
