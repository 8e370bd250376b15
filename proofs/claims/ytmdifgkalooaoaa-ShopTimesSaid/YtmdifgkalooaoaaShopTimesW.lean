/-
  The walk of the law ShopTimes: it answers true. By an AI agent.
-/
import Derived.Test.YtmdifgkalooaoaaShopFi
import Derived.Test.YtmdifgkalooaoaaShopL2
import Derived.Test.YtmdifgkalooaoaaShopG
import Derived.Deep.RegionHeld3
namespace Go.Proofs.Ytmdifgkalooaoaa
set_option linter.unusedVariables false
set_option linter.unusedSimpArgs false
open Go.RowKit

set_option maxRecDepth 100000 in
set_option maxHeartbeats 8000000 in
theorem shopTimes_any (s : Sh) (x0 x1 x2 x3 : Int) (w : World) (hI : ShS w s) (b0 : 0 ≤ x0 ∧ x0 ≤ 65535) (b1 : 0 ≤ x1 ∧ x1 ≤ 65535) (b2 : 0 ≤ x2 ∧ x2 ≤ 65535) (b3 : 0 ≤ x3 ∧ x3 ≤ 65535) :
    Calls Try.prog 16 #[.agg #[.int .i64 s.O, .int .i64 s.C, .slice s.aH s.H.length s.cH, .int .i64 s.M, .slice s.aS s.S.length s.cS, .slice s.aJ s.J.length s.cJ], .agg #[.int .u16 x0, .int .u16 x1, .int .u16 x2, .int .u16 x3]] w fun e w' => e = .returned (.bool true) ∧ Below w.heap.size w w' := by
  have HLo := Lib.hid (fun W (hW : Below w.heap.size w W) => long_sh s W (hI.below hW))
  have HRV := Lib.hid (fun W (hW : Below w.heap.size w W) => refValid_sh s W (hI.below hW))
  have HFi := Lib.hid first_sh
  have hB := ShBox.start w s 25
  by_cases hV : ShOk s
  · rw [shB_t hV] at HRV
    obtain ⟨o0, o1, o2⟩ := hV.1
    obtain ⟨a0, a1⟩ := b0
    obtain ⟨a2, a3⟩ := b1
    obtain ⟨a4, a5⟩ := b2
    obtain ⟨a6, a7⟩ := b3
    have d0 : s.C - s.O ≠ 0 := by omega
    have d1 : 0 ≤ x3 % (s.C - s.O) := Int.emod_nonneg _ d0
    have d2 : x3 % (s.C - s.O) < s.C - s.O := Int.emod_lt_of_pos _ (by omega)
    obtain ⟨mm, hmm⟩ : ∃ mm : Nat, (mm : Int) = x3 % 5000 := ⟨(x3 % 5000).toNat, by omega⟩
    have hH := hV.2.1
    obtain ⟨n1, hn1, -⟩ := next_exists (O := s.O) (C := s.C) (l := s.H) (t := x0) (m := 1 + x3 % (s.C - s.O)) o0 o1 o2 (by omega) hH.late a0
    obtain ⟨n2, hn2, -⟩ := next_exists (O := s.O) (C := s.C) (l := s.H) (t := x0 + x1) (m := 1 + x3 % (s.C - s.O)) o0 o1 o2 (by omega) hH.late (by omega)
    have hn12 : n1 ≤ n2 := by
      by_cases g : n1 ≤ n2
      · exact g
      · exact absurd hn2.2.1 (hn1.2.2 n2 (by have := hn2.1; omega) (by omega))
    have hn01 := hn1.1
    obtain ⟨k, hk, -⟩ := aft_exists (O := s.O) (C := s.C) hH.asc o0 o1 o2 x0 mm
    have hkx := hk.exact hH.asc o0 o1 o2 (by omega)
    have HN1 := Lib.hid (fun W (hW : Below w.heap.size w W) => next_ok s x0 (1 + x3 % (s.C - s.O)) W (hI.below hW) hV a0 (by omega) (by omega) (by omega))
    have HN2 := Lib.hid (fun W (hW : Below w.heap.size w W) => next_ok s (x0 + x1) (1 + x3 % (s.C - s.O)) W (hI.below hW) hV (by omega) (by omega) (by omega) (by omega))
    have HAf := Lib.hid (fun W (hW : Below w.heap.size w W) => after_ok s x0 mm W (hI.below hW) hV a0 (by omega) (by omega))
    have HW1 := Lib.hid (fun W (hW : Below w.heap.size w W) => worked_ok s x0 (x0 + x1) W (hI.below hW) hV a0 (by omega) (by omega))
    have HW2 := Lib.hid (fun W (hW : Below w.heap.size w W) => worked_ok s (x0 + x1) (x0 + x1 + x2) W (hI.below hW) hV (by omega) (by omega) (by omega))
    have HW3 := Lib.hid (fun W (hW : Below w.heap.size w W) => worked_ok s x0 (x0 + x1 + x2) W (hI.below hW) hV a0 (by omega) (by omega))
    have HWe : Hid (x0 + k ≤ 100000000 → ∀ W, Below w.heap.size w W → Calls Try.prog 23 #[.agg #[.int .i64 s.O, .int .i64 s.C, .slice s.aH s.H.length s.cH, .int .i64 s.M, .slice s.aS s.S.length s.cS, .slice s.aJ s.J.length s.cJ], .int .i64 x0, .int .i64 (x0 + k)] W fun e w' => e = .returned (.tuple #[.int .i64 (x3 % 5000), .int .i64 0]) ∧ Below W.heap.size W w') := Lib.hid fun h W hW => by
      have := worked_ok s x0 (x0 + k) W (hI.below hW) hV a0 (by omega) h
      rwa [hkx, show opnB s.O s.C s.H x0 + (mm : Int) - opnB s.O s.C s.H x0 = x3 % 5000 by omega] at this
    have m1 := opnB_mono (O := s.O) (C := s.C) (l := s.H) hH.asc o0 o1 o2 (show x0 ≤ x0 + x1 by omega)
    have m2 := opnB_mono (O := s.O) (C := s.C) (l := s.H) hH.asc o0 o1 o2 (show x0 + x1 ≤ x0 + x1 + x2 by omega)
    have z0 := opnB_bd (O := s.O) (C := s.C) (l := s.H) hH.asc hH.pos o0 o1 o2 a0
    have z2 := opnB_bd (O := s.O) (C := s.C) (l := s.H) hH.asc hH.pos o0 o1 o2 (show 0 ≤ x0 + x1 + x2 by omega)
    rw [nextV_eq hn1] at HN1
    rw [nextV_eq hn2] at HN2
    rw [aftV_eq hk, hmm] at HAf
    clear hV hI hH hn1 hn2 hk hkx hmm
    obtain ⟨u, hu⟩ : ∃ u, opnB s.O s.C s.H (x0 + x1) - opnB s.O s.C s.H x0 = u := ⟨_, rfl⟩
    obtain ⟨v, hv⟩ : ∃ u, opnB s.O s.C s.H (x0 + x1 + x2) - opnB s.O s.C s.H (x0 + x1) = u := ⟨_, rfl⟩
    obtain ⟨y, hy⟩ : ∃ u, opnB s.O s.C s.H (x0 + x1 + x2) - opnB s.O s.C s.H x0 = u := ⟨_, rfl⟩
    rw [hu] at HW1
    rw [hv] at HW2
    rw [hy] at HW3
    have g1 : 0 ≤ u := by omega
    have g2 : 0 ≤ v := by omega
    have g3 : u + v = y := by omega
    have g4 : u ≤ 1000000 := by omega
    have g5 : v ≤ 1000000 := by omega
    have hmm0 : (x3 % 5000 != x3 % 5000) = false := by simp
    have hgg : (u + v == y) = true := by rw [g3]; simp
    have e3 : 0 ≤ x3 % 5000 := by omega
    clear hu hv hy m1 m2 z0 z2 g3
    have GG := Lib.hid hgg
    by_cases he : x0 + k ≤ 100000000
    · have HWe := Lib.hid (HWe.out he)
      go_enter Try.func16, Try.ntmps16
      go_wp2_with fail
      obtain ⟨wB, hwB⟩ : ∃ wB, (w.alloc (.cells #[.int .i64 s.O, .int .i64 s.C, .slice s.aH s.H.length s.cH, .int .i64 s.M, .slice s.aS s.S.length s.cS, .slice s.aJ s.J.length s.cJ] 25)).alloc (.cells #[.int .u16 x0, .int .u16 x1, .int .u16 x2, .int .u16 x3] 67) = wB := ⟨_, rfl⟩
      have hB : ShBox w wB s := by rw [← hwB]; exact hB.on ((Below.refl _ _).alloc (Nat.le_refl _) _)
      have q0 : wB.cell? ⟨w.heap.size + 1, 0, none⟩ = some (.int .u16 x0) := by rw [← hwB]; simp [go_sem]
      have q1 : wB.cell? ⟨w.heap.size + 1, 1, none⟩ = some (.int .u16 x1) := by rw [← hwB]; simp [go_sem]
      have q2 : wB.cell? ⟨w.heap.size + 1, 2, none⟩ = some (.int .u16 x2) := by rw [← hwB]; simp [go_sem]
      have q3 : wB.cell? ⟨w.heap.size + 1, 3, none⟩ = some (.int .u16 x3) := by rw [← hwB]; simp [go_sem]
      rw [hwB]
      clear hwB
      refine (HLo.out _ hB.1).mono ?_
      rintro e w1 ⟨⟨b, rfl⟩, hb1⟩
      have q0 := cell_below q0 hb1
      have q1 := cell_below q1 hb1
      have q2 := cell_below q2 hb1
      have q3 := cell_below q3 hb1
      have HB := Lib.hid (hB.on hb1)
      obtain ⟨hb, p0, p1, p2, p3, p4, p5⟩ := hB.on hb1
      clear hb1 hB
      cases b with
      | true =>
        go_wp2_with fail
        refine (HFi.out _).mono ?_
        rintro e w9 ⟨rfl, hb9⟩
        go_wp2_with fail
        go_ret
        exact ⟨rfl, hb.trans (hb9.mono hb.size)⟩
      | false =>
        go_wp2_with fail
        refine (HRV.out _ hb).mono ?_
        rintro e w2 ⟨rfl, hb2⟩
        have q0 := cell_below q0 hb2
        have q1 := cell_below q1 hb2
        have q2 := cell_below q2 hb2
        have q3 := cell_below q3 hb2
        have HX0 := Lib.hid (HB.out.on hb2)
        obtain ⟨hb, p0, p1, p2, p3, p4, p5⟩ := HB.out.on hb2
        clear hb2 HB
        go_wp2_with fail
        refine (HN1.out _ hb).mono ?_
        rintro e y1 ⟨rfl, hc1⟩
        have q0 := cell_below q0 hc1
        have q1 := cell_below q1 hc1
        have q2 := cell_below q2 hc1
        have q3 := cell_below q3 hc1
        have HX1 := Lib.hid (HX0.out.on hc1)
        obtain ⟨hb, p0, p1, p2, p3, p4, p5⟩ := HX0.out.on hc1
        clear hc1 HX0 HN1
        go_wp2_with fail
        refine (HN2.out _ hb).mono ?_
        rintro e y2 ⟨rfl, hc2⟩
        have q0 := cell_below q0 hc2
        have q1 := cell_below q1 hc2
        have q2 := cell_below q2 hc2
        have q3 := cell_below q3 hc2
        have HX2 := Lib.hid (HX1.out.on hc2)
        obtain ⟨hb, p0, p1, p2, p3, p4, p5⟩ := HX1.out.on hc2
        clear hc2 HX1 HN2
        go_wp2_with fail
        refine (HAf.out _ hb).mono ?_
        rintro e y3 ⟨rfl, hc3⟩
        have q0 := cell_below q0 hc3
        have q1 := cell_below q1 hc3
        have q2 := cell_below q2 hc3
        have q3 := cell_below q3 hc3
        have HX3 := Lib.hid (HX2.out.on hc3)
        obtain ⟨hb, p0, p1, p2, p3, p4, p5⟩ := HX2.out.on hc3
        clear hc3 HX2 HAf
        go_wp2_with fail
        refine (HWe.out _ hb).mono ?_
        rintro e y4 ⟨rfl, hc4⟩
        have q0 := cell_below q0 hc4
        have q1 := cell_below q1 hc4
        have q2 := cell_below q2 hc4
        have q3 := cell_below q3 hc4
        have HX4 := Lib.hid (HX3.out.on hc4)
        obtain ⟨hb, p0, p1, p2, p3, p4, p5⟩ := HX3.out.on hc4
        clear hc4 HX3 HWe
        go_wp2_with fail
        refine (HW1.out _ hb).mono ?_
        rintro e y5 ⟨rfl, hc5⟩
        have q0 := cell_below q0 hc5
        have q1 := cell_below q1 hc5
        have q2 := cell_below q2 hc5
        have q3 := cell_below q3 hc5
        have HX5 := Lib.hid (HX4.out.on hc5)
        obtain ⟨hb, p0, p1, p2, p3, p4, p5⟩ := HX4.out.on hc5
        clear hc5 HX4 HW1
        go_wp2_with fail
        refine (HW2.out _ hb).mono ?_
        rintro e y6 ⟨rfl, hc6⟩
        have q0 := cell_below q0 hc6
        have q1 := cell_below q1 hc6
        have q2 := cell_below q2 hc6
        have q3 := cell_below q3 hc6
        have HX6 := Lib.hid (HX5.out.on hc6)
        obtain ⟨hb, p0, p1, p2, p3, p4, p5⟩ := HX5.out.on hc6
        clear hc6 HX5 HW2
        go_wp2_with fail
        refine (HW3.out _ hb).mono ?_
        rintro e y7 ⟨rfl, hc7⟩
        have q0 := cell_below q0 hc7
        have q1 := cell_below q1 hc7
        have q2 := cell_below q2 hc7
        have q3 := cell_below q3 hc7
        have HX7 := Lib.hid (HX6.out.on hc7)
        obtain ⟨hb, p0, p1, p2, p3, p4, p5⟩ := HX6.out.on hc7
        clear hc7 HX6 HW3
        go_wp2_with fail
        refine (HFi.out _).mono ?_
        rintro e w9 ⟨rfl, hb9⟩
        go_wp2_with fail
        go_ret
        exact ⟨rfl, hb.trans (hb9.mono hb.size)⟩
    · clear HWe
      go_enter Try.func16, Try.ntmps16
      go_wp2_with fail
      obtain ⟨wB, hwB⟩ : ∃ wB, (w.alloc (.cells #[.int .i64 s.O, .int .i64 s.C, .slice s.aH s.H.length s.cH, .int .i64 s.M, .slice s.aS s.S.length s.cS, .slice s.aJ s.J.length s.cJ] 25)).alloc (.cells #[.int .u16 x0, .int .u16 x1, .int .u16 x2, .int .u16 x3] 67) = wB := ⟨_, rfl⟩
      have hB : ShBox w wB s := by rw [← hwB]; exact hB.on ((Below.refl _ _).alloc (Nat.le_refl _) _)
      have q0 : wB.cell? ⟨w.heap.size + 1, 0, none⟩ = some (.int .u16 x0) := by rw [← hwB]; simp [go_sem]
      have q1 : wB.cell? ⟨w.heap.size + 1, 1, none⟩ = some (.int .u16 x1) := by rw [← hwB]; simp [go_sem]
      have q2 : wB.cell? ⟨w.heap.size + 1, 2, none⟩ = some (.int .u16 x2) := by rw [← hwB]; simp [go_sem]
      have q3 : wB.cell? ⟨w.heap.size + 1, 3, none⟩ = some (.int .u16 x3) := by rw [← hwB]; simp [go_sem]
      rw [hwB]
      clear hwB
      refine (HLo.out _ hB.1).mono ?_
      rintro e w1 ⟨⟨b, rfl⟩, hb1⟩
      have q0 := cell_below q0 hb1
      have q1 := cell_below q1 hb1
      have q2 := cell_below q2 hb1
      have q3 := cell_below q3 hb1
      have HB := Lib.hid (hB.on hb1)
      obtain ⟨hb, p0, p1, p2, p3, p4, p5⟩ := hB.on hb1
      clear hb1 hB
      cases b with
      | true =>
        go_wp2_with fail
        refine (HFi.out _).mono ?_
        rintro e w9 ⟨rfl, hb9⟩
        go_wp2_with fail
        go_ret
        exact ⟨rfl, hb.trans (hb9.mono hb.size)⟩
      | false =>
        go_wp2_with fail
        refine (HRV.out _ hb).mono ?_
        rintro e w2 ⟨rfl, hb2⟩
        have q0 := cell_below q0 hb2
        have q1 := cell_below q1 hb2
        have q2 := cell_below q2 hb2
        have q3 := cell_below q3 hb2
        have HX0 := Lib.hid (HB.out.on hb2)
        obtain ⟨hb, p0, p1, p2, p3, p4, p5⟩ := HB.out.on hb2
        clear hb2 HB
        go_wp2_with fail
        refine (HN1.out _ hb).mono ?_
        rintro e y1 ⟨rfl, hc1⟩
        have q0 := cell_below q0 hc1
        have q1 := cell_below q1 hc1
        have q2 := cell_below q2 hc1
        have q3 := cell_below q3 hc1
        have HX1 := Lib.hid (HX0.out.on hc1)
        obtain ⟨hb, p0, p1, p2, p3, p4, p5⟩ := HX0.out.on hc1
        clear hc1 HX0 HN1
        go_wp2_with fail
        refine (HN2.out _ hb).mono ?_
        rintro e y2 ⟨rfl, hc2⟩
        have q0 := cell_below q0 hc2
        have q1 := cell_below q1 hc2
        have q2 := cell_below q2 hc2
        have q3 := cell_below q3 hc2
        have HX2 := Lib.hid (HX1.out.on hc2)
        obtain ⟨hb, p0, p1, p2, p3, p4, p5⟩ := HX1.out.on hc2
        clear hc2 HX1 HN2
        go_wp2_with fail
        refine (HAf.out _ hb).mono ?_
        rintro e y3 ⟨rfl, hc3⟩
        have q0 := cell_below q0 hc3
        have q1 := cell_below q1 hc3
        have q2 := cell_below q2 hc3
        have q3 := cell_below q3 hc3
        have HX3 := Lib.hid (HX2.out.on hc3)
        obtain ⟨hb, p0, p1, p2, p3, p4, p5⟩ := HX2.out.on hc3
        clear hc3 HX2 HAf
        go_wp2_with fail
        refine (HW1.out _ hb).mono ?_
        rintro e y4 ⟨rfl, hc4⟩
        have q0 := cell_below q0 hc4
        have q1 := cell_below q1 hc4
        have q2 := cell_below q2 hc4
        have q3 := cell_below q3 hc4
        have HX4 := Lib.hid (HX3.out.on hc4)
        obtain ⟨hb, p0, p1, p2, p3, p4, p5⟩ := HX3.out.on hc4
        clear hc4 HX3 HW1
        go_wp2_with fail
        refine (HW2.out _ hb).mono ?_
        rintro e y5 ⟨rfl, hc5⟩
        have q0 := cell_below q0 hc5
        have q1 := cell_below q1 hc5
        have q2 := cell_below q2 hc5
        have q3 := cell_below q3 hc5
        have HX5 := Lib.hid (HX4.out.on hc5)
        obtain ⟨hb, p0, p1, p2, p3, p4, p5⟩ := HX4.out.on hc5
        clear hc5 HX4 HW2
        go_wp2_with fail
        refine (HW3.out _ hb).mono ?_
        rintro e y6 ⟨rfl, hc6⟩
        have q0 := cell_below q0 hc6
        have q1 := cell_below q1 hc6
        have q2 := cell_below q2 hc6
        have q3 := cell_below q3 hc6
        have HX6 := Lib.hid (HX5.out.on hc6)
        obtain ⟨hb, p0, p1, p2, p3, p4, p5⟩ := HX5.out.on hc6
        clear hc6 HX5 HW3
        go_wp2_with fail
        refine (HFi.out _).mono ?_
        rintro e w9 ⟨rfl, hb9⟩
        go_wp2_with fail
        go_ret
        exact ⟨rfl, hb.trans (hb9.mono hb.size)⟩
  · rw [shB_f hV] at HRV
    clear hV hI
    go_enter Try.func16, Try.ntmps16
    go_wp2_with fail
    obtain ⟨wB, hwB⟩ : ∃ wB, (w.alloc (.cells #[.int .i64 s.O, .int .i64 s.C, .slice s.aH s.H.length s.cH, .int .i64 s.M, .slice s.aS s.S.length s.cS, .slice s.aJ s.J.length s.cJ] 25)).alloc (.cells #[.int .u16 x0, .int .u16 x1, .int .u16 x2, .int .u16 x3] 67) = wB := ⟨_, rfl⟩
    have hB : ShBox w wB s := by rw [← hwB]; exact hB.on ((Below.refl _ _).alloc (Nat.le_refl _) _)
    have q0 : wB.cell? ⟨w.heap.size + 1, 0, none⟩ = some (.int .u16 x0) := by rw [← hwB]; simp [go_sem]
    have q1 : wB.cell? ⟨w.heap.size + 1, 1, none⟩ = some (.int .u16 x1) := by rw [← hwB]; simp [go_sem]
    have q2 : wB.cell? ⟨w.heap.size + 1, 2, none⟩ = some (.int .u16 x2) := by rw [← hwB]; simp [go_sem]
    have q3 : wB.cell? ⟨w.heap.size + 1, 3, none⟩ = some (.int .u16 x3) := by rw [← hwB]; simp [go_sem]
    rw [hwB]
    clear hwB
    refine (HLo.out _ hB.1).mono ?_
    rintro e w1 ⟨⟨b, rfl⟩, hb1⟩
    have q0 := cell_below q0 hb1
    have q1 := cell_below q1 hb1
    have q2 := cell_below q2 hb1
    have q3 := cell_below q3 hb1
    have HB := Lib.hid (hB.on hb1)
    obtain ⟨hb, p0, p1, p2, p3, p4, p5⟩ := hB.on hb1
    clear hb1 hB
    cases b with
    | true =>
      go_wp2_with fail
      refine (HFi.out _).mono ?_
      rintro e w9 ⟨rfl, hb9⟩
      go_wp2_with fail
      go_ret
      exact ⟨rfl, hb.trans (hb9.mono hb.size)⟩
    | false =>
      go_wp2_with fail
      refine (HRV.out _ hb).mono ?_
      rintro e w2 ⟨rfl, hb2⟩
      have q0 := cell_below q0 hb2
      have q1 := cell_below q1 hb2
      have q2 := cell_below q2 hb2
      have q3 := cell_below q3 hb2
      have HX0 := Lib.hid (HB.out.on hb2)
      obtain ⟨hb, p0, p1, p2, p3, p4, p5⟩ := HB.out.on hb2
      clear hb2 HB
      go_wp2_with fail
      refine (HFi.out _).mono ?_
      rintro e w9 ⟨rfl, hb9⟩
      go_wp2_with fail
      go_ret
      exact ⟨rfl, hb.trans (hb9.mono hb.size)⟩
end Go.Proofs.Ytmdifgkalooaoaa
