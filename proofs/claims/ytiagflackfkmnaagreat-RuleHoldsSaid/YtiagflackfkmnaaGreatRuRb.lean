/-
  The reference's Speaks, Distance, ahead. By an AI agent.
-/
import Derived.Test.YtiagflackfkmnaaGreatRuRa
import Derived.Test.YtiagflackfkmnaaGreatRuL
import Derived.Deep.RegionHeld3
import Derived.BigQuiet
import Derived.BigRegion
namespace Go.Proofs.YtiagflackfkmnaaGreat
set_option linter.unusedVariables false
set_option linter.unusedSimpArgs false
open Go.RowKit

theorem spk_no1 {s : Sgn} {h : Int} (h1 : h < s.up) : spkB s h = false := by unfold spkB; rw [decide_eq_false (by omega : ¬ s.up ≤ h)]; rfl
theorem spk_no2 {s : Sgn} {h : Int} (h1 : s.dn ≤ h) : spkB s h = false := by unfold spkB; rw [decide_eq_false (by omega : ¬ h < s.dn)]; simp
theorem spk_no3 {s : Sgn} {h : Int} {j : Nat} (hj : j < s.cv.length) (h1 : covH (gp s.cv j) h = true) : spkB s h = false := by unfold spkB; rw [anyK_true (j := j) h1 _ hj]; simp
theorem spk_yes {s : Sgn} {h : Int} (h1 : s.up ≤ h) (h2 : h < s.dn) (h3 : ∀ j, j < s.cv.length → covH (gp s.cv j) h = false) : spkB s h = true := by unfold spkB; rw [decide_eq_true h1, decide_eq_true h2, (anyK_iff _).2 h3]; rfl
set_option maxRecDepth 100000 in
set_option maxHeartbeats 2000000 in
theorem refSpeaks_r (s : Sgn) (ad : Option Addr) (cp : Nat) (h : Int) (w : World) (hP : PairsS w ad s.cv) :
    Calls Tryz.prog 14 #[.agg #[.int .i64 s.n, .int .i64 s.k, .int .i64 s.v, .int .i64 s.c, .int .i64 s.d, .int .i64 s.rk, .int .i64 s.up, .int .i64 s.dn, .slice ad s.cv.length cp], .int .i64 h] w fun e w' => e = .returned (.bool (spkB s h)) ∧ Below w.heap.size w w' := by
  obtain ⟨hlen, -, pb, po, hpa, hpc⟩ := hP
  have HPA : Hid (0 < s.cv.length → ad = some ⟨pb, po, none⟩) := Lib.hid fun h => hpa (List.ne_nil_of_length_pos h)
  have HPC := Lib.hid hpc
  have HN3 := Lib.hid (fun j hj h1 => spk_no3 (s := s) (h := h) (j := j) hj h1)
  clear hpa hpc
  by_cases h1 : h < s.up
  · have hr := Lib.hid (spk_no1 h1)
    clear HN3 HPA HPC
    go_enter Tryz.func14, Tryz.ntmps14
    go_wp2_with fail
    go_ret
    exact ⟨by rw [hr.out] <;> rfl, (Below.refl _ _).alloc (Nat.le_refl _) _⟩
  · by_cases h2 : s.dn ≤ h
    · have hr := Lib.hid (spk_no2 h2)
      clear HN3 HPA HPC
      go_enter Tryz.func14, Tryz.ntmps14
      go_wp2_with fail
      go_ret
      exact ⟨by rw [hr.out] <;> rfl, (Below.refl _ _).alloc (Nat.le_refl _) _⟩
    · have HY := Lib.hid (fun h3 => spk_yes (s := s) (h := h) (by omega) (by omega) h3)
      go_enter Tryz.func14, Tryz.ntmps14
      go_wp2_with fail
      obtain ⟨wB, hwB⟩ : ∃ wB, w.alloc (.cells #[.int .i64 s.n, .int .i64 s.k, .int .i64 s.v, .int .i64 s.c, .int .i64 s.d, .int .i64 s.rk, .int .i64 s.up, .int .i64 s.dn, .slice ad s.cv.length cp] 34) = wB := ⟨_, rfl⟩
      have hb : Below w.heap.size w wB := by rw [← hwB]; exact (Below.refl _ _).alloc (Nat.le_refl _) _
      have x8 : wB.cell? ⟨w.heap.size, 8, none⟩ = some (.slice ad s.cv.length cp) := by rw [← hwB]; simp [go_sem]
      rw [hwB]
      clear hwB
      go_loopw [5] (fun i wr => ∃ j : Nat, j ≤ s.cv.length ∧ i = .int .i64 j ∧ Hid (∀ i, i < j → covH (gp s.cv i) h = false) ∧ Below wB.heap.size wB wr) (fun i _ => s.cv.length - (intOf i).toNat)
      case atStart => exact ⟨0, Nat.zero_le _, rfl, Lib.hid fun j hj => absurd hj (Nat.not_lt_zero _), Below.refl _ _⟩
      case round =>
        obtain ⟨j, hj, rfl, HJ, hbr⟩ := hrel
        have x8 := cell_below x8 hbr
        by_cases hjl : j < s.cv.length
        · obtain rfl := HPA.out (by omega)
          have hbo := hb.trans (hbr.mono hb.size)
          obtain ⟨q0, q1⟩ := HPC.out j hjl
          have q0 := cell_below q0 hbo
          have q1 := cell_below q1 hbo
          have hji : (j : Int) < (s.cv.length : Int) := by omega
          have hmeas : s.cv.length - (j + 1) < s.cv.length - j := by omega
          have HJ2 : Hid (covH (gp s.cv j) h = false → ∀ i, i < j + 1 → covH (gp s.cv i) h = false) := Lib.hid fun h i hi => by
            by_cases e : i = j
            · subst e; exact h
            · exact HJ.out i (by omega)
          have HN := Lib.hid (HN3.out j hjl)
          have HCo : Hid (covH (gp s.cv j) h = (decide ((gp s.cv j).1 ≤ h) && decide (h < (gp s.cv j).2))) := Lib.hid rfl
          clear HJ HPC HPA HN3 HY
          generalize covH (gp s.cv j) h = C at *
          generalize (gp s.cv j).1 = y0 at *
          generalize (gp s.cv j).2 = y1 at *
          by_cases g1 : y0 ≤ h
          · by_cases g2 : h < y1
            · have hr := Lib.hid (HN.out (by rw [HCo.out, decide_eq_true g1, decide_eq_true g2]; rfl))
              clear HJ2 HN HCo
              go_wp2_with fail
              go_ret
              exact ⟨by rw [hr.out] <;> rfl, hbo⟩
            · have HJ3 := Lib.hid (HJ2.out (by rw [HCo.out, decide_eq_false g2, Bool.and_false]))
              clear HJ2 HN HCo
              go_wp2_with fail
              go_roundw
              case rel => exact ⟨j + 1, by omega, by go_num, HJ3, hbr⟩
              case measure => first | (simp [intOf]; exact hmeas) | simpa [intOf] using hmeas
          · have HJ3 := Lib.hid (HJ2.out (by rw [HCo.out, decide_eq_false g1, Bool.false_and]))
            clear HJ2 HN HCo
            go_wp2_with fail
            go_roundw
            case rel => exact ⟨j + 1, by omega, by go_num, HJ3, hbr⟩
            case measure => first | (simp [intOf]; exact hmeas) | simpa [intOf] using hmeas
        · obtain rfl : j = s.cv.length := by omega
          have hr := Lib.hid (HY.out HJ.out)
          clear HY HJ HPA HPC HN3
          go_wp2_with fail
          go_ret
          exact ⟨by rw [hr.out] <;> rfl, hb.trans (hbr.mono hb.size)⟩
set_option maxRecDepth 100000 in
set_option maxHeartbeats 2000000 in
theorem refDistance_r (L : Int) (a : Option Addr) (n ca : Nat) (dir c : Int) (hL1 : 0 ≤ L) (hL2 : L ≤ 100000) (hc1 : -1000000 ≤ c) (hc2 : c ≤ 1000000) (w : World) :
    Calls Tryz.prog 91 #[.agg #[.int .i64 L, .slice a n ca], .int .i64 dir, .int .i64 c] w fun e w' => e = .returned (.int .i64 (dstK L dir c)) ∧ Below w.heap.size w w' := by
  by_cases h : dir = 1
  · subst h
    have hr : Hid (dstK L 1 c = c) := Lib.hid rfl
    go_enter Tryz.func91, Tryz.ntmps91
    go_wp2_with fail
    go_ret
    exact ⟨by rw [hr.out] <;> rfl, (Below.refl _ _).alloc (Nat.le_refl _) _⟩
  · have hr : Hid (dstK L dir c = L - c) := Lib.hid (by unfold dstK; rw [if_neg h])
    have hw : IntKind.i64.wrap (L - c) = L - c := IntWalk.i64_in _ (by omega)
    go_enter Tryz.func91, Tryz.ntmps91
    go_wp2_with fail
    go_ret
    exact ⟨by rw [hr.out] <;> rfl, (Below.refl _ _).alloc (Nat.le_refl _) _⟩
set_option maxRecDepth 100000 in
set_option maxHeartbeats 2000000 in
theorem refAhead_r (L : Int) (a : Option Addr) (n ca : Nat) (dir : Int) (s t : Sgn) (ad bd : Option Addr) (cp bp : Nat) (hL1 : 0 ≤ L) (hL2 : L ≤ 100000) (hs : s.d = dir) (ht : t.d = dir) (hc1 : 0 ≤ s.c ∧ s.c ≤ 100000) (hc2 : 0 ≤ t.c ∧ t.c ≤ 100000) (w : World) :
    Calls Tryz.prog 50 #[.agg #[.int .i64 L, .slice a n ca], .agg #[.int .i64 s.n, .int .i64 s.k, .int .i64 s.v, .int .i64 s.c, .int .i64 s.d, .int .i64 s.rk, .int .i64 s.up, .int .i64 s.dn, .slice ad s.cv.length cp], .agg #[.int .i64 t.n, .int .i64 t.k, .int .i64 t.v, .int .i64 t.c, .int .i64 t.d, .int .i64 t.rk, .int .i64 t.up, .int .i64 t.dn, .slice bd t.cv.length bp]] w fun e w' => e = .returned (.bool (decide (ahS L dir s t))) ∧ Below w.heap.size w w' := by
  have D1 := Lib.hid (fun W => refDistance_r L a n ca s.d s.c hL1 hL2 (by omega) (by omega) W)
  have D2 := Lib.hid (fun W => refDistance_r L a n ca t.d t.c hL1 hL2 (by omega) (by omega) W)
  have HAh : Hid (decide (ahS L dir s t) = decide (dstK L s.d s.c < dstK L t.d t.c ∨ (dstK L s.d s.c = dstK L t.d t.c ∧ (s.rk < t.rk ∨ (s.rk = t.rk ∧ s.n < t.n))))) := Lib.hid (by rw [hs, ht]; rfl)
  clear hs ht hc1 hc2
  obtain ⟨x, hx⟩ : ∃ x, dstK L s.d s.c = x := ⟨_, rfl⟩
  obtain ⟨y, hy⟩ : ∃ y, dstK L t.d t.c = y := ⟨_, rfl⟩
  rw [hx] at D1 HAh
  rw [hy] at D2 HAh
  clear hx hy
  go_enter Tryz.func50, Tryz.ntmps50
  go_wp2_with fail
  obtain ⟨wX, hwX⟩ : ∃ wX, ((w.alloc (.cells #[.int .i64 L, .slice a n ca] 24)).alloc (.cells #[.int .i64 s.n, .int .i64 s.k, .int .i64 s.v, .int .i64 s.c, .int .i64 s.d, .int .i64 s.rk, .int .i64 s.up, .int .i64 s.dn, .slice ad s.cv.length cp] 34)).alloc (.cells #[.int .i64 t.n, .int .i64 t.k, .int .i64 t.v, .int .i64 t.c, .int .i64 t.d, .int .i64 t.rk, .int .i64 t.up, .int .i64 t.dn, .slice bd t.cv.length bp] 34) = wX := ⟨_, rfl⟩
  have hb : Below w.heap.size w wX := by rw [← hwX]; exact (((Below.refl _ _).alloc (Nat.le_refl _) _).alloc (by simp) _).alloc (by simp; omega) _
  have hz2 : w.heap.size + 1 + 1 < wX.heap.size := by rw [← hwX]; simp
  have hz1 : w.heap.size + 1 < wX.heap.size := by omega
  have hz0 : w.heap.size < wX.heap.size := by omega
  have p0 : wX.cell? ⟨w.heap.size, 0, none⟩ = some (.int .i64 L) := by rw [← hwX]; simp [go_sem]
  have Z0 := Lib.hid p0
  have p1 : wX.cell? ⟨w.heap.size, 1, none⟩ = some (.slice a n ca) := by rw [← hwX]; simp [go_sem]
  have Z1 := Lib.hid p1
  have p2 : wX.cell? ⟨w.heap.size + 1, 0, none⟩ = some (.int .i64 s.n) := by rw [← hwX]; simp [go_sem]
  have Z2 := Lib.hid p2
  have p5 : wX.cell? ⟨w.heap.size + 1, 3, none⟩ = some (.int .i64 s.c) := by rw [← hwX]; simp [go_sem]
  have Z5 := Lib.hid p5
  have p6 : wX.cell? ⟨w.heap.size + 1, 4, none⟩ = some (.int .i64 s.d) := by rw [← hwX]; simp [go_sem]
  have Z6 := Lib.hid p6
  have p7 : wX.cell? ⟨w.heap.size + 1, 5, none⟩ = some (.int .i64 s.rk) := by rw [← hwX]; simp [go_sem]
  have Z7 := Lib.hid p7
  have p11 : wX.cell? ⟨w.heap.size + 1 + 1, 0, none⟩ = some (.int .i64 t.n) := by rw [← hwX]; simp [go_sem]
  have Z11 := Lib.hid p11
  have p14 : wX.cell? ⟨w.heap.size + 1 + 1, 3, none⟩ = some (.int .i64 t.c) := by rw [← hwX]; simp [go_sem]
  have Z14 := Lib.hid p14
  have p15 : wX.cell? ⟨w.heap.size + 1 + 1, 4, none⟩ = some (.int .i64 t.d) := by rw [← hwX]; simp [go_sem]
  have Z15 := Lib.hid p15
  have p16 : wX.cell? ⟨w.heap.size + 1 + 1, 5, none⟩ = some (.int .i64 t.rk) := by rw [← hwX]; simp [go_sem]
  have Z16 := Lib.hid p16
  rw [hwX]
  clear hwX
  have hB : Below wX.heap.size wX wX := Below.refl _ _
  have HB0 := Lib.hid hb
  clear hb
  go_region_held3 (fun w' => w'.cell? ⟨w.heap.size, 0, none⟩ = some (.int .i64 L) ∧ w'.cell? ⟨w.heap.size, 1, none⟩ = some (.slice a n ca) ∧ w'.cell? ⟨w.heap.size + 1, 0, none⟩ = some (.int .i64 s.n) ∧ w'.cell? ⟨w.heap.size + 1, 3, none⟩ = some (.int .i64 s.c) ∧ w'.cell? ⟨w.heap.size + 1, 4, none⟩ = some (.int .i64 s.d) ∧ w'.cell? ⟨w.heap.size + 1, 5, none⟩ = some (.int .i64 s.rk) ∧ w'.cell? ⟨w.heap.size + 1 + 1, 0, none⟩ = some (.int .i64 t.n) ∧ w'.cell? ⟨w.heap.size + 1 + 1, 3, none⟩ = some (.int .i64 t.c) ∧ w'.cell? ⟨w.heap.size + 1 + 1, 4, none⟩ = some (.int .i64 t.d) ∧ w'.cell? ⟨w.heap.size + 1 + 1, 5, none⟩ = some (.int .i64 t.rk)) (go_keep)
    (first
      | (go_at_call 91
         with_reducible refine Calls.mono (D1.out _) ?_
         rintro e w9 ⟨rfl, hb9⟩
         replace hB : Below wX.heap.size wX w9 := (show Below wX.heap.size wX _ by first | exact hB.drew | exact hB).trans (hb9.mono hB.size)
         have p0 := (hB.cell (p := ⟨w.heap.size, 0, none⟩) hz0).trans Z0.out
         have p1 := (hB.cell (p := ⟨w.heap.size, 1, none⟩) hz0).trans Z1.out
         have p2 := (hB.cell (p := ⟨w.heap.size + 1, 0, none⟩) hz1).trans Z2.out
         have p5 := (hB.cell (p := ⟨w.heap.size + 1, 3, none⟩) hz1).trans Z5.out
         have p6 := (hB.cell (p := ⟨w.heap.size + 1, 4, none⟩) hz1).trans Z6.out
         have p7 := (hB.cell (p := ⟨w.heap.size + 1, 5, none⟩) hz1).trans Z7.out
         have p11 := (hB.cell (p := ⟨w.heap.size + 1 + 1, 0, none⟩) hz2).trans Z11.out
         have p14 := (hB.cell (p := ⟨w.heap.size + 1 + 1, 3, none⟩) hz2).trans Z14.out
         have p15 := (hB.cell (p := ⟨w.heap.size + 1 + 1, 4, none⟩) hz2).trans Z15.out
         have p16 := (hB.cell (p := ⟨w.heap.size + 1 + 1, 5, none⟩) hz2).trans Z16.out)
      | (go_at_call 91
         with_reducible refine Calls.mono (D2.out _) ?_
         rintro e w9 ⟨rfl, hb9⟩
         replace hB : Below wX.heap.size wX w9 := (show Below wX.heap.size wX _ by first | exact hB.drew | exact hB).trans (hb9.mono hB.size)
         have p0 := (hB.cell (p := ⟨w.heap.size, 0, none⟩) hz0).trans Z0.out
         have p1 := (hB.cell (p := ⟨w.heap.size, 1, none⟩) hz0).trans Z1.out
         have p2 := (hB.cell (p := ⟨w.heap.size + 1, 0, none⟩) hz1).trans Z2.out
         have p5 := (hB.cell (p := ⟨w.heap.size + 1, 3, none⟩) hz1).trans Z5.out
         have p6 := (hB.cell (p := ⟨w.heap.size + 1, 4, none⟩) hz1).trans Z6.out
         have p7 := (hB.cell (p := ⟨w.heap.size + 1, 5, none⟩) hz1).trans Z7.out
         have p11 := (hB.cell (p := ⟨w.heap.size + 1 + 1, 0, none⟩) hz2).trans Z11.out
         have p14 := (hB.cell (p := ⟨w.heap.size + 1 + 1, 3, none⟩) hz2).trans Z14.out
         have p15 := (hB.cell (p := ⟨w.heap.size + 1 + 1, 4, none⟩) hz2).trans Z15.out
         have p16 := (hB.cell (p := ⟨w.heap.size + 1 + 1, 5, none⟩) hz2).trans Z16.out))

  all_goals
    have hbz := HB0.out.trans (hB.mono HB0.out.size)
    clear D1 D2
    by_cases g1 : x = y
    · by_cases g2 : s.rk = t.rk
      · have hr : Hid (decide (x < y ∨ (x = y ∧ (s.rk < t.rk ∨ (s.rk = t.rk ∧ s.n < t.n)))) = decide (s.n < t.n)) := Lib.hid (by
          by_cases h : s.n < t.n
          · rw [decide_eq_true h]; exact decide_eq_true (by omega)
          · rw [decide_eq_false h]; exact decide_eq_false (by omega))
        have d1 : (x != y) = false := by simp [g1]
        have d2 : (s.rk != t.rk) = false := by simp [g2]
        clear g1 g2
        go_wp2_with fail
        go_ret
        exact ⟨by rw [HAh.out, hr.out] <;> rfl, hbz⟩
      · have hr : Hid (decide (x < y ∨ (x = y ∧ (s.rk < t.rk ∨ (s.rk = t.rk ∧ s.n < t.n)))) = decide (s.rk < t.rk)) := Lib.hid (by
          by_cases h : s.rk < t.rk
          · rw [decide_eq_true h]; exact decide_eq_true (by omega)
          · rw [decide_eq_false h]; exact decide_eq_false (by omega))
        have d1 : (x != y) = false := by simp [g1]
        have d2 : (s.rk != t.rk) = true := by simp [g2]
        clear g1 g2
        go_wp2_with fail
        go_ret
        exact ⟨by rw [HAh.out, hr.out] <;> rfl, hbz⟩
    · have hr : Hid (decide (x < y ∨ (x = y ∧ (s.rk < t.rk ∨ (s.rk = t.rk ∧ s.n < t.n)))) = decide (x < y)) := Lib.hid (by
        by_cases h : x < y
        · rw [decide_eq_true h]; exact decide_eq_true (by omega)
        · rw [decide_eq_false h]; exact decide_eq_false (by omega))
      have d1 : (x != y) = true := by simp [g1]
      clear g1
      go_wp2_with fail
      go_ret
      exact ⟨by rw [HAh.out, hr.out] <;> rfl, hbz⟩
end Go.Proofs.YtiagflackfkmnaaGreat
