/-
  A part of the walk of the law LightDays. By an AI agent.
-/
import Derived.Test.YtanmelbkhojfoaaLightDy
import Derived.StillTailTactics
namespace Go.Proofs.Ytanmelbkhojfoaa
set_option linter.unusedVariables false
set_option linter.unusedSimpArgs false
open Go.RowKit

set_option maxRecDepth 100000 in
set_option maxHeartbeats 8000000 in
theorem days_none1 (z0 z1 z2 z3 day least d R kp more ahead : Int) (s m blk off cap : Nat) (w : World) (hs : s ≤ 3) (hm : m ≤ 49) (b0 : 0 ≤ least) (b1 : least ≤ 100000) (d0 : 0 ≤ d) (d1 : d ≤ 100000) (k0 : 0 ≤ kp) (k1 : kp ≤ 1000) (m0 : 0 ≤ more) (m1 : more ≤ 65535) (a0 : 0 ≤ ahead) (a1 : ahead ≤ 65535)
    (hk : kp = keepOf z0 z1 z2 z3 s) (c0 : w.cell? ⟨blk, off + m * 2, none⟩ = some (.int .i64 d)) (c1 : w.cell? ⟨blk, off + m * 2 + 1, none⟩ = some (.int .i64 R))
    (HM : Hid (∀ W, Below w.heap.size w W → Calls Try.prog 53 #[.agg #[.int .i64 z0, .int .i64 z1, .int .i64 z2, .int .i64 z3], .int .i64 s, .slice (some ⟨blk, off, none⟩) (m + 1) cap] W fun e w' => e = .returned (.bool true) ∧ Below W.heap.size W w'))
    (HV : Hid (∀ D q, d ≤ D → D ≤ 100000 → (D - d) / 365 = ((q : Nat) : Int) → ∀ W, Below w.heap.size w W → Calls Try.prog 41 #[.agg #[.int .i64 z0, .int .i64 z1, .int .i64 z2, .int .i64 z3], .int .i64 s, .slice (some ⟨blk, off, none⟩) (m + 1) cap, .int .i64 D] W fun e w' => e = .returned (.tuple #[.int .i64 (agV R kp q), .int .i64 0]) ∧ Below W.heap.size W w'))
    (hup : ∀ j : Nat, (j : Int) * 365 ≤ 100000 - d → least ≤ agV R kp j) (hanti : ∀ i j, i ≤ j → agV R kp j ≤ agV R kp i) (hagb : ∀ i, 0 ≤ agV R kp i ∧ agV R kp i ≤ 100000)
    (HD : Hid (∀ W, Below w.heap.size w W → Calls Try.prog 43 #[.agg #[.int .i64 z0, .int .i64 z1, .int .i64 z2, .int .i64 z3], .int .i64 s, .slice (some ⟨blk, off, none⟩) (m + 1) cap, .int .i64 least] W fun e w' => e = .returned (.tuple #[.int .i64 0, .bool false, .int .i64 0]) ∧ Below W.heap.size W w')) (hmx : ∀ e2, e2 = 100000 - ahead % 800 → e2 ≤ d)
    (H2 : Hid (∃ D2 O2, (O2 = true → False) ∧ ∀ W, Below w.heap.size w W → ∀ x0 x1 x2 x3, x0 = (if s = 0 then min 1000 (kp + more % 200) else z0) → x1 = (if s = 1 then min 1000 (kp + more % 200) else z1) → x2 = (if s = 2 then min 1000 (kp + more % 200) else z2) → x3 = (if s = 3 then min 1000 (kp + more % 200) else z3) → Calls Try.prog 43 #[.agg #[.int .i64 x0, .int .i64 x1, .int .i64 x2, .int .i64 x3], .int .i64 s, .slice (some ⟨blk, off, none⟩) (m + 1) cap, .int .i64 least] W fun e w' => e = .returned (.tuple #[.int .i64 D2, .bool O2, .int .i64 0]) ∧ Below W.heap.size W w')) :
    Calls Try.prog 16 #[.agg #[.int .i64 z0, .int .i64 z1, .int .i64 z2, .int .i64 z3, .int .i64 s, .slice (some ⟨blk, off, none⟩) (m + 1) cap, .int .i64 day, .int .i64 least], .int .u16 more, .int .u16 ahead] w fun e w' => e = .returned (.bool true) ∧ Below w.heap.size w w' := by
  have H1 : Hid (∀ W, Below w.heap.size w W → Calls Try.prog 20 #[] W fun e w' => e = .returned (.bool true) ∧ Below W.heap.size W w') := Lib.hid fun W _ => first_any W
  have hbk := block_lt c0
  have HKC := Lib.hid (keep_cell (z0 := z0) (z1 := z1) (z2 := z2) (z3 := z3) hs)
  rw [← hk] at HKC
  clear hk
  obtain ⟨D2, O2, hO2, hH2⟩ := H2.out
  have HH2 := Lib.hid hH2
  have HO2 := Lib.hid hO2
  clear H2 hH2 hO2
  obtain ⟨m2, hm2⟩ : ∃ x, more % 200 = x := ⟨_, rfl⟩
  obtain ⟨a8, ha8⟩ : ∃ x, ahead % 800 = x := ⟨_, rfl⟩
  rw [hm2] at HH2
  have m20 : 0 ≤ m2 := by omega
  have m21 : m2 < 200 := by omega
  have a80 : 0 ≤ a8 := by omega
  have a81 : a8 < 800 := by omega
  obtain ⟨e2, he2⟩ : ∃ x, 100000 - a8 = x := ⟨_, rfl⟩
  obtain ⟨qe, hqe⟩ : ∃ q : Nat, (100000 - d) / 365 = (q : Int) := ⟨((100000 - d) / 365).toNat, by omega⟩
  obtain ⟨ve, hve⟩ : ∃ x, agV R kp qe = x := ⟨_, rfl⟩
  have hle : least ≤ ve := by rw [← hve]; exact hup qe (by omega)
  have HV3 : Hid (∀ W, Below w.heap.size w W → Calls Try.prog 41 #[.agg #[.int .i64 z0, .int .i64 z1, .int .i64 z2, .int .i64 z3], .int .i64 s, .slice (some ⟨blk, off, none⟩) (m + 1) cap, .int .i64 100000] W fun e w' => e = .returned (.tuple #[.int .i64 ve, .int .i64 0]) ∧ Below W.heap.size W w') := Lib.hid fun W hW => by
    have := HV.out 100000 qe (by omega) (by omega) (by omega) W hW
    rwa [hve] at this
  obtain ⟨dd, hdd⟩ : ∃ dd, e2 ≤ d ∧ dd = d := ⟨_, hmx e2 (by omega), rfl⟩
  clear hmx
  have dd0 : d ≤ dd := by omega
  have dd1 : dd ≤ 100000 := by omega
  obtain ⟨qd, hqd⟩ : ∃ q : Nat, (dd - d) / 365 = (q : Int) := ⟨((dd - d) / 365).toNat, by omega⟩
  obtain ⟨vd, hvd⟩ : ∃ x, agV R kp qd = x := ⟨_, rfl⟩
  have hge : ve ≤ vd := by rw [← hve, ← hvd]; exact hanti qd qe (by omega)
  have HV2 : Hid (∀ W, Below w.heap.size w W → Calls Try.prog 41 #[.agg #[.int .i64 z0, .int .i64 z1, .int .i64 z2, .int .i64 z3], .int .i64 s, .slice (some ⟨blk, off, none⟩) (m + 1) cap, .int .i64 dd] W fun e w' => e = .returned (.tuple #[.int .i64 vd, .int .i64 0]) ∧ Below W.heap.size W w') := Lib.hid fun W hW => by
    have := HV.out dd qd (by omega) (by omega) (by omega) W hW
    rwa [hvd] at this
  have hqve := hagb qe
  have hqvd := hagb qd
  rw [hve] at hqve
  rw [hvd] at hqvd
  obtain ⟨x2, x3⟩ := hqve
  obtain ⟨x4, x5⟩ := hqvd
  clear hve hvd hqe hqd hup hanti hagb HV
  obtain ⟨hdd, rfl⟩ := hdd
  go_enter Try.func16, Try.ntmps16
  go_wp2_with fail
  refine (HM.out _ (box_below (Below.refl _ _))).mono ?_
  rintro E w1 ⟨rfl, hb1⟩
  obtain ⟨hc1, hf1⟩ := bcell hb1
  have q0 := cell_below c0 (box_below hb1)
  have q1 := cell_below c1 (box_below hb1)
  go_wp2_with fail
  refine (HD.out _ (box_below hb1)).mono ?_
  rintro E w2 ⟨rfl, hb2⟩
  have hb2 := hb1.trans (hb2.mono hb1.size)
  clear hc1 hf1
  obtain ⟨hc2, hf2⟩ := bcell hb2
  clear q0 q1
  go_wp2_with fail
  refine (HV2.out _ (box_below hb2)).mono ?_
  rintro E w3 ⟨rfl, hb3⟩
  have hb3 := hb2.trans (hb3.mono hb2.size)
  clear hc2 hf2
  obtain ⟨hc3, hf3⟩ := bcell hb3
  go_wp2_with fail
  refine (HV3.out _ (box_below hb3)).mono ?_
  rintro E w4 ⟨rfl, hb4⟩
  have hb4 := hb3.trans (hb4.mono hb3.size)
  clear hc3 hf3
  obtain ⟨hc4, hf4⟩ := bcell hb4
  go_wp2_with fail
  obtain ⟨wA, hwA⟩ : ∃ wA, w4.alloc (.cells #[.int .i64 z0, .int .i64 z1, .int .i64 z2, .int .i64 z3] 59) = wA := ⟨_, rfl⟩
  have hcA : Below w.heap.size w wA := by rw [← hwA]; exact (box_below hb4).alloc (box_below hb4).size _
  have hBz : w.heap.size < w4.heap.size := by have := hb4.size; simp at this; omega
  have A4 : wA.cell? ⟨w.heap.size, 4, none⟩ = some (.int .i64 s) := by rw [← hwA, ((Below.refl w4.heap.size w4).alloc (Nat.le_refl _) _).cell (p := ⟨w.heap.size, 4, none⟩) hBz]; exact (hb4.cell (p := ⟨w.heap.size, 4, none⟩) (by simp)).trans (by simp [go_sem])
  have A5 : wA.cell? ⟨w.heap.size, 5, none⟩ = some (.slice (some ⟨blk, off, none⟩) (m + 1) cap) := by rw [← hwA, ((Below.refl w4.heap.size w4).alloc (Nat.le_refl _) _).cell (p := ⟨w.heap.size, 5, none⟩) hBz]; exact (hb4.cell (p := ⟨w.heap.size, 5, none⟩) (by simp)).trans (by simp [go_sem])
  have A7 : wA.cell? ⟨w.heap.size, 7, none⟩ = some (.int .i64 least) := by rw [← hwA, ((Below.refl w4.heap.size w4).alloc (Nat.le_refl _) _).cell (p := ⟨w.heap.size, 7, none⟩) hBz]; exact (hb4.cell (p := ⟨w.heap.size, 7, none⟩) (by simp)).trans (by simp [go_sem])
  have AK : wA.cell? ⟨w4.heap.size, s, none⟩ = some (.int .i64 kp) := by rw [← hwA]; exact HKC.out w4 _
  have Z0 : wA.cell? ⟨w4.heap.size, 0, none⟩ = some (.int .i64 z0) := by rw [← hwA]; simp [go_sem]
  have Z1 : wA.cell? ⟨w4.heap.size, 1, none⟩ = some (.int .i64 z1) := by rw [← hwA]; simp [go_sem]
  have Z2 : wA.cell? ⟨w4.heap.size, 2, none⟩ = some (.int .i64 z2) := by rw [← hwA]; simp [go_sem]
  have Z3 : wA.cell? ⟨w4.heap.size, 3, none⟩ = some (.int .i64 z3) := by rw [← hwA]; simp [go_sem]
  have AF : ∀ j, wA.frozen? ⟨w4.heap.size, j, none⟩ = false := fun j => by rw [← hwA]; simp [go_sem]
  have AF0 := AF s
  have hBA : w4.heap.size < wA.heap.size := by rw [← hwA]; simp
  rw [hwA]
  clear hwA AF hc4 hf4 HM hb4
  generalize w4.heap.size = B at *
  have hne : w.heap.size ≠ B := by omega
  have hne2 : B ≠ w.heap.size := by omega
  obtain ⟨kq, hkq⟩ : ∃ x, min 1000 (kp + m2) = x := ⟨_, rfl⟩
  rw [hkq] at HH2
  have hkc : (1000 ≤ kp + m2 ∧ kq = 1000) ∨ (kp + m2 < 1000 ∧ kq = kp + m2) := by omega
  have wk1 : IntKind.i64.wrap (kp + m2) = kp + m2 := IntWalk.i64_in _ (by omega)
  have wmo : IntKind.i64.wrap more = more := IntWalk.i64_in _ (by omega)
  have tmo : more.tmod 200 = m2 := by rw [Int.tmod_eq_emod_of_nonneg m0]; exact hm2
  have sg0 : (0 : Int) ≤ (s : Int) := by omega
  have sg1 : (s : Int) < 4 := by omega
  clear hkq
  rcases hkc with ⟨hk1, rfl⟩ | ⟨hk1, rfl⟩
  all_goals
    go_still_tail 14, (by kernel_rfl)
    change wpList _ _ _ _ _ wA.drew
    clear wk1 wmo tmo
    have A4' : wA.drew.cell? ⟨w.heap.size, 4, none⟩ = some (.int .i64 s) := A4
    have A5' : wA.drew.cell? ⟨w.heap.size, 5, none⟩ = some (.slice (some ⟨blk, off, none⟩) (m + 1) cap) := A5
    have A7' : wA.drew.cell? ⟨w.heap.size, 7, none⟩ = some (.int .i64 least) := A7
    have AK' : wA.drew.cell? ⟨B, s, none⟩ = some (.int .i64 kp) := AK
    have Z0' : wA.drew.cell? ⟨B, 0, none⟩ = some (.int .i64 z0) := Z0
    have Z1' : wA.drew.cell? ⟨B, 1, none⟩ = some (.int .i64 z1) := Z1
    have Z2' : wA.drew.cell? ⟨B, 2, none⟩ = some (.int .i64 z2) := Z2
    have Z3' : wA.drew.cell? ⟨B, 3, none⟩ = some (.int .i64 z3) := Z3
    have AF' : wA.drew.frozen? ⟨B, s, none⟩ = false := AF0
    have hcB : Below w.heap.size w wA.drew := hcA.drew
    generalize wA.drew = w2 at A4' A5' A7' AK' Z0' Z1' Z2' Z3' AF' hcB ⊢
    clear A4 A5 A7 AK Z0 Z1 Z2 Z3 AF0 hcA hBA HKC
    obtain rfl | rfl | rfl | rfl : s = 0 ∨ s = 1 ∨ s = 2 ∨ s = 3 := by omega
    all_goals
      go_wp2_with fail
      try (any_goals (exfalso; omega))
      refine (HH2.out _ (hcB.setCell (by show w.heap.size ≤ B; omega) _) _ _ _ _ (by simp) (by simp) (by simp) (by simp)).mono ?_
      rintro E w9 ⟨rfl, hb9⟩
      have hb10 : Below w.heap.size w w9 := Below.trans (hcB.setCell (by show w.heap.size ≤ B; omega) _) (hb9.mono (by simpa using hcB.size))
      clear hcB hb9 A4' A5' A7' AK' Z0' Z1' Z2' Z3' AF' HH2
      cases O2 with
      | false =>
        go_wp2_with fail
        refine (H1.out _ hb10).mono ?_
        rintro E w10 ⟨rfl, hb11⟩
        go_wp2_with fail
        go_ret
        exact ⟨rfl, hb10.trans (hb11.mono hb10.size)⟩
      | true => exact absurd (HO2.out rfl) id
end Go.Proofs.Ytanmelbkhojfoaa
