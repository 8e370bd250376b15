/-
  The reference's idle, codes and Faults. By an AI agent.; The reference's codes. By an AI agent.
-/
import Derived.Test.YtiagflackfkmnaaGreatMgRuleFaults9
import Derived.Test.YtiagflackfkmnaaGreatMgRuleFaults13
import Derived.Deep.RegionHeld3
import Derived.Deep.RegionLawGrows
import Derived.Deep.AppendLies
import Derived.Deep.DeepCutAuto
import Derived.BigQuiet
import Derived.BigRegion

namespace Go.Proofs.YtiagflackfkmnaaGreat
set_option linter.unusedVariables false
set_option linter.unusedSimpArgs false
open Go.RowKit

set_option maxRecDepth 100000 in
set_option maxHeartbeats 4000000 in
theorem refIdle_r (L : Int) (a : Option Addr) (js : List Int) (ca : Nat) (aa : Option Addr) (R : List Sgn) (cl : Nat) (dir : Int) (s : Sgn) (ad : Option Addr) (cp : Nat) (hL1 : 0 ≤ L) (hL2 : L ≤ 100000) (hJ : ∀ j, j < js.length → 0 ≤ gi js j ∧ gi js j ≤ 100000) (hC : ∀ j, j < R.length → (0 ≤ (gs R j).c ∧ (gs R j).c ≤ 100000) ∧ 0 ≤ (gs R j).v ∧ (gs R j).v ≤ 100000) (hV : ∀ i, i < R.length → (gs R i).k = 1 → 0 < (gs R i).v) (hSo : ∀ i j, i < j → j < R.length → dstK L dir (gs R i).c ≤ dstK L dir (gs R j).c) (hn : R.length ≤ 1000) (hsd : s.d = dir) (hsc : 0 ≤ s.c ∧ s.c ≤ 100000) (w : World) (hI : IntsS w a js) (hA : SgnS w aa R) :
    Calls Tryz.prog 104 #[.agg #[.int .i64 L, .slice a js.length ca], .slice aa R.length cl, .agg #[.int .i64 s.n, .int .i64 s.k, .int .i64 s.v, .int .i64 s.c, .int .i64 s.d, .int .i64 s.rk, .int .i64 s.up, .int .i64 s.dn, .slice ad s.cv.length cp]] w fun e w' => e = .returned (.bool (idlS L js dir R s)) ∧ Below w.heap.size w w' := by
  subst hsd
  have hdb := dst_bd (L := L) (dir := s.d) (c := s.c) hL1 hL2 hsc.1 hsc.2
  have HD := Lib.hid (fun W => refDistance_r L a js.length ca s.d s.c hL1 hL2 (by omega) (by omega) W)
  have HH := Lib.hid (fun t W (ht : t = 1 ∨ t = 2) (hW : Below w.heap.size w W) => refHolding_r L a js ca aa R cl s.d t (dstK L s.d s.c - 1) hL1 hL2 hJ hC hV hSo hn ht (by omega) (by omega) W (hI.below hW) (hA.below hW))
  have HE := Lib.hid (fun t W (ht : t = 1 ∨ t = 2) => refEnd_r s ad cp t ht W)
  have HI : Hid (idlS L js s.d R s = ((dstK L s.d s.c == 0) || !((endB s.k 1 && (hS L js s.d 1 (dstK L s.d s.c - 1) R 0 != 0)) || (endB s.k 2 && (hS L js s.d 2 (dstK L s.d s.c - 1) R 0 != 0))))) := Lib.hid rfl
  have HH1 := Lib.hid (fun W (hW : Below w.heap.size w W) => HH.out 1 W (.inl rfl) hW)
  have HH2 := Lib.hid (fun W (hW : Below w.heap.size w W) => HH.out 2 W (.inr rfl) hW)
  have HE1 := Lib.hid (fun W => HE.out 1 W (.inl rfl))
  have HE2 := Lib.hid (fun W => HE.out 2 W (.inr rfl))
  clear hI hA hJ hC hV hSo HH HE
  generalize hS L js s.d 1 (dstK L s.d s.c - 1) R 0 = V1 at *
  generalize hS L js s.d 2 (dstK L s.d s.c - 1) R 0 = V2 at *
  generalize endB s.k 1 = e1 at *
  generalize endB s.k 2 = e2 at *
  generalize dstK L s.d s.c = D at *
  generalize idlS L js s.d R s = IV at *
  by_cases h0 : D = 0
  · have d0 : (D == 0) = true := by rw [h0]; rfl
    have HR : Hid (IV = true) := Lib.hid (by rw [HI.out, d0]; rfl)
    clear h0 HI HH1 HH2 HE1 HE2
    go_enter Tryz.func104, Tryz.ntmps104
    go_upto_region 1 with (fail)
    obtain ⟨wB, hwB⟩ : ∃ wB, (w.alloc (.cells #[.int .i64 L, .slice a js.length ca] 24)).alloc (.cells #[.int .i64 s.n, .int .i64 s.k, .int .i64 s.v, .int .i64 s.c, .int .i64 s.d, .int .i64 s.rk, .int .i64 s.up, .int .i64 s.dn, .slice ad s.cv.length cp] 34) = wB := ⟨_, rfl⟩
    have hb : Below w.heap.size w wB := by rw [← hwB]; exact ((Below.refl _ _).alloc (Nat.le_refl _) _).alloc (by simp) _
    have l0 : wB.cell? ⟨w.heap.size, 0, none⟩ = some (.int .i64 L) := by rw [← hwB]; simp [go_sem]
    have l1 : wB.cell? ⟨w.heap.size, 1, none⟩ = some (.slice a js.length ca) := by rw [← hwB]; simp [go_sem]
    have s0 : wB.cell? ⟨w.heap.size + 1, 0, none⟩ = some (.int .i64 s.n) := by rw [← hwB]; simp [go_sem]
    have s1 : wB.cell? ⟨w.heap.size + 1, 1, none⟩ = some (.int .i64 s.k) := by rw [← hwB]; simp [go_sem]
    have s2 : wB.cell? ⟨w.heap.size + 1, 2, none⟩ = some (.int .i64 s.v) := by rw [← hwB]; simp [go_sem]
    have s3 : wB.cell? ⟨w.heap.size + 1, 3, none⟩ = some (.int .i64 s.c) := by rw [← hwB]; simp [go_sem]
    have s4 : wB.cell? ⟨w.heap.size + 1, 4, none⟩ = some (.int .i64 s.d) := by rw [← hwB]; simp [go_sem]
    have s5 : wB.cell? ⟨w.heap.size + 1, 5, none⟩ = some (.int .i64 s.rk) := by rw [← hwB]; simp [go_sem]
    have s6 : wB.cell? ⟨w.heap.size + 1, 6, none⟩ = some (.int .i64 s.up) := by rw [← hwB]; simp [go_sem]
    have s7 : wB.cell? ⟨w.heap.size + 1, 7, none⟩ = some (.int .i64 s.dn) := by rw [← hwB]; simp [go_sem]
    have s8 : wB.cell? ⟨w.heap.size + 1, 8, none⟩ = some (.slice ad s.cv.length cp) := by rw [← hwB]; simp [go_sem]
    rw [hwB]
    clear hwB
    go_wp2_with (go_at_call 91; refine (HD.out _).mono ?_; rintro e w2 ⟨rfl, hb2⟩; replace hb := hb.trans (hb2.mono hb.size); replace l0 := cell_below l0 hb2; replace l1 := cell_below l1 hb2; replace s0 := cell_below s0 hb2; replace s1 := cell_below s1 hb2; replace s2 := cell_below s2 hb2; replace s3 := cell_below s3 hb2; replace s4 := cell_below s4 hb2; replace s5 := cell_below s5 hb2; replace s6 := cell_below s6 hb2; replace s7 := cell_below s7 hb2; replace s8 := cell_below s8 hb2; clear hb2)
    go_ret
    exact ⟨by rw [HR.out]; rfl, hb⟩
  · have d0 : (D == 0) = false := beq_false_of_ne h0
    have HI2 : Hid (IV = !((e1 && (V1 != 0)) || (e2 && (V2 != 0)))) := Lib.hid (by rw [HI.out, d0]; rfl)
    clear h0 HI
    go_enter Tryz.func104, Tryz.ntmps104
    go_upto_region 1 with (fail)
    obtain ⟨wB, hwB⟩ : ∃ wB, (w.alloc (.cells #[.int .i64 L, .slice a js.length ca] 24)).alloc (.cells #[.int .i64 s.n, .int .i64 s.k, .int .i64 s.v, .int .i64 s.c, .int .i64 s.d, .int .i64 s.rk, .int .i64 s.up, .int .i64 s.dn, .slice ad s.cv.length cp] 34) = wB := ⟨_, rfl⟩
    have hb : Below w.heap.size w wB := by rw [← hwB]; exact ((Below.refl _ _).alloc (Nat.le_refl _) _).alloc (by simp) _
    have l0 : wB.cell? ⟨w.heap.size, 0, none⟩ = some (.int .i64 L) := by rw [← hwB]; simp [go_sem]
    have l1 : wB.cell? ⟨w.heap.size, 1, none⟩ = some (.slice a js.length ca) := by rw [← hwB]; simp [go_sem]
    have s0 : wB.cell? ⟨w.heap.size + 1, 0, none⟩ = some (.int .i64 s.n) := by rw [← hwB]; simp [go_sem]
    have s1 : wB.cell? ⟨w.heap.size + 1, 1, none⟩ = some (.int .i64 s.k) := by rw [← hwB]; simp [go_sem]
    have s2 : wB.cell? ⟨w.heap.size + 1, 2, none⟩ = some (.int .i64 s.v) := by rw [← hwB]; simp [go_sem]
    have s3 : wB.cell? ⟨w.heap.size + 1, 3, none⟩ = some (.int .i64 s.c) := by rw [← hwB]; simp [go_sem]
    have s4 : wB.cell? ⟨w.heap.size + 1, 4, none⟩ = some (.int .i64 s.d) := by rw [← hwB]; simp [go_sem]
    have s5 : wB.cell? ⟨w.heap.size + 1, 5, none⟩ = some (.int .i64 s.rk) := by rw [← hwB]; simp [go_sem]
    have s6 : wB.cell? ⟨w.heap.size + 1, 6, none⟩ = some (.int .i64 s.up) := by rw [← hwB]; simp [go_sem]
    have s7 : wB.cell? ⟨w.heap.size + 1, 7, none⟩ = some (.int .i64 s.dn) := by rw [← hwB]; simp [go_sem]
    have s8 : wB.cell? ⟨w.heap.size + 1, 8, none⟩ = some (.slice ad s.cv.length cp) := by rw [← hwB]; simp [go_sem]
    rw [hwB]
    clear hwB
    go_wp2_with (go_at_call 91; refine (HD.out _).mono ?_; rintro e w2 ⟨rfl, hb2⟩; replace hb := hb.trans (hb2.mono hb.size); replace l0 := cell_below l0 hb2; replace l1 := cell_below l1 hb2; replace s0 := cell_below s0 hb2; replace s1 := cell_below s1 hb2; replace s2 := cell_below s2 hb2; replace s3 := cell_below s3 hb2; replace s4 := cell_below s4 hb2; replace s5 := cell_below s5 hb2; replace s6 := cell_below s6 hb2; replace s7 := cell_below s7 hb2; replace s8 := cell_below s8 hb2; clear hb2)
    have L0 := Lib.hid l0
    have L1 := Lib.hid l1
    have S0 := Lib.hid s0
    have S1 := Lib.hid s1
    have S2 := Lib.hid s2
    have S3 := Lib.hid s3
    have S4 := Lib.hid s4
    have S5 := Lib.hid s5
    have S6 := Lib.hid s6
    have S7 := Lib.hid s7
    have S8 := Lib.hid s8
    have HB := Lib.hid hb
    clear l0 l1 hb s0 s1 s2 s3 s4 s5 s6 s7 s8
    go_loopw [8] (fun i9 wr => ∃ k : Nat, 1 ≤ k ∧ k ≤ 3 ∧ i9 = .int .i64 k ∧ Hid ((1 < k → (e1 && (V1 != 0)) = false) ∧ (2 < k → (e2 && (V2 != 0)) = false)) ∧ Below w2.heap.size w2 wr) (fun i9 _ => 3 - (intOf i9).toNat)
    case atStart => exact ⟨1, by omega, by omega, rfl, Lib.hid ⟨fun h => absurd h (by omega), fun h => absurd h (by omega)⟩, Below.refl _ _⟩
    case round =>
      obtain ⟨k, hk1, hk3, rfl, HA, hbr⟩ := hrel
      have hbw := HB.out.trans (hbr.mono HB.out.size)
      have l0 := cell_below L0.out hbr
      have l1 := cell_below L1.out hbr
      have s0 := cell_below S0.out hbr
      have s1 := cell_below S1.out hbr
      have s2 := cell_below S2.out hbr
      have s3 := cell_below S3.out hbr
      have s4 := cell_below S4.out hbr
      have s5 := cell_below S5.out hbr
      have s6 := cell_below S6.out hbr
      have s7 := cell_below S7.out hbr
      have s8 := cell_below S8.out hbr
      rcases (by omega : k = 1 ∨ k = 2 ∨ k = 3) with rfl | rfl | rfl
      · skip
        rcases Bool.eq_false_or_eq_true e1 with he | he
        rotate_left
        · rw [he] at HE1
          have HXX : (e1 && (V1 != 0)) = false := by rw [he]; rfl
          have HA2 : Hid ((1 < 1 + 1 → (e1 && (V1 != 0)) = false) ∧ (2 < 1 + 1 → (e2 && (V2 != 0)) = false)) := Lib.hid ⟨fun _ => HXX, fun h => absurd h (by omega)⟩
          clear HXX HA HI2
          clear he
          go_wp2_with (go_at_call 95; refine (HE1.out _).mono ?_; rintro e w3 ⟨rfl, hb3⟩; replace l0 := cell_below l0 hb3; replace l1 := cell_below l1 hb3; replace s0 := cell_below s0 hb3; replace s1 := cell_below s1 hb3; replace s2 := cell_below s2 hb3; replace s3 := cell_below s3 hb3; replace s4 := cell_below s4 hb3; replace s5 := cell_below s5 hb3; replace s6 := cell_below s6 hb3; replace s7 := cell_below s7 hb3; replace s8 := cell_below s8 hb3; have hb2r := hbr.trans (hb3.mono hbr.size); have hbw3 := hbw.trans (hb3.mono hbw.size); clear hb3)
          go_roundw
          case rel => exact ⟨1 + 1, by omega, by omega, by go_num, HA2, hb2r⟩
          case measure => simp [intOf]
        · rw [he] at HE1
          by_cases hv : V1 = 0
          · have dv : (V1 != 0) = false := by rw [hv]; rfl
            have HXX : (e1 && (V1 != 0)) = false := by rw [dv]; simp
            have HA2 : Hid ((1 < 1 + 1 → (e1 && (V1 != 0)) = false) ∧ (2 < 1 + 1 → (e2 && (V2 != 0)) = false)) := Lib.hid ⟨fun _ => HXX, fun h => absurd h (by omega)⟩
            clear HXX HA HI2
            clear he hv
            go_wp2_with (first | (go_at_call 95; refine (HE1.out _).mono ?_; rintro e w3 ⟨rfl, hb3⟩; replace l0 := cell_below l0 hb3; replace l1 := cell_below l1 hb3; replace s0 := cell_below s0 hb3; replace s1 := cell_below s1 hb3; replace s2 := cell_below s2 hb3; replace s3 := cell_below s3 hb3; replace s4 := cell_below s4 hb3; replace s5 := cell_below s5 hb3; replace s6 := cell_below s6 hb3; replace s7 := cell_below s7 hb3; replace s8 := cell_below s8 hb3; have hb2r := hbr.trans (hb3.mono hbr.size); have hbw3 := hbw.trans (hb3.mono hbw.size); clear hb3) | (go_at_call 56; refine (HH1.out _ hbw3).mono ?_; rintro e w4 ⟨rfl, hb4⟩; have hb2r := hb2r.trans (hb4.mono hb2r.size); have hbw4 := hbw3.trans (hb4.mono hbw3.size); clear hb4))
            go_roundw
            case rel => exact ⟨1 + 1, by omega, by omega, by go_num, HA2, hb2r⟩
            case measure => simp [intOf]
          · have dv : (V1 != 0) = true := by simp [hv]
            have HR : Hid (IV = false) := Lib.hid (by rw [HI2.out, he, dv]; rfl)
            clear he hv HA HI2
            go_wp2_with (first | (go_at_call 95; refine (HE1.out _).mono ?_; rintro e w3 ⟨rfl, hb3⟩; replace l0 := cell_below l0 hb3; replace l1 := cell_below l1 hb3; replace s0 := cell_below s0 hb3; replace s1 := cell_below s1 hb3; replace s2 := cell_below s2 hb3; replace s3 := cell_below s3 hb3; replace s4 := cell_below s4 hb3; replace s5 := cell_below s5 hb3; replace s6 := cell_below s6 hb3; replace s7 := cell_below s7 hb3; replace s8 := cell_below s8 hb3; have hb2r := hbr.trans (hb3.mono hbr.size); have hbw3 := hbw.trans (hb3.mono hbw.size); clear hb3) | (go_at_call 56; refine (HH1.out _ hbw3).mono ?_; rintro e w4 ⟨rfl, hb4⟩; have hb2r := hb2r.trans (hb4.mono hb2r.size); have hbw4 := hbw3.trans (hb4.mono hbw3.size); clear hb4))
            go_ret
            exact ⟨by rw [HR.out]; rfl, hbw4⟩
      · skip
        rcases Bool.eq_false_or_eq_true e2 with he | he
        rotate_left
        · rw [he] at HE2
          have HXX : (e2 && (V2 != 0)) = false := by rw [he]; rfl
          have HA2 : Hid ((1 < 2 + 1 → (e1 && (V1 != 0)) = false) ∧ (2 < 2 + 1 → (e2 && (V2 != 0)) = false)) := Lib.hid ⟨fun _ => HA.out.1 (by omega), fun _ => HXX⟩
          clear HXX HA HI2
          clear he
          go_wp2_with (go_at_call 95; refine (HE2.out _).mono ?_; rintro e w3 ⟨rfl, hb3⟩; replace l0 := cell_below l0 hb3; replace l1 := cell_below l1 hb3; replace s0 := cell_below s0 hb3; replace s1 := cell_below s1 hb3; replace s2 := cell_below s2 hb3; replace s3 := cell_below s3 hb3; replace s4 := cell_below s4 hb3; replace s5 := cell_below s5 hb3; replace s6 := cell_below s6 hb3; replace s7 := cell_below s7 hb3; replace s8 := cell_below s8 hb3; have hb2r := hbr.trans (hb3.mono hbr.size); have hbw3 := hbw.trans (hb3.mono hbw.size); clear hb3)
          go_roundw
          case rel => exact ⟨2 + 1, by omega, by omega, by go_num, HA2, hb2r⟩
          case measure => simp [intOf]
        · rw [he] at HE2
          by_cases hv : V2 = 0
          · have dv : (V2 != 0) = false := by rw [hv]; rfl
            have HXX : (e2 && (V2 != 0)) = false := by rw [dv]; simp
            have HA2 : Hid ((1 < 2 + 1 → (e1 && (V1 != 0)) = false) ∧ (2 < 2 + 1 → (e2 && (V2 != 0)) = false)) := Lib.hid ⟨fun _ => HA.out.1 (by omega), fun _ => HXX⟩
            clear HXX HA HI2
            clear he hv
            go_wp2_with (first | (go_at_call 95; refine (HE2.out _).mono ?_; rintro e w3 ⟨rfl, hb3⟩; replace l0 := cell_below l0 hb3; replace l1 := cell_below l1 hb3; replace s0 := cell_below s0 hb3; replace s1 := cell_below s1 hb3; replace s2 := cell_below s2 hb3; replace s3 := cell_below s3 hb3; replace s4 := cell_below s4 hb3; replace s5 := cell_below s5 hb3; replace s6 := cell_below s6 hb3; replace s7 := cell_below s7 hb3; replace s8 := cell_below s8 hb3; have hb2r := hbr.trans (hb3.mono hbr.size); have hbw3 := hbw.trans (hb3.mono hbw.size); clear hb3) | (go_at_call 56; refine (HH2.out _ hbw3).mono ?_; rintro e w4 ⟨rfl, hb4⟩; have hb2r := hb2r.trans (hb4.mono hb2r.size); have hbw4 := hbw3.trans (hb4.mono hbw3.size); clear hb4))
            go_roundw
            case rel => exact ⟨2 + 1, by omega, by omega, by go_num, HA2, hb2r⟩
            case measure => simp [intOf]
          · have dv : (V2 != 0) = true := by simp [hv]
            have HR : Hid (IV = false) := Lib.hid (by rw [HI2.out, he, dv]; simp)
            clear he hv HA HI2
            go_wp2_with (first | (go_at_call 95; refine (HE2.out _).mono ?_; rintro e w3 ⟨rfl, hb3⟩; replace l0 := cell_below l0 hb3; replace l1 := cell_below l1 hb3; replace s0 := cell_below s0 hb3; replace s1 := cell_below s1 hb3; replace s2 := cell_below s2 hb3; replace s3 := cell_below s3 hb3; replace s4 := cell_below s4 hb3; replace s5 := cell_below s5 hb3; replace s6 := cell_below s6 hb3; replace s7 := cell_below s7 hb3; replace s8 := cell_below s8 hb3; have hb2r := hbr.trans (hb3.mono hbr.size); have hbw3 := hbw.trans (hb3.mono hbw.size); clear hb3) | (go_at_call 56; refine (HH2.out _ hbw3).mono ?_; rintro e w4 ⟨rfl, hb4⟩; have hb2r := hb2r.trans (hb4.mono hb2r.size); have hbw4 := hbw3.trans (hb4.mono hbw3.size); clear hb4))
            go_ret
            exact ⟨by rw [HR.out]; rfl, hbw4⟩
      · have HR : Hid (IV = true) := Lib.hid (by rw [HI2.out, HA.out.1 (by omega), HA.out.2 (by omega)]; rfl)
        clear HA HI2
        go_wp2_with fail
        go_ret
        exact ⟨by rw [HR.out]; rfl, hbw⟩
end Go.Proofs.YtiagflackfkmnaaGreat

namespace Go.Proofs.YtiagflackfkmnaaGreat
set_option linter.unusedVariables false
set_option linter.unusedSimpArgs false
open Go.RowKit

/-- A fault as a list. -/
def cdL (c : Int) : List Int := if c = 0 then [] else [c]
def CodE (C : Int) (w : World) (e : Ending) (w' : World) : Prop := ∃ b c, e = .returned (.slice b (cdL C).length c) ∧ IntsS w' b (cdL C) ∧ Below w.heap.size w w'
theorem cod_nil {C : Int} {w w' : World} (h : C = 0) (hb : Below w.heap.size w w') : CodE C w (.returned (.slice none 0 0)) w' := by
  subst h
  exact ⟨none, 0, rfl, ints_nil _ _, hb⟩
theorem cod_one {C : Int} {w w' : World} {g c : Nat} (h : C ≠ 0) (h2 : I64 C) (ho : w'.ownsRow w.heap.size 3 1 (.slice (some ⟨g, 0, none⟩) 1 c) 1 [.int .i64 C]) (hb : Below w.heap.size w w') : CodE C w (.returned (.slice (some ⟨g, 0, none⟩) 1 c)) w' := by
  have e : cdL C = [C] := by unfold cdL; rw [if_neg h]
  refine ⟨some ⟨g, 0, none⟩, c, by rw [e]; rfl, ?_, hb⟩
  rw [e]
  refine ints_own (zs := [C]) ho (by simp) (fun j hj => ?_)
  have hj : j < 1 := hj
  obtain rfl : j = 0 := by omega
  exact h2
set_option maxRecDepth 100000 in
set_option maxHeartbeats 8000000 in
theorem refCodes_r (L : Int) (a : Option Addr) (js : List Int) (ca : Nat) (aa : Option Addr) (R : List Sgn) (cl : Nat) (dir : Int) (i : Nat) (hi9 : i < R.length) (hL1 : 0 ≤ L) (hL2 : L ≤ 100000) (hJ : ∀ j, j < js.length → 0 ≤ gi js j ∧ gi js j ≤ 100000) (hC : ∀ j, j < R.length → (0 ≤ (gs R j).c ∧ (gs R j).c ≤ 100000) ∧ 0 ≤ (gs R j).v ∧ (gs R j).v ≤ 100000) (hV : ∀ i, i < R.length → (gs R i).k = 1 → 0 < (gs R i).v) (hSo : ∀ i j, i < j → j < R.length → dstK L dir (gs R i).c ≤ dstK L dir (gs R j).c) (hn : R.length ≤ 1000) (hsd : ∀ i, i < R.length → (gs R i).d = dir) (w : World) (hI : IntsS w a js) (hA : SgnS w aa R) :
    Calls Tryz.prog 69 #[.agg #[.int .i64 L, .slice a js.length ca], .slice aa R.length cl, .int .i64 i] w (CodE (codS L js dir R i) w) := by
  have hsc := (hC i hi9).1
  have hsv := (hC i hi9).2
  have hdb := dst_bd (L := L) (dir := dir) (c := (gs R i).c) hL1 hL2 hsc.1 hsc.2
  have hsdi := hsd i hi9
  have HA0 := Lib.hid hA
  obtain ⟨-, blk, off, adf, cpf, hadr, hc⟩ := hA
  obtain rfl := hadr (List.ne_nil_of_length_pos (by omega))
  obtain ⟨⟨c0, c1, c2, c3, c4, c5, c6, c7⟩, c8, -⟩ := hc i hi9
  have hzb := block_lt c0
  have HD := Lib.hid (fun W => refDistance_r L a js.length ca dir (gs R i).c hL1 hL2 (by omega) (by omega) W)
  have HH := Lib.hid (fun W (hW : Below w.heap.size w W) => refHolding_r L a js ca (some ⟨blk, off, none⟩) R cl dir 1 (dstK L dir (gs R i).c) hL1 hL2 hJ hC hV hSo hn (.inl rfl) (by omega) (by omega) W (hI.below hW) (HA0.out.below hW))
  have HId := Lib.hid (fun W (hW : Below w.heap.size w W) => refIdle_r L a js ca (some ⟨blk, off, none⟩) R cl dir (gs R i) (adf i) (cpf i) hL1 hL2 hJ hC hV hSo hn hsdi hsc W (hI.below hW) (HA0.out.below hW))
  have HC : Hid (codS L js dir R i = if (gs R i).k = 7 then (if minS R i = false ∨ L - dstK L dir (gs R i).c < (gs R i).v then 1 else 0)
  else if (gs R i).k = 6 then (if dstK L dir (gs R i).c = L ∨ hS L js dir 1 (dstK L dir (gs R i).c) R 0 ≠ (gs R i).v then 2 else 0)
  else if (gs R i).k = 2 ∨ (gs R i).k = 4 ∨ (gs R i).k = 5 then (if idlS L js dir R (gs R i) = true then 3 else 0)
  else if (gs R i).k = 1 ∨ (gs R i).k = 3 then (if dstK L dir (gs R i).c = L then 4 else 0) else 0) := Lib.hid rfl
  have HMi0 : Hid (i = 0 → minS R i = false) := Lib.hid fun h => by unfold minS; rw [h]; rfl
  have HPrev : Hid (∀ t : Nat, i = t + 1 → w.cell? ⟨blk, off + t * 9 + 1, none⟩ = some (.int .i64 (gs R t).k) ∧ (∀ W, Below w.heap.size w W → Calls Tryz.prog 96 #[.slice (some ⟨blk, off, none⟩) R.length cl, .int .i64 t] W fun e w' => e = .returned (.bool (plB R t)) ∧ Below W.heap.size W w') ∧ minS R i = (((gs R t).k == 1 || (gs R t).k == 3) && plB R t)) := Lib.hid fun t ht => by
    subst ht
    exact ⟨(hc t (by omega)).1.2.1, fun W hW => refPlated_r (some ⟨blk, off, none⟩) R cl t (by omega) hn W (HA0.out.below hW), by unfold minS; rw [decide_eq_true (by omega), Bool.true_and]; rfl⟩
  obtain ⟨n0, hi, hz0, hz1, hz2⟩ := info_parts infoInt
  have g1 : (i : Int) < (R.length : Int) := by omega
  clear hI hJ hC hV hSo hsd hc hadr
  generalize codS L js dir R i = CV at *
  generalize minS R i = MI at *
  generalize idlS L js dir R (gs R i) = IDL at *
  generalize hS L js dir 1 (dstK L dir (gs R i).c) R 0 = V at *
  generalize dstK L dir (gs R i).c = D at *
  generalize adf i = ad at *
  generalize cpf i = cp at *
  obtain ⟨s, hs⟩ : ∃ s, gs R i = s := ⟨_, rfl⟩
  rw [hs] at HD HId HC hsc hsv hsdi c0 c1 c2 c3 c4 c5 c6 c7 c8
  clear hs
  subst hsdi
  by_cases h7 : s.k = 7
  · have k7 : (s.k == 7) = true := by rw [h7]; rfl
    have HC7 : Hid (CV = if MI = false ∨ L - D < s.v then 1 else 0) := Lib.hid (by rw [HC.out, if_pos h7])
    clear h7 HC HH HId
    go_enter Tryz.func69, Tryz.ntmps69
    go_upto_region 2 with (fail)
    obtain ⟨wB, hwB⟩ : ∃ wB, (w.alloc (.cells #[.int .i64 L, .slice a js.length ca] 24)).alloc (.cells #[.int .i64 s.n, .int .i64 s.k, .int .i64 s.v, .int .i64 s.c, .int .i64 s.d, .int .i64 s.rk, .int .i64 s.up, .int .i64 s.dn, .slice ad s.cv.length cp] 34) = wB := ⟨_, rfl⟩
    have hb : Below w.heap.size w wB := by rw [← hwB]; exact ((Below.refl _ _).alloc (Nat.le_refl _) _).alloc (by simp) _
    have l0 : wB.cell? ⟨w.heap.size, 0, none⟩ = some (.int .i64 L) := by rw [← hwB]; simp [go_sem]
    have l1 : wB.cell? ⟨w.heap.size, 1, none⟩ = some (.slice a js.length ca) := by rw [← hwB]; simp [go_sem]
    have s0 : wB.cell? ⟨w.heap.size + 1, 0, none⟩ = some (.int .i64 s.n) := by rw [← hwB]; simp [go_sem]
    have s1 : wB.cell? ⟨w.heap.size + 1, 1, none⟩ = some (.int .i64 s.k) := by rw [← hwB]; simp [go_sem]
    have s2 : wB.cell? ⟨w.heap.size + 1, 2, none⟩ = some (.int .i64 s.v) := by rw [← hwB]; simp [go_sem]
    have s3 : wB.cell? ⟨w.heap.size + 1, 3, none⟩ = some (.int .i64 s.c) := by rw [← hwB]; simp [go_sem]
    have s4 : wB.cell? ⟨w.heap.size + 1, 4, none⟩ = some (.int .i64 s.d) := by rw [← hwB]; simp [go_sem]
    have s5 : wB.cell? ⟨w.heap.size + 1, 5, none⟩ = some (.int .i64 s.rk) := by rw [← hwB]; simp [go_sem]
    have s6 : wB.cell? ⟨w.heap.size + 1, 6, none⟩ = some (.int .i64 s.up) := by rw [← hwB]; simp [go_sem]
    have s7 : wB.cell? ⟨w.heap.size + 1, 7, none⟩ = some (.int .i64 s.dn) := by rw [← hwB]; simp [go_sem]
    have s8 : wB.cell? ⟨w.heap.size + 1, 8, none⟩ = some (.slice ad s.cv.length cp) := by rw [← hwB]; simp [go_sem]
    rw [hwB]
    clear hwB c0 c1 c2 c3 c4 c5 c6 c7 c8
    go_upto_region 6 with (go_at_call 91; refine (HD.out _).mono ?_; rintro e w2 ⟨rfl, hb2⟩; replace hb := hb.trans (hb2.mono hb.size); replace l0 := cell_below l0 hb2; replace l1 := cell_below l1 hb2; replace s0 := cell_below s0 hb2; replace s1 := cell_below s1 hb2; replace s2 := cell_below s2 hb2; replace s3 := cell_below s3 hb2; replace s4 := cell_below s4 hb2; replace s5 := cell_below s5 hb2; replace s6 := cell_below s6 hb2; replace s7 := cell_below s7 hb2; replace s8 := cell_below s8 hb2; clear hb2)
    obtain ⟨wY, rfl⟩ : ∃ wY : World, wY = w2 := ⟨_, rfl⟩
    go_cut [10] (fun v wx => v = .bool MI ∧ Below wY.heap.size wY wx)
    case first =>
      by_cases h0 : 0 < i
      · obtain ⟨t, ht⟩ : ∃ t : Nat, i = t + 1 := ⟨i - 1, by omega⟩
        have HT := HPrev.out t ht
        obtain ⟨hpc, hpl, hmi⟩ := HT
        have HPl := Lib.hid (fun W (hW : Below w.heap.size w W) => hpl W hW)
        have c9 := cell_below hpc hb
        have HMi := Lib.hid hmi
        have hti : (i : Int) - 1 = (t : Int) := by omega
        have htl : t < R.length := by omega
        have htl2 : (t : Int) < (R.length : Int) := by omega
        have h0i : (0 : Int) < (i : Int) := by omega
        clear hpc hpl hmi ht HPrev
        generalize (gs R t).k = pk at *
        generalize plB R t = pb at *
        by_cases p1 : pk = 1
        · have b1 : (pk == 1) = true := by rw [p1]; rfl
          have hm : MI = pb := by rw [HMi.out, b1]; simp
          have HM9 := Lib.hid hm
          clear p1 HMi hm
          go_wp2_with (go_at_call 96; refine (HPl.out _ hb).mono ?_; rintro e w3 ⟨rfl, hb3⟩)
          go_meet
          exact ⟨by rw [HM9.out], hb3⟩
        · have b1 : (pk == 1) = false := beq_false_of_ne p1
          by_cases p3 : pk = 3
          · have b3 : (pk == 3) = true := by rw [p3]; rfl
            have hm : MI = pb := by rw [HMi.out, b1, b3]; simp
            have HM9 := Lib.hid hm
            clear p1 p3 HMi hm
            go_wp2_with (go_at_call 96; refine (HPl.out _ hb).mono ?_; rintro e w3 ⟨rfl, hb3⟩)
            go_meet
            exact ⟨by rw [HM9.out], hb3⟩
          · have b3 : (pk == 3) = false := beq_false_of_ne p3
            have HM9 : Hid (MI = false) := Lib.hid (by rw [HMi.out, b1, b3]; simp)
            clear p1 p3 HMi HPl
            go_wp2_with fail
            go_meet
            exact ⟨by rw [HM9.out], Below.refl _ _⟩
      · have HM9 : Hid (MI = false) := Lib.hid (HMi0.out (by omega))
        have h0i : ¬ (0 : Int) < (i : Int) := by omega
        clear HPrev
        go_wp2_with fail
        go_meet
        exact ⟨by rw [HM9.out], Below.refl _ _⟩
    case rest =>
      obtain ⟨rfl, hbc⟩ := hcut
      replace hb := hb.trans (hbc.mono hb.size)
      obtain ⟨w2, rfl⟩ : ∃ w2 : World, w2 = wc := ⟨_, rfl⟩
      replace l0 := cell_below l0 hbc; replace l1 := cell_below l1 hbc; replace s0 := cell_below s0 hbc; replace s1 := cell_below s1 hbc; replace s2 := cell_below s2 hbc; replace s3 := cell_below s3 hbc; replace s4 := cell_below s4 hbc; replace s5 := cell_below s5 hbc; replace s6 := cell_below s6 hbc; replace s7 := cell_below s7 hbc; replace s8 := cell_below s8 hbc
      clear hbc HPrev HMi0
      rcases Bool.eq_false_or_eq_true MI with hm | hm
      · subst hm
        by_cases hv : L - D < s.v
        · have HR : Hid (CV = 1) := Lib.hid (by rw [HC7.out, if_pos (.inr hv)])
          have dv : decide (L - D < s.v) = true := decide_eq_true hv
          clear HC7
          go_wp2_with (at_builtin; go_loud (refine wpList_append_lies _ rfl _ _ 22 rfl w.heap.size 3 n0 _ 1 8 Tryz.underlying22 hi hz0 hz1 hz2 rfl (by decide) (.slice none 0 0) 0 [] (by rfl) ⟨rfl, .inl ⟨rfl, rfl⟩⟩ ⟨w2.heap.size, 0, none⟩ 1 1 [.int .i64 1] (by rfl) (by rfl) ?d1 ?d2 (by decide) ?d3 ?d4 ?d5 _ rfl ?_))
          case d1 =>
            refine World.news_of_block (cs := #[.int .i64 1]) (t := 3) (fr := (0, 0)) ?_
            exact heap_alloc_new _ _
          case d2 => simp [Value.oneCell']
          case d3 => unfold maxLen; omega
          case d4 => omega
          case d5 => have := hb.size; first | (simp; omega) | simp | omega
          intro g6 c6 w6 hown6 hgrow6 hat6 hlt6
          have hb6 : Below w.heap.size w w6 := (hb.alloc hb.size _).grown hgrow6 (by have := hb.size; first | (simp; omega) | simp | omega) (fun z hz => by cases hz)
          have HO6 := Lib.hid hown6
          clear hown6 hgrow6 hat6 hlt6
          go_wp2_with fail
          go_ret
          rw [HR.out]
          exact cod_one (by decide) (by unfold I64; omega) HO6.out hb6
        · have HR : Hid (CV = 0) := Lib.hid (by rw [HC7.out, if_neg (by simp; omega)])
          have dv : decide (L - D < s.v) = false := decide_eq_false hv
          clear HC7
          go_wp2_with fail
          go_ret
          rw [HR.out]
          exact cod_nil rfl hb
      · subst hm
        have HR : Hid (CV = 1) := Lib.hid (by rw [HC7.out, if_pos (.inl rfl)])
        clear HC7
        go_wp2_with (at_builtin; go_loud (refine wpList_append_lies _ rfl _ _ 22 rfl w.heap.size 3 n0 _ 1 8 Tryz.underlying22 hi hz0 hz1 hz2 rfl (by decide) (.slice none 0 0) 0 [] (by rfl) ⟨rfl, .inl ⟨rfl, rfl⟩⟩ ⟨w2.heap.size, 0, none⟩ 1 1 [.int .i64 1] (by rfl) (by rfl) ?d1 ?d2 (by decide) ?d3 ?d4 ?d5 _ rfl ?_))
        case d1 =>
          refine World.news_of_block (cs := #[.int .i64 1]) (t := 3) (fr := (0, 0)) ?_
          exact heap_alloc_new _ _
        case d2 => simp [Value.oneCell']
        case d3 => unfold maxLen; omega
        case d4 => omega
        case d5 => have := hb.size; first | (simp; omega) | simp | omega
        intro g6 c6 w6 hown6 hgrow6 hat6 hlt6
        have hb6 : Below w.heap.size w w6 := (hb.alloc hb.size _).grown hgrow6 (by have := hb.size; first | (simp; omega) | simp | omega) (fun z hz => by cases hz)
        have HO6 := Lib.hid hown6
        clear hown6 hgrow6 hat6 hlt6
        go_wp2_with fail
        go_ret
        rw [HR.out]
        exact cod_one (by decide) (by unfold I64; omega) HO6.out hb6
  by_cases h6 : s.k = 6
  · have k7 : (s.k == 7) = false := beq_false_of_ne h7
    have k6 : (s.k == 6) = true := by rw [h6]; rfl
    by_cases hdl : D = L
    · have HR : Hid (CV = 2) := Lib.hid (by rw [HC.out]; rw [if_neg h7, if_pos h6, if_pos (.inl hdl)])
      have dd : (D == L) = true := by rw [hdl]; simp
      clear hdl
      clear h7 h6 HId HPrev HMi0 HC HH
      go_enter Tryz.func69, Tryz.ntmps69
      go_upto_region 2 with (fail)
      obtain ⟨wB, hwB⟩ : ∃ wB, (w.alloc (.cells #[.int .i64 L, .slice a js.length ca] 24)).alloc (.cells #[.int .i64 s.n, .int .i64 s.k, .int .i64 s.v, .int .i64 s.c, .int .i64 s.d, .int .i64 s.rk, .int .i64 s.up, .int .i64 s.dn, .slice ad s.cv.length cp] 34) = wB := ⟨_, rfl⟩
      have hb : Below w.heap.size w wB := by rw [← hwB]; exact ((Below.refl _ _).alloc (Nat.le_refl _) _).alloc (by simp) _
      have l0 : wB.cell? ⟨w.heap.size, 0, none⟩ = some (.int .i64 L) := by rw [← hwB]; simp [go_sem]
      have l1 : wB.cell? ⟨w.heap.size, 1, none⟩ = some (.slice a js.length ca) := by rw [← hwB]; simp [go_sem]
      have s0 : wB.cell? ⟨w.heap.size + 1, 0, none⟩ = some (.int .i64 s.n) := by rw [← hwB]; simp [go_sem]
      have s1 : wB.cell? ⟨w.heap.size + 1, 1, none⟩ = some (.int .i64 s.k) := by rw [← hwB]; simp [go_sem]
      have s2 : wB.cell? ⟨w.heap.size + 1, 2, none⟩ = some (.int .i64 s.v) := by rw [← hwB]; simp [go_sem]
      have s3 : wB.cell? ⟨w.heap.size + 1, 3, none⟩ = some (.int .i64 s.c) := by rw [← hwB]; simp [go_sem]
      have s4 : wB.cell? ⟨w.heap.size + 1, 4, none⟩ = some (.int .i64 s.d) := by rw [← hwB]; simp [go_sem]
      have s5 : wB.cell? ⟨w.heap.size + 1, 5, none⟩ = some (.int .i64 s.rk) := by rw [← hwB]; simp [go_sem]
      have s6 : wB.cell? ⟨w.heap.size + 1, 6, none⟩ = some (.int .i64 s.up) := by rw [← hwB]; simp [go_sem]
      have s7 : wB.cell? ⟨w.heap.size + 1, 7, none⟩ = some (.int .i64 s.dn) := by rw [← hwB]; simp [go_sem]
      have s8 : wB.cell? ⟨w.heap.size + 1, 8, none⟩ = some (.slice ad s.cv.length cp) := by rw [← hwB]; simp [go_sem]
      rw [hwB]
      clear hwB c0 c1 c2 c3 c4 c5 c6 c7 c8
      go_upto_region 10 with (go_at_call 91; refine (HD.out _).mono ?_; rintro e w2 ⟨rfl, hb2⟩; replace hb := hb.trans (hb2.mono hb.size); replace l0 := cell_below l0 hb2; replace l1 := cell_below l1 hb2; replace s0 := cell_below s0 hb2; replace s1 := cell_below s1 hb2; replace s2 := cell_below s2 hb2; replace s3 := cell_below s3 hb2; replace s4 := cell_below s4 hb2; replace s5 := cell_below s5 hb2; replace s6 := cell_below s6 hb2; replace s7 := cell_below s7 hb2; replace s8 := cell_below s8 hb2; clear hb2)
      have hzl := block_lt l0
      have hzs := block_lt s0
      refine wp_region_held_drew (S := fun w' => Below w2.heap.size w2 w') (by kernel_rfl) ((Below.refl _ _).drew) (fun hHeld => ?_)
      refine takeU (i := 0) (some 67) (.int .i64 D) (by kernel_rfl) (by kernel_rfl) (by kernel_rfl) (by kernel_rfl) (by kernel_rfl) (fun _ => by kernel_rfl) (fun _ _ _ h => h) hHeld ?_
      refine takeU (i := 1) (some 68) (.pointer (some ⟨w.heap.size, 0, none⟩)) (by kernel_rfl) (by kernel_rfl) (by kernel_rfl) (by kernel_rfl) (by kernel_rfl) (fun _ => by kernel_rfl) (fun _ _ _ h => h) hHeld ?_
      refine wpAnyH_take (i := 2) (oi := { dst := some 69, op := Go.Op.load 3 (Go.Operand.tmp 68), type := 3, pos := "ref.go:294", after := #[{ on := 1, ground := Go.Ground.data }], guard := none }) (v := .int .i64 L) rfl (by kernel_rfl) (by kernel_rfl) (by kernel_rfl) (fun _ _ _ h => h) (.inl ⟨by kernel_rfl, fun w9 h9 => by
        clear hHeld
        have d0 := (h9.cell (p := ⟨w.heap.size, 0, none⟩) hzl).trans l0
        clear h9
        go_simp⟩) hHeld ?_
      refine wpAnyH_take (i := 3) (oi := { dst := some 70, op := Go.Op.binOp Go.BinOp.eql 3 (Go.Operand.tmp 67) (Go.Operand.tmp 69) 3, type := 4, pos := "ref.go:294", after := #[{ on := 0, ground := Go.Ground.data }, { on := 2, ground := Go.Ground.data }], guard := none }) (v := .bool true) rfl (by kernel_rfl) (by kernel_rfl) (by kernel_rfl) (fun _ _ _ h => h) (.inl ⟨by kernel_rfl, fun w9 h9 => by
        clear hHeld h9
        go_simp⟩) hHeld ?_
      refine takeU (i := 4) (some 71) (.bool true) (by kernel_rfl) (by kernel_rfl) (by kernel_rfl) (by kernel_rfl) (by kernel_rfl) (fun _ => by kernel_rfl) (fun _ _ _ h => h) hHeld ?_
      refine skipU (i := 5) (some 72) (by kernel_rfl) (by kernel_rfl) (by kernel_rfl) (by kernel_rfl) (by kernel_rfl) (fun _ _ _ h => h) hHeld ?_
      refine skipU (i := 6) (some 73) (by kernel_rfl) (by kernel_rfl) (by kernel_rfl) (by kernel_rfl) (by kernel_rfl) (fun _ _ _ h => h) hHeld ?_
      refine skipU (i := 7) (some 74) (by kernel_rfl) (by kernel_rfl) (by kernel_rfl) (by kernel_rfl) (by kernel_rfl) (fun _ _ _ h => h) hHeld ?_
      refine skipU (i := 8) (some 75) (by kernel_rfl) (by kernel_rfl) (by kernel_rfl) (by kernel_rfl) (by kernel_rfl) (fun _ _ _ h => h) hHeld ?_
      refine skipU (i := 9) (some 76) (by kernel_rfl) (by kernel_rfl) (by kernel_rfl) (by kernel_rfl) (by kernel_rfl) (fun _ _ _ h => h) hHeld ?_
      refine skipU (i := 10) (some 77) (by kernel_rfl) (by kernel_rfl) (by kernel_rfl) (by kernel_rfl) (by kernel_rfl) (fun _ _ _ h => h) hHeld ?_
      refine skipU (i := 11) (some 78) (by kernel_rfl) (by kernel_rfl) (by kernel_rfl) (by kernel_rfl) (by kernel_rfl) (fun _ _ _ h => h) hHeld ?_
      refine skipU (i := 12) (some 79) (by kernel_rfl) (by kernel_rfl) (by kernel_rfl) (by kernel_rfl) (by kernel_rfl) (fun _ _ _ h => h) hHeld ?_
      refine skipU (i := 13) (some 80) (by kernel_rfl) (by kernel_rfl) (by kernel_rfl) (by kernel_rfl) (by kernel_rfl) (fun _ _ _ h => h) hHeld ?_
      refine takeU (i := 14) (some 81) (.bool true) (by kernel_rfl) (by kernel_rfl) (by kernel_rfl) (by kernel_rfl) (by kernel_rfl) (fun _ => by kernel_rfl) (fun _ _ _ h => h) hHeld ?_
      refine wpAnyH_done (by kernel_rfl) ?_ _
      try simp only [Act.put, List.setIfInBounds_toArray, List.set_cons_zero, List.set_cons_succ]
      have hb7 := hb.trans (hHeld.mono hb.size)
      clear hb
      obtain ⟨w7, hw7⟩ : ∃ w7 : World, w2.drew = w7 := ⟨_, rfl⟩
      rw [hw7] at hb7 ⊢
      clear hw7
      go_wp2_with (at_builtin; go_loud (refine wpList_append_lies _ rfl _ _ 22 rfl w.heap.size 3 n0 _ 1 8 Tryz.underlying22 hi hz0 hz1 hz2 rfl (by decide) (.slice none 0 0) 0 [] (by rfl) ⟨rfl, .inl ⟨rfl, rfl⟩⟩ ⟨w7.heap.size, 0, none⟩ 1 1 [.int .i64 2] (by rfl) (by rfl) ?d1 ?d2 (by decide) ?d3 ?d4 ?d5 _ rfl ?_))
      case d1 =>
        refine World.news_of_block (cs := #[.int .i64 2]) (t := 3) (fr := (0, 0)) ?_
        exact heap_alloc_new _ _
      case d2 => simp [Value.oneCell']
      case d3 => unfold maxLen; omega
      case d4 => omega
      case d5 => have := hb7.size; first | (simp; omega) | simp | omega
      intro g6 c6 w6 hown6 hgrow6 hat6 hlt6
      have hb6 : Below w.heap.size w w6 := (hb7.alloc hb7.size _).grown hgrow6 (by have := hb7.size; first | (simp; omega) | simp | omega) (fun z hz => by cases hz)
      have HO6 := Lib.hid hown6
      clear hown6 hgrow6 hat6 hlt6
      go_wp2_with fail
      go_ret
      rw [HR.out]
      exact cod_one (by decide) (by unfold I64; omega) HO6.out hb6
    · have dd : (D == L) = false := beq_false_of_ne hdl
      by_cases hvv : V = s.v
      · have HR : Hid (CV = 0) := Lib.hid (by rw [HC.out]; rw [if_neg h7, if_pos h6, if_neg (by simp [hdl, hvv])])
        have d2 : (V != s.v) = false := by rw [hvv]; simp
        clear hdl hvv
        clear h7 h6 HId HPrev HMi0 HC
        go_enter Tryz.func69, Tryz.ntmps69
        go_upto_region 2 with (fail)
        obtain ⟨wB, hwB⟩ : ∃ wB, (w.alloc (.cells #[.int .i64 L, .slice a js.length ca] 24)).alloc (.cells #[.int .i64 s.n, .int .i64 s.k, .int .i64 s.v, .int .i64 s.c, .int .i64 s.d, .int .i64 s.rk, .int .i64 s.up, .int .i64 s.dn, .slice ad s.cv.length cp] 34) = wB := ⟨_, rfl⟩
        have hb : Below w.heap.size w wB := by rw [← hwB]; exact ((Below.refl _ _).alloc (Nat.le_refl _) _).alloc (by simp) _
        have l0 : wB.cell? ⟨w.heap.size, 0, none⟩ = some (.int .i64 L) := by rw [← hwB]; simp [go_sem]
        have l1 : wB.cell? ⟨w.heap.size, 1, none⟩ = some (.slice a js.length ca) := by rw [← hwB]; simp [go_sem]
        have s0 : wB.cell? ⟨w.heap.size + 1, 0, none⟩ = some (.int .i64 s.n) := by rw [← hwB]; simp [go_sem]
        have s1 : wB.cell? ⟨w.heap.size + 1, 1, none⟩ = some (.int .i64 s.k) := by rw [← hwB]; simp [go_sem]
        have s2 : wB.cell? ⟨w.heap.size + 1, 2, none⟩ = some (.int .i64 s.v) := by rw [← hwB]; simp [go_sem]
        have s3 : wB.cell? ⟨w.heap.size + 1, 3, none⟩ = some (.int .i64 s.c) := by rw [← hwB]; simp [go_sem]
        have s4 : wB.cell? ⟨w.heap.size + 1, 4, none⟩ = some (.int .i64 s.d) := by rw [← hwB]; simp [go_sem]
        have s5 : wB.cell? ⟨w.heap.size + 1, 5, none⟩ = some (.int .i64 s.rk) := by rw [← hwB]; simp [go_sem]
        have s6 : wB.cell? ⟨w.heap.size + 1, 6, none⟩ = some (.int .i64 s.up) := by rw [← hwB]; simp [go_sem]
        have s7 : wB.cell? ⟨w.heap.size + 1, 7, none⟩ = some (.int .i64 s.dn) := by rw [← hwB]; simp [go_sem]
        have s8 : wB.cell? ⟨w.heap.size + 1, 8, none⟩ = some (.slice ad s.cv.length cp) := by rw [← hwB]; simp [go_sem]
        rw [hwB]
        clear hwB c0 c1 c2 c3 c4 c5 c6 c7 c8
        go_upto_region 10 with (go_at_call 91; refine (HD.out _).mono ?_; rintro e w2 ⟨rfl, hb2⟩; replace hb := hb.trans (hb2.mono hb.size); replace l0 := cell_below l0 hb2; replace l1 := cell_below l1 hb2; replace s0 := cell_below s0 hb2; replace s1 := cell_below s1 hb2; replace s2 := cell_below s2 hb2; replace s3 := cell_below s3 hb2; replace s4 := cell_below s4 hb2; replace s5 := cell_below s5 hb2; replace s6 := cell_below s6 hb2; replace s7 := cell_below s7 hb2; replace s8 := cell_below s8 hb2; clear hb2)
        have hzl := block_lt l0
        have hzs := block_lt s0
        refine wp_region_held_drew (S := fun w' => Below w2.heap.size w2 w') (by kernel_rfl) ((Below.refl _ _).drew) (fun hHeld => ?_)
        refine takeU (i := 0) (some 67) (.int .i64 D) (by kernel_rfl) (by kernel_rfl) (by kernel_rfl) (by kernel_rfl) (by kernel_rfl) (fun _ => by kernel_rfl) (fun _ _ _ h => h) hHeld ?_
        refine takeU (i := 1) (some 68) (.pointer (some ⟨w.heap.size, 0, none⟩)) (by kernel_rfl) (by kernel_rfl) (by kernel_rfl) (by kernel_rfl) (by kernel_rfl) (fun _ => by kernel_rfl) (fun _ _ _ h => h) hHeld ?_
        refine wpAnyH_take (i := 2) (oi := { dst := some 69, op := Go.Op.load 3 (Go.Operand.tmp 68), type := 3, pos := "ref.go:294", after := #[{ on := 1, ground := Go.Ground.data }], guard := none }) (v := .int .i64 L) rfl (by kernel_rfl) (by kernel_rfl) (by kernel_rfl) (fun _ _ _ h => h) (.inl ⟨by kernel_rfl, fun w9 h9 => by
          clear hHeld
          have d0 := (h9.cell (p := ⟨w.heap.size, 0, none⟩) hzl).trans l0
          clear h9
          go_simp⟩) hHeld ?_
        refine wpAnyH_take (i := 3) (oi := { dst := some 70, op := Go.Op.binOp Go.BinOp.eql 3 (Go.Operand.tmp 67) (Go.Operand.tmp 69) 3, type := 4, pos := "ref.go:294", after := #[{ on := 0, ground := Go.Ground.data }, { on := 2, ground := Go.Ground.data }], guard := none }) (v := .bool false) rfl (by kernel_rfl) (by kernel_rfl) (by kernel_rfl) (fun _ _ _ h => h) (.inl ⟨by kernel_rfl, fun w9 h9 => by
          clear hHeld h9
          go_simp⟩) hHeld ?_
        refine takeU (i := 4) (some 71) (.bool false) (by kernel_rfl) (by kernel_rfl) (by kernel_rfl) (by kernel_rfl) (by kernel_rfl) (fun _ => by kernel_rfl) (fun _ _ _ h => h) hHeld ?_
        refine wpAnyH_take (i := 5) (oi := { dst := some 72, op := Go.Op.load 24 (Go.Operand.tmp 3), type := 24, pos := "ref.go:294", after := #[{ on := 4, ground := Go.Ground.guard }], guard := some (4, false) }) (v := .agg #[.int .i64 L, .slice a js.length ca]) rfl (by kernel_rfl) (by kernel_rfl) (by kernel_rfl) (fun _ _ _ h => h) (.inl ⟨by kernel_rfl, fun w9 h9 => by
          clear hHeld
          have d0 := (h9.cell (p := ⟨w.heap.size, 0, none⟩) hzl).trans l0
          have d1 := (h9.cell (p := ⟨w.heap.size, 1, none⟩) hzl).trans l1
          clear h9
          go_simp⟩) hHeld ?_
        refine takeU (i := 6) (some 73) (.slice (some ⟨blk, off, none⟩) R.length cl) (by kernel_rfl) (by kernel_rfl) (by kernel_rfl) (by kernel_rfl) (by kernel_rfl) (fun _ => by kernel_rfl) (fun _ _ _ h => h) hHeld ?_
        refine takeU (i := 7) (some 74) (.pointer (some ⟨w.heap.size + 1, 4, none⟩)) (by kernel_rfl) (by kernel_rfl) (by kernel_rfl) (by kernel_rfl) (by kernel_rfl) (fun _ => by kernel_rfl) (fun _ _ _ h => h) hHeld ?_
        refine wpAnyH_take (i := 8) (oi := { dst := some 75, op := Go.Op.load 3 (Go.Operand.tmp 74), type := 3, pos := "ref.go:294", after := #[{ on := 7, ground := Go.Ground.data }, { on := 4, ground := Go.Ground.guard }], guard := some (4, false) }) (v := .int .i64 s.d) rfl (by kernel_rfl) (by kernel_rfl) (by kernel_rfl) (fun _ _ _ h => h) (.inl ⟨by kernel_rfl, fun w9 h9 => by
          clear hHeld
          have d0 := (h9.cell (p := ⟨w.heap.size + 1, 4, none⟩) hzs).trans s4
          clear h9
          go_simp⟩) hHeld ?_
        refine takeU (i := 9) (some 76) (.int .i64 D) (by kernel_rfl) (by kernel_rfl) (by kernel_rfl) (by kernel_rfl) (by kernel_rfl) (fun _ => by kernel_rfl) (fun _ _ _ h => h) hHeld ?_
        refine takeU (i := 11) (some 78) (.pointer (some ⟨w.heap.size + 1, 2, none⟩)) (by kernel_rfl) (by kernel_rfl) (by kernel_rfl) (by kernel_rfl) (by kernel_rfl) (fun _ => by kernel_rfl) (fun _ _ _ h => h) hHeld ?_
        refine wpAnyH_take (i := 12) (oi := { dst := some 79, op := Go.Op.load 3 (Go.Operand.tmp 78), type := 3, pos := "ref.go:294", after := #[{ on := 11, ground := Go.Ground.data }, { on := 4, ground := Go.Ground.guard }], guard := some (4, false) }) (v := .int .i64 s.v) rfl (by kernel_rfl) (by kernel_rfl) (by kernel_rfl) (fun _ _ _ h => h) (.inl ⟨by kernel_rfl, fun w9 h9 => by
          clear hHeld
          have d0 := (h9.cell (p := ⟨w.heap.size + 1, 2, none⟩) hzs).trans s2
          clear h9
          go_simp⟩) hHeld ?_
        try simp only [Act.put, List.setIfInBounds_toArray, List.set_cons_zero, List.set_cons_succ]
        refine wpAnyH_ready (rs := [10]) (by kernel_rfl) (by simp) ?_
        refine AllReadyH.cons (o := { dst := some 77, op := Go.Op.call { callee := Go.Callee.value (Go.Operand.func 56), args := #[Go.Operand.tmp 72, Go.Operand.tmp 73, Go.Operand.tmp 75, Go.Operand.const (Go.Value.int Go.IntKind.i64 1), Go.Operand.tmp 76], argTypes := #[24, 25, 3, 3, 3] }, type := 3, pos := "ref.go:294", after := #[{ on := 5, ground := Go.Ground.data }, { on := 6, ground := Go.Ground.data }, { on := 8, ground := Go.Ground.data }, { on := 9, ground := Go.Ground.data }, { on := 4, ground := Go.Ground.chain }, { on := 4, ground := Go.Ground.guard }], guard := some (4, false) }) rfl (fun K hK => ?_) AllReadyH.nil
        go_simp
        go_at_call 56
        refine (HH.out _ (hb.trans (hHeld.mono hb.size))).mono ?_
        rintro e w109 ⟨rfl, hb109⟩
        refine hK.out _ _ (hHeld.trans (hb109.mono hHeld.size)) (fun hHeld => ?_)
        clear hK K hb109
        try simp only [Act.put, List.setIfInBounds_toArray, List.set_cons_zero, List.set_cons_succ]
        refine wpAnyH_take (i := 13) (oi := { dst := some 80, op := Go.Op.binOp Go.BinOp.neq 3 (Go.Operand.tmp 77) (Go.Operand.tmp 79) 3, type := 4, pos := "ref.go:294", after := #[{ on := 10, ground := Go.Ground.data }, { on := 12, ground := Go.Ground.data }, { on := 4, ground := Go.Ground.guard }], guard := some (4, false) }) (v := .bool false) rfl (by kernel_rfl) (by kernel_rfl) (by kernel_rfl) (fun _ _ _ h => h) (.inl ⟨by kernel_rfl, fun w9 h9 => by
          clear hHeld h9
          go_simp⟩) hHeld ?_
        refine takeU (i := 14) (some 81) (.bool false) (by kernel_rfl) (by kernel_rfl) (by kernel_rfl) (by kernel_rfl) (by kernel_rfl) (fun _ => by kernel_rfl) (fun _ _ _ h => h) hHeld ?_
        refine wpAnyH_done (by kernel_rfl) ?_ _
        try simp only [Act.put, List.setIfInBounds_toArray, List.set_cons_zero, List.set_cons_succ]
        have hb7 := hb.trans (hHeld.mono hb.size)
        clear hb
        go_wp2_with fail
        go_ret
        rw [HR.out]
        exact cod_nil rfl hb7
      · have HR : Hid (CV = 2) := Lib.hid (by rw [HC.out]; rw [if_neg h7, if_pos h6, if_pos (.inr hvv)])
        have d2 : (V != s.v) = true := by simp [hvv]
        clear hdl hvv
        clear h7 h6 HId HPrev HMi0 HC
        go_enter Tryz.func69, Tryz.ntmps69
        go_upto_region 2 with (fail)
        obtain ⟨wB, hwB⟩ : ∃ wB, (w.alloc (.cells #[.int .i64 L, .slice a js.length ca] 24)).alloc (.cells #[.int .i64 s.n, .int .i64 s.k, .int .i64 s.v, .int .i64 s.c, .int .i64 s.d, .int .i64 s.rk, .int .i64 s.up, .int .i64 s.dn, .slice ad s.cv.length cp] 34) = wB := ⟨_, rfl⟩
        have hb : Below w.heap.size w wB := by rw [← hwB]; exact ((Below.refl _ _).alloc (Nat.le_refl _) _).alloc (by simp) _
        have l0 : wB.cell? ⟨w.heap.size, 0, none⟩ = some (.int .i64 L) := by rw [← hwB]; simp [go_sem]
        have l1 : wB.cell? ⟨w.heap.size, 1, none⟩ = some (.slice a js.length ca) := by rw [← hwB]; simp [go_sem]
        have s0 : wB.cell? ⟨w.heap.size + 1, 0, none⟩ = some (.int .i64 s.n) := by rw [← hwB]; simp [go_sem]
        have s1 : wB.cell? ⟨w.heap.size + 1, 1, none⟩ = some (.int .i64 s.k) := by rw [← hwB]; simp [go_sem]
        have s2 : wB.cell? ⟨w.heap.size + 1, 2, none⟩ = some (.int .i64 s.v) := by rw [← hwB]; simp [go_sem]
        have s3 : wB.cell? ⟨w.heap.size + 1, 3, none⟩ = some (.int .i64 s.c) := by rw [← hwB]; simp [go_sem]
        have s4 : wB.cell? ⟨w.heap.size + 1, 4, none⟩ = some (.int .i64 s.d) := by rw [← hwB]; simp [go_sem]
        have s5 : wB.cell? ⟨w.heap.size + 1, 5, none⟩ = some (.int .i64 s.rk) := by rw [← hwB]; simp [go_sem]
        have s6 : wB.cell? ⟨w.heap.size + 1, 6, none⟩ = some (.int .i64 s.up) := by rw [← hwB]; simp [go_sem]
        have s7 : wB.cell? ⟨w.heap.size + 1, 7, none⟩ = some (.int .i64 s.dn) := by rw [← hwB]; simp [go_sem]
        have s8 : wB.cell? ⟨w.heap.size + 1, 8, none⟩ = some (.slice ad s.cv.length cp) := by rw [← hwB]; simp [go_sem]
        rw [hwB]
        clear hwB c0 c1 c2 c3 c4 c5 c6 c7 c8
        go_upto_region 10 with (go_at_call 91; refine (HD.out _).mono ?_; rintro e w2 ⟨rfl, hb2⟩; replace hb := hb.trans (hb2.mono hb.size); replace l0 := cell_below l0 hb2; replace l1 := cell_below l1 hb2; replace s0 := cell_below s0 hb2; replace s1 := cell_below s1 hb2; replace s2 := cell_below s2 hb2; replace s3 := cell_below s3 hb2; replace s4 := cell_below s4 hb2; replace s5 := cell_below s5 hb2; replace s6 := cell_below s6 hb2; replace s7 := cell_below s7 hb2; replace s8 := cell_below s8 hb2; clear hb2)
        have hzl := block_lt l0
        have hzs := block_lt s0
        refine wp_region_held_drew (S := fun w' => Below w2.heap.size w2 w') (by kernel_rfl) ((Below.refl _ _).drew) (fun hHeld => ?_)
        refine takeU (i := 0) (some 67) (.int .i64 D) (by kernel_rfl) (by kernel_rfl) (by kernel_rfl) (by kernel_rfl) (by kernel_rfl) (fun _ => by kernel_rfl) (fun _ _ _ h => h) hHeld ?_
        refine takeU (i := 1) (some 68) (.pointer (some ⟨w.heap.size, 0, none⟩)) (by kernel_rfl) (by kernel_rfl) (by kernel_rfl) (by kernel_rfl) (by kernel_rfl) (fun _ => by kernel_rfl) (fun _ _ _ h => h) hHeld ?_
        refine wpAnyH_take (i := 2) (oi := { dst := some 69, op := Go.Op.load 3 (Go.Operand.tmp 68), type := 3, pos := "ref.go:294", after := #[{ on := 1, ground := Go.Ground.data }], guard := none }) (v := .int .i64 L) rfl (by kernel_rfl) (by kernel_rfl) (by kernel_rfl) (fun _ _ _ h => h) (.inl ⟨by kernel_rfl, fun w9 h9 => by
          clear hHeld
          have d0 := (h9.cell (p := ⟨w.heap.size, 0, none⟩) hzl).trans l0
          clear h9
          go_simp⟩) hHeld ?_
        refine wpAnyH_take (i := 3) (oi := { dst := some 70, op := Go.Op.binOp Go.BinOp.eql 3 (Go.Operand.tmp 67) (Go.Operand.tmp 69) 3, type := 4, pos := "ref.go:294", after := #[{ on := 0, ground := Go.Ground.data }, { on := 2, ground := Go.Ground.data }], guard := none }) (v := .bool false) rfl (by kernel_rfl) (by kernel_rfl) (by kernel_rfl) (fun _ _ _ h => h) (.inl ⟨by kernel_rfl, fun w9 h9 => by
          clear hHeld h9
          go_simp⟩) hHeld ?_
        refine takeU (i := 4) (some 71) (.bool false) (by kernel_rfl) (by kernel_rfl) (by kernel_rfl) (by kernel_rfl) (by kernel_rfl) (fun _ => by kernel_rfl) (fun _ _ _ h => h) hHeld ?_
        refine wpAnyH_take (i := 5) (oi := { dst := some 72, op := Go.Op.load 24 (Go.Operand.tmp 3), type := 24, pos := "ref.go:294", after := #[{ on := 4, ground := Go.Ground.guard }], guard := some (4, false) }) (v := .agg #[.int .i64 L, .slice a js.length ca]) rfl (by kernel_rfl) (by kernel_rfl) (by kernel_rfl) (fun _ _ _ h => h) (.inl ⟨by kernel_rfl, fun w9 h9 => by
          clear hHeld
          have d0 := (h9.cell (p := ⟨w.heap.size, 0, none⟩) hzl).trans l0
          have d1 := (h9.cell (p := ⟨w.heap.size, 1, none⟩) hzl).trans l1
          clear h9
          go_simp⟩) hHeld ?_
        refine takeU (i := 6) (some 73) (.slice (some ⟨blk, off, none⟩) R.length cl) (by kernel_rfl) (by kernel_rfl) (by kernel_rfl) (by kernel_rfl) (by kernel_rfl) (fun _ => by kernel_rfl) (fun _ _ _ h => h) hHeld ?_
        refine takeU (i := 7) (some 74) (.pointer (some ⟨w.heap.size + 1, 4, none⟩)) (by kernel_rfl) (by kernel_rfl) (by kernel_rfl) (by kernel_rfl) (by kernel_rfl) (fun _ => by kernel_rfl) (fun _ _ _ h => h) hHeld ?_
        refine wpAnyH_take (i := 8) (oi := { dst := some 75, op := Go.Op.load 3 (Go.Operand.tmp 74), type := 3, pos := "ref.go:294", after := #[{ on := 7, ground := Go.Ground.data }, { on := 4, ground := Go.Ground.guard }], guard := some (4, false) }) (v := .int .i64 s.d) rfl (by kernel_rfl) (by kernel_rfl) (by kernel_rfl) (fun _ _ _ h => h) (.inl ⟨by kernel_rfl, fun w9 h9 => by
          clear hHeld
          have d0 := (h9.cell (p := ⟨w.heap.size + 1, 4, none⟩) hzs).trans s4
          clear h9
          go_simp⟩) hHeld ?_
        refine takeU (i := 9) (some 76) (.int .i64 D) (by kernel_rfl) (by kernel_rfl) (by kernel_rfl) (by kernel_rfl) (by kernel_rfl) (fun _ => by kernel_rfl) (fun _ _ _ h => h) hHeld ?_
        refine takeU (i := 11) (some 78) (.pointer (some ⟨w.heap.size + 1, 2, none⟩)) (by kernel_rfl) (by kernel_rfl) (by kernel_rfl) (by kernel_rfl) (by kernel_rfl) (fun _ => by kernel_rfl) (fun _ _ _ h => h) hHeld ?_
        refine wpAnyH_take (i := 12) (oi := { dst := some 79, op := Go.Op.load 3 (Go.Operand.tmp 78), type := 3, pos := "ref.go:294", after := #[{ on := 11, ground := Go.Ground.data }, { on := 4, ground := Go.Ground.guard }], guard := some (4, false) }) (v := .int .i64 s.v) rfl (by kernel_rfl) (by kernel_rfl) (by kernel_rfl) (fun _ _ _ h => h) (.inl ⟨by kernel_rfl, fun w9 h9 => by
          clear hHeld
          have d0 := (h9.cell (p := ⟨w.heap.size + 1, 2, none⟩) hzs).trans s2
          clear h9
          go_simp⟩) hHeld ?_
        try simp only [Act.put, List.setIfInBounds_toArray, List.set_cons_zero, List.set_cons_succ]
        refine wpAnyH_ready (rs := [10]) (by kernel_rfl) (by simp) ?_
        refine AllReadyH.cons (o := { dst := some 77, op := Go.Op.call { callee := Go.Callee.value (Go.Operand.func 56), args := #[Go.Operand.tmp 72, Go.Operand.tmp 73, Go.Operand.tmp 75, Go.Operand.const (Go.Value.int Go.IntKind.i64 1), Go.Operand.tmp 76], argTypes := #[24, 25, 3, 3, 3] }, type := 3, pos := "ref.go:294", after := #[{ on := 5, ground := Go.Ground.data }, { on := 6, ground := Go.Ground.data }, { on := 8, ground := Go.Ground.data }, { on := 9, ground := Go.Ground.data }, { on := 4, ground := Go.Ground.chain }, { on := 4, ground := Go.Ground.guard }], guard := some (4, false) }) rfl (fun K hK => ?_) AllReadyH.nil
        go_simp
        go_at_call 56
        refine (HH.out _ (hb.trans (hHeld.mono hb.size))).mono ?_
        rintro e w109 ⟨rfl, hb109⟩
        refine hK.out _ _ (hHeld.trans (hb109.mono hHeld.size)) (fun hHeld => ?_)
        clear hK K hb109
        try simp only [Act.put, List.setIfInBounds_toArray, List.set_cons_zero, List.set_cons_succ]
        refine wpAnyH_take (i := 13) (oi := { dst := some 80, op := Go.Op.binOp Go.BinOp.neq 3 (Go.Operand.tmp 77) (Go.Operand.tmp 79) 3, type := 4, pos := "ref.go:294", after := #[{ on := 10, ground := Go.Ground.data }, { on := 12, ground := Go.Ground.data }, { on := 4, ground := Go.Ground.guard }], guard := some (4, false) }) (v := .bool true) rfl (by kernel_rfl) (by kernel_rfl) (by kernel_rfl) (fun _ _ _ h => h) (.inl ⟨by kernel_rfl, fun w9 h9 => by
          clear hHeld h9
          go_simp⟩) hHeld ?_
        refine takeU (i := 14) (some 81) (.bool true) (by kernel_rfl) (by kernel_rfl) (by kernel_rfl) (by kernel_rfl) (by kernel_rfl) (fun _ => by kernel_rfl) (fun _ _ _ h => h) hHeld ?_
        refine wpAnyH_done (by kernel_rfl) ?_ _
        try simp only [Act.put, List.setIfInBounds_toArray, List.set_cons_zero, List.set_cons_succ]
        have hb7 := hb.trans (hHeld.mono hb.size)
        clear hb
        obtain ⟨w7, hw7⟩ : ∃ w7 : World, w109 = w7 := ⟨_, rfl⟩
        rw [hw7] at hb7 ⊢
        clear hw7
        go_wp2_with (at_builtin; go_loud (refine wpList_append_lies _ rfl _ _ 22 rfl w.heap.size 3 n0 _ 1 8 Tryz.underlying22 hi hz0 hz1 hz2 rfl (by decide) (.slice none 0 0) 0 [] (by rfl) ⟨rfl, .inl ⟨rfl, rfl⟩⟩ ⟨w7.heap.size, 0, none⟩ 1 1 [.int .i64 2] (by rfl) (by rfl) ?d1 ?d2 (by decide) ?d3 ?d4 ?d5 _ rfl ?_))
        case d1 =>
          refine World.news_of_block (cs := #[.int .i64 2]) (t := 3) (fr := (0, 0)) ?_
          exact heap_alloc_new _ _
        case d2 => simp [Value.oneCell']
        case d3 => unfold maxLen; omega
        case d4 => omega
        case d5 => have := hb7.size; first | (simp; omega) | simp | omega
        intro g6 c6 w6 hown6 hgrow6 hat6 hlt6
        have hb6 : Below w.heap.size w w6 := (hb7.alloc hb7.size _).grown hgrow6 (by have := hb7.size; first | (simp; omega) | simp | omega) (fun z hz => by cases hz)
        have HO6 := Lib.hid hown6
        clear hown6 hgrow6 hat6 hlt6
        go_wp2_with fail
        go_ret
        rw [HR.out]
        exact cod_one (by decide) (by unfold I64; omega) HO6.out hb6
  by_cases h2 : s.k = 2
  · have k7 : (s.k == 7) = false := beq_false_of_ne h7
    have k6 : (s.k == 6) = false := beq_false_of_ne h6
    have k2 : (s.k == 2) = true := by rw [h2]; rfl
    rcases Bool.eq_false_or_eq_true IDL with hid | hid
    · have HR : Hid (CV = 3) := Lib.hid (by rw [HC.out]; rw [if_neg h7, if_neg h6, if_pos (.inl h2), if_pos hid])
      subst hid
      clear h7 h6 h2 HC HH HPrev HMi0
      go_enter Tryz.func69, Tryz.ntmps69
      go_upto_region 2 with (fail)
      obtain ⟨wB, hwB⟩ : ∃ wB, (w.alloc (.cells #[.int .i64 L, .slice a js.length ca] 24)).alloc (.cells #[.int .i64 s.n, .int .i64 s.k, .int .i64 s.v, .int .i64 s.c, .int .i64 s.d, .int .i64 s.rk, .int .i64 s.up, .int .i64 s.dn, .slice ad s.cv.length cp] 34) = wB := ⟨_, rfl⟩
      have hb : Below w.heap.size w wB := by rw [← hwB]; exact ((Below.refl _ _).alloc (Nat.le_refl _) _).alloc (by simp) _
      have l0 : wB.cell? ⟨w.heap.size, 0, none⟩ = some (.int .i64 L) := by rw [← hwB]; simp [go_sem]
      have l1 : wB.cell? ⟨w.heap.size, 1, none⟩ = some (.slice a js.length ca) := by rw [← hwB]; simp [go_sem]
      have s0 : wB.cell? ⟨w.heap.size + 1, 0, none⟩ = some (.int .i64 s.n) := by rw [← hwB]; simp [go_sem]
      have s1 : wB.cell? ⟨w.heap.size + 1, 1, none⟩ = some (.int .i64 s.k) := by rw [← hwB]; simp [go_sem]
      have s2 : wB.cell? ⟨w.heap.size + 1, 2, none⟩ = some (.int .i64 s.v) := by rw [← hwB]; simp [go_sem]
      have s3 : wB.cell? ⟨w.heap.size + 1, 3, none⟩ = some (.int .i64 s.c) := by rw [← hwB]; simp [go_sem]
      have s4 : wB.cell? ⟨w.heap.size + 1, 4, none⟩ = some (.int .i64 s.d) := by rw [← hwB]; simp [go_sem]
      have s5 : wB.cell? ⟨w.heap.size + 1, 5, none⟩ = some (.int .i64 s.rk) := by rw [← hwB]; simp [go_sem]
      have s6 : wB.cell? ⟨w.heap.size + 1, 6, none⟩ = some (.int .i64 s.up) := by rw [← hwB]; simp [go_sem]
      have s7 : wB.cell? ⟨w.heap.size + 1, 7, none⟩ = some (.int .i64 s.dn) := by rw [← hwB]; simp [go_sem]
      have s8 : wB.cell? ⟨w.heap.size + 1, 8, none⟩ = some (.slice ad s.cv.length cp) := by rw [← hwB]; simp [go_sem]
      rw [hwB]
      clear hwB c0 c1 c2 c3 c4 c5 c6 c7 c8
      go_wp2_with (first | (go_at_call 91; refine (HD.out _).mono ?_; rintro e w2 ⟨rfl, hb2⟩; replace hb := hb.trans (hb2.mono hb.size); replace l0 := cell_below l0 hb2; replace l1 := cell_below l1 hb2; replace s0 := cell_below s0 hb2; replace s1 := cell_below s1 hb2; replace s2 := cell_below s2 hb2; replace s3 := cell_below s3 hb2; replace s4 := cell_below s4 hb2; replace s5 := cell_below s5 hb2; replace s6 := cell_below s6 hb2; replace s7 := cell_below s7 hb2; replace s8 := cell_below s8 hb2; clear hb2) | (go_at_call 104; refine (HId.out _ hb).mono ?_; rintro e w3 ⟨rfl, hb3⟩; replace hb := hb.trans (hb3.mono hb.size); clear hb3) | (at_builtin; go_loud (refine wpList_append_lies _ rfl _ _ 22 rfl w.heap.size 3 n0 _ 1 8 Tryz.underlying22 hi hz0 hz1 hz2 rfl (by decide) (.slice none 0 0) 0 [] (by rfl) ⟨rfl, .inl ⟨rfl, rfl⟩⟩ ⟨w3.heap.size, 0, none⟩ 1 1 [.int .i64 3] (by rfl) (by rfl) ?d1 ?d2 (by decide) ?d3 ?d4 ?d5 _ rfl ?_)))
      case d1 =>
        refine World.news_of_block (cs := #[.int .i64 3]) (t := 3) (fr := (0, 0)) ?_
        exact heap_alloc_new _ _
      case d2 => simp [Value.oneCell']
      case d3 => unfold maxLen; omega
      case d4 => omega
      case d5 => have := hb.size; first | (simp; omega) | simp | omega
      intro g6 c6 w6 hown6 hgrow6 hat6 hlt6
      have hb6 : Below w.heap.size w w6 := (hb.alloc hb.size _).grown hgrow6 (by have := hb.size; first | (simp; omega) | simp | omega) (fun z hz => by cases hz)
      have HO6 := Lib.hid hown6
      clear hown6 hgrow6 hat6 hlt6
      go_wp2_with fail
      go_ret
      rw [HR.out]
      exact cod_one (by decide) (by unfold I64; omega) HO6.out hb6
    · have HR : Hid (CV = 0) := Lib.hid (by rw [HC.out]; rw [if_neg h7, if_neg h6, if_pos (.inl h2), if_neg (by rw [hid]; simp)])
      subst hid
      clear h7 h6 h2 HC HH HPrev HMi0
      go_enter Tryz.func69, Tryz.ntmps69
      go_upto_region 2 with (fail)
      obtain ⟨wB, hwB⟩ : ∃ wB, (w.alloc (.cells #[.int .i64 L, .slice a js.length ca] 24)).alloc (.cells #[.int .i64 s.n, .int .i64 s.k, .int .i64 s.v, .int .i64 s.c, .int .i64 s.d, .int .i64 s.rk, .int .i64 s.up, .int .i64 s.dn, .slice ad s.cv.length cp] 34) = wB := ⟨_, rfl⟩
      have hb : Below w.heap.size w wB := by rw [← hwB]; exact ((Below.refl _ _).alloc (Nat.le_refl _) _).alloc (by simp) _
      have l0 : wB.cell? ⟨w.heap.size, 0, none⟩ = some (.int .i64 L) := by rw [← hwB]; simp [go_sem]
      have l1 : wB.cell? ⟨w.heap.size, 1, none⟩ = some (.slice a js.length ca) := by rw [← hwB]; simp [go_sem]
      have s0 : wB.cell? ⟨w.heap.size + 1, 0, none⟩ = some (.int .i64 s.n) := by rw [← hwB]; simp [go_sem]
      have s1 : wB.cell? ⟨w.heap.size + 1, 1, none⟩ = some (.int .i64 s.k) := by rw [← hwB]; simp [go_sem]
      have s2 : wB.cell? ⟨w.heap.size + 1, 2, none⟩ = some (.int .i64 s.v) := by rw [← hwB]; simp [go_sem]
      have s3 : wB.cell? ⟨w.heap.size + 1, 3, none⟩ = some (.int .i64 s.c) := by rw [← hwB]; simp [go_sem]
      have s4 : wB.cell? ⟨w.heap.size + 1, 4, none⟩ = some (.int .i64 s.d) := by rw [← hwB]; simp [go_sem]
      have s5 : wB.cell? ⟨w.heap.size + 1, 5, none⟩ = some (.int .i64 s.rk) := by rw [← hwB]; simp [go_sem]
      have s6 : wB.cell? ⟨w.heap.size + 1, 6, none⟩ = some (.int .i64 s.up) := by rw [← hwB]; simp [go_sem]
      have s7 : wB.cell? ⟨w.heap.size + 1, 7, none⟩ = some (.int .i64 s.dn) := by rw [← hwB]; simp [go_sem]
      have s8 : wB.cell? ⟨w.heap.size + 1, 8, none⟩ = some (.slice ad s.cv.length cp) := by rw [← hwB]; simp [go_sem]
      rw [hwB]
      clear hwB c0 c1 c2 c3 c4 c5 c6 c7 c8
      go_wp2_with (first | (go_at_call 91; refine (HD.out _).mono ?_; rintro e w2 ⟨rfl, hb2⟩; replace hb := hb.trans (hb2.mono hb.size); replace l0 := cell_below l0 hb2; replace l1 := cell_below l1 hb2; replace s0 := cell_below s0 hb2; replace s1 := cell_below s1 hb2; replace s2 := cell_below s2 hb2; replace s3 := cell_below s3 hb2; replace s4 := cell_below s4 hb2; replace s5 := cell_below s5 hb2; replace s6 := cell_below s6 hb2; replace s7 := cell_below s7 hb2; replace s8 := cell_below s8 hb2; clear hb2) | (go_at_call 104; refine (HId.out _ hb).mono ?_; rintro e w3 ⟨rfl, hb3⟩; replace hb := hb.trans (hb3.mono hb.size); clear hb3))
      go_ret
      rw [HR.out]
      exact cod_nil rfl hb
  by_cases h4 : s.k = 4
  · have k7 : (s.k == 7) = false := beq_false_of_ne h7
    have k6 : (s.k == 6) = false := beq_false_of_ne h6
    have k2 : (s.k == 2) = false := beq_false_of_ne h2
    have k4 : (s.k == 4) = true := by rw [h4]; rfl
    rcases Bool.eq_false_or_eq_true IDL with hid | hid
    · have HR : Hid (CV = 3) := Lib.hid (by rw [HC.out]; rw [if_neg h7, if_neg h6, if_pos (.inr (.inl h4)), if_pos hid])
      subst hid
      clear h7 h6 h2 h4 HC HH HPrev HMi0
      go_enter Tryz.func69, Tryz.ntmps69
      go_upto_region 2 with (fail)
      obtain ⟨wB, hwB⟩ : ∃ wB, (w.alloc (.cells #[.int .i64 L, .slice a js.length ca] 24)).alloc (.cells #[.int .i64 s.n, .int .i64 s.k, .int .i64 s.v, .int .i64 s.c, .int .i64 s.d, .int .i64 s.rk, .int .i64 s.up, .int .i64 s.dn, .slice ad s.cv.length cp] 34) = wB := ⟨_, rfl⟩
      have hb : Below w.heap.size w wB := by rw [← hwB]; exact ((Below.refl _ _).alloc (Nat.le_refl _) _).alloc (by simp) _
      have l0 : wB.cell? ⟨w.heap.size, 0, none⟩ = some (.int .i64 L) := by rw [← hwB]; simp [go_sem]
      have l1 : wB.cell? ⟨w.heap.size, 1, none⟩ = some (.slice a js.length ca) := by rw [← hwB]; simp [go_sem]
      have s0 : wB.cell? ⟨w.heap.size + 1, 0, none⟩ = some (.int .i64 s.n) := by rw [← hwB]; simp [go_sem]
      have s1 : wB.cell? ⟨w.heap.size + 1, 1, none⟩ = some (.int .i64 s.k) := by rw [← hwB]; simp [go_sem]
      have s2 : wB.cell? ⟨w.heap.size + 1, 2, none⟩ = some (.int .i64 s.v) := by rw [← hwB]; simp [go_sem]
      have s3 : wB.cell? ⟨w.heap.size + 1, 3, none⟩ = some (.int .i64 s.c) := by rw [← hwB]; simp [go_sem]
      have s4 : wB.cell? ⟨w.heap.size + 1, 4, none⟩ = some (.int .i64 s.d) := by rw [← hwB]; simp [go_sem]
      have s5 : wB.cell? ⟨w.heap.size + 1, 5, none⟩ = some (.int .i64 s.rk) := by rw [← hwB]; simp [go_sem]
      have s6 : wB.cell? ⟨w.heap.size + 1, 6, none⟩ = some (.int .i64 s.up) := by rw [← hwB]; simp [go_sem]
      have s7 : wB.cell? ⟨w.heap.size + 1, 7, none⟩ = some (.int .i64 s.dn) := by rw [← hwB]; simp [go_sem]
      have s8 : wB.cell? ⟨w.heap.size + 1, 8, none⟩ = some (.slice ad s.cv.length cp) := by rw [← hwB]; simp [go_sem]
      rw [hwB]
      clear hwB c0 c1 c2 c3 c4 c5 c6 c7 c8
      go_wp2_with (first | (go_at_call 91; refine (HD.out _).mono ?_; rintro e w2 ⟨rfl, hb2⟩; replace hb := hb.trans (hb2.mono hb.size); replace l0 := cell_below l0 hb2; replace l1 := cell_below l1 hb2; replace s0 := cell_below s0 hb2; replace s1 := cell_below s1 hb2; replace s2 := cell_below s2 hb2; replace s3 := cell_below s3 hb2; replace s4 := cell_below s4 hb2; replace s5 := cell_below s5 hb2; replace s6 := cell_below s6 hb2; replace s7 := cell_below s7 hb2; replace s8 := cell_below s8 hb2; clear hb2) | (go_at_call 104; refine (HId.out _ hb).mono ?_; rintro e w3 ⟨rfl, hb3⟩; replace hb := hb.trans (hb3.mono hb.size); clear hb3) | (at_builtin; go_loud (refine wpList_append_lies _ rfl _ _ 22 rfl w.heap.size 3 n0 _ 1 8 Tryz.underlying22 hi hz0 hz1 hz2 rfl (by decide) (.slice none 0 0) 0 [] (by rfl) ⟨rfl, .inl ⟨rfl, rfl⟩⟩ ⟨w3.heap.size, 0, none⟩ 1 1 [.int .i64 3] (by rfl) (by rfl) ?d1 ?d2 (by decide) ?d3 ?d4 ?d5 _ rfl ?_)))
      case d1 =>
        refine World.news_of_block (cs := #[.int .i64 3]) (t := 3) (fr := (0, 0)) ?_
        exact heap_alloc_new _ _
      case d2 => simp [Value.oneCell']
      case d3 => unfold maxLen; omega
      case d4 => omega
      case d5 => have := hb.size; first | (simp; omega) | simp | omega
      intro g6 c6 w6 hown6 hgrow6 hat6 hlt6
      have hb6 : Below w.heap.size w w6 := (hb.alloc hb.size _).grown hgrow6 (by have := hb.size; first | (simp; omega) | simp | omega) (fun z hz => by cases hz)
      have HO6 := Lib.hid hown6
      clear hown6 hgrow6 hat6 hlt6
      go_wp2_with fail
      go_ret
      rw [HR.out]
      exact cod_one (by decide) (by unfold I64; omega) HO6.out hb6
    · have HR : Hid (CV = 0) := Lib.hid (by rw [HC.out]; rw [if_neg h7, if_neg h6, if_pos (.inr (.inl h4)), if_neg (by rw [hid]; simp)])
      subst hid
      clear h7 h6 h2 h4 HC HH HPrev HMi0
      go_enter Tryz.func69, Tryz.ntmps69
      go_upto_region 2 with (fail)
      obtain ⟨wB, hwB⟩ : ∃ wB, (w.alloc (.cells #[.int .i64 L, .slice a js.length ca] 24)).alloc (.cells #[.int .i64 s.n, .int .i64 s.k, .int .i64 s.v, .int .i64 s.c, .int .i64 s.d, .int .i64 s.rk, .int .i64 s.up, .int .i64 s.dn, .slice ad s.cv.length cp] 34) = wB := ⟨_, rfl⟩
      have hb : Below w.heap.size w wB := by rw [← hwB]; exact ((Below.refl _ _).alloc (Nat.le_refl _) _).alloc (by simp) _
      have l0 : wB.cell? ⟨w.heap.size, 0, none⟩ = some (.int .i64 L) := by rw [← hwB]; simp [go_sem]
      have l1 : wB.cell? ⟨w.heap.size, 1, none⟩ = some (.slice a js.length ca) := by rw [← hwB]; simp [go_sem]
      have s0 : wB.cell? ⟨w.heap.size + 1, 0, none⟩ = some (.int .i64 s.n) := by rw [← hwB]; simp [go_sem]
      have s1 : wB.cell? ⟨w.heap.size + 1, 1, none⟩ = some (.int .i64 s.k) := by rw [← hwB]; simp [go_sem]
      have s2 : wB.cell? ⟨w.heap.size + 1, 2, none⟩ = some (.int .i64 s.v) := by rw [← hwB]; simp [go_sem]
      have s3 : wB.cell? ⟨w.heap.size + 1, 3, none⟩ = some (.int .i64 s.c) := by rw [← hwB]; simp [go_sem]
      have s4 : wB.cell? ⟨w.heap.size + 1, 4, none⟩ = some (.int .i64 s.d) := by rw [← hwB]; simp [go_sem]
      have s5 : wB.cell? ⟨w.heap.size + 1, 5, none⟩ = some (.int .i64 s.rk) := by rw [← hwB]; simp [go_sem]
      have s6 : wB.cell? ⟨w.heap.size + 1, 6, none⟩ = some (.int .i64 s.up) := by rw [← hwB]; simp [go_sem]
      have s7 : wB.cell? ⟨w.heap.size + 1, 7, none⟩ = some (.int .i64 s.dn) := by rw [← hwB]; simp [go_sem]
      have s8 : wB.cell? ⟨w.heap.size + 1, 8, none⟩ = some (.slice ad s.cv.length cp) := by rw [← hwB]; simp [go_sem]
      rw [hwB]
      clear hwB c0 c1 c2 c3 c4 c5 c6 c7 c8
      go_wp2_with (first | (go_at_call 91; refine (HD.out _).mono ?_; rintro e w2 ⟨rfl, hb2⟩; replace hb := hb.trans (hb2.mono hb.size); replace l0 := cell_below l0 hb2; replace l1 := cell_below l1 hb2; replace s0 := cell_below s0 hb2; replace s1 := cell_below s1 hb2; replace s2 := cell_below s2 hb2; replace s3 := cell_below s3 hb2; replace s4 := cell_below s4 hb2; replace s5 := cell_below s5 hb2; replace s6 := cell_below s6 hb2; replace s7 := cell_below s7 hb2; replace s8 := cell_below s8 hb2; clear hb2) | (go_at_call 104; refine (HId.out _ hb).mono ?_; rintro e w3 ⟨rfl, hb3⟩; replace hb := hb.trans (hb3.mono hb.size); clear hb3))
      go_ret
      rw [HR.out]
      exact cod_nil rfl hb
  by_cases h5 : s.k = 5
  · have k7 : (s.k == 7) = false := beq_false_of_ne h7
    have k6 : (s.k == 6) = false := beq_false_of_ne h6
    have k2 : (s.k == 2) = false := beq_false_of_ne h2
    have k4 : (s.k == 4) = false := beq_false_of_ne h4
    have k5 : (s.k == 5) = true := by rw [h5]; rfl
    rcases Bool.eq_false_or_eq_true IDL with hid | hid
    · have HR : Hid (CV = 3) := Lib.hid (by rw [HC.out]; rw [if_neg h7, if_neg h6, if_pos (.inr (.inr h5)), if_pos hid])
      subst hid
      clear h7 h6 h2 h4 h5 HC HH HPrev HMi0
      go_enter Tryz.func69, Tryz.ntmps69
      go_upto_region 2 with (fail)
      obtain ⟨wB, hwB⟩ : ∃ wB, (w.alloc (.cells #[.int .i64 L, .slice a js.length ca] 24)).alloc (.cells #[.int .i64 s.n, .int .i64 s.k, .int .i64 s.v, .int .i64 s.c, .int .i64 s.d, .int .i64 s.rk, .int .i64 s.up, .int .i64 s.dn, .slice ad s.cv.length cp] 34) = wB := ⟨_, rfl⟩
      have hb : Below w.heap.size w wB := by rw [← hwB]; exact ((Below.refl _ _).alloc (Nat.le_refl _) _).alloc (by simp) _
      have l0 : wB.cell? ⟨w.heap.size, 0, none⟩ = some (.int .i64 L) := by rw [← hwB]; simp [go_sem]
      have l1 : wB.cell? ⟨w.heap.size, 1, none⟩ = some (.slice a js.length ca) := by rw [← hwB]; simp [go_sem]
      have s0 : wB.cell? ⟨w.heap.size + 1, 0, none⟩ = some (.int .i64 s.n) := by rw [← hwB]; simp [go_sem]
      have s1 : wB.cell? ⟨w.heap.size + 1, 1, none⟩ = some (.int .i64 s.k) := by rw [← hwB]; simp [go_sem]
      have s2 : wB.cell? ⟨w.heap.size + 1, 2, none⟩ = some (.int .i64 s.v) := by rw [← hwB]; simp [go_sem]
      have s3 : wB.cell? ⟨w.heap.size + 1, 3, none⟩ = some (.int .i64 s.c) := by rw [← hwB]; simp [go_sem]
      have s4 : wB.cell? ⟨w.heap.size + 1, 4, none⟩ = some (.int .i64 s.d) := by rw [← hwB]; simp [go_sem]
      have s5 : wB.cell? ⟨w.heap.size + 1, 5, none⟩ = some (.int .i64 s.rk) := by rw [← hwB]; simp [go_sem]
      have s6 : wB.cell? ⟨w.heap.size + 1, 6, none⟩ = some (.int .i64 s.up) := by rw [← hwB]; simp [go_sem]
      have s7 : wB.cell? ⟨w.heap.size + 1, 7, none⟩ = some (.int .i64 s.dn) := by rw [← hwB]; simp [go_sem]
      have s8 : wB.cell? ⟨w.heap.size + 1, 8, none⟩ = some (.slice ad s.cv.length cp) := by rw [← hwB]; simp [go_sem]
      rw [hwB]
      clear hwB c0 c1 c2 c3 c4 c5 c6 c7 c8
      go_wp2_with (first | (go_at_call 91; refine (HD.out _).mono ?_; rintro e w2 ⟨rfl, hb2⟩; replace hb := hb.trans (hb2.mono hb.size); replace l0 := cell_below l0 hb2; replace l1 := cell_below l1 hb2; replace s0 := cell_below s0 hb2; replace s1 := cell_below s1 hb2; replace s2 := cell_below s2 hb2; replace s3 := cell_below s3 hb2; replace s4 := cell_below s4 hb2; replace s5 := cell_below s5 hb2; replace s6 := cell_below s6 hb2; replace s7 := cell_below s7 hb2; replace s8 := cell_below s8 hb2; clear hb2) | (go_at_call 104; refine (HId.out _ hb).mono ?_; rintro e w3 ⟨rfl, hb3⟩; replace hb := hb.trans (hb3.mono hb.size); clear hb3) | (at_builtin; go_loud (refine wpList_append_lies _ rfl _ _ 22 rfl w.heap.size 3 n0 _ 1 8 Tryz.underlying22 hi hz0 hz1 hz2 rfl (by decide) (.slice none 0 0) 0 [] (by rfl) ⟨rfl, .inl ⟨rfl, rfl⟩⟩ ⟨w3.heap.size, 0, none⟩ 1 1 [.int .i64 3] (by rfl) (by rfl) ?d1 ?d2 (by decide) ?d3 ?d4 ?d5 _ rfl ?_)))
      case d1 =>
        refine World.news_of_block (cs := #[.int .i64 3]) (t := 3) (fr := (0, 0)) ?_
        exact heap_alloc_new _ _
      case d2 => simp [Value.oneCell']
      case d3 => unfold maxLen; omega
      case d4 => omega
      case d5 => have := hb.size; first | (simp; omega) | simp | omega
      intro g6 c6 w6 hown6 hgrow6 hat6 hlt6
      have hb6 : Below w.heap.size w w6 := (hb.alloc hb.size _).grown hgrow6 (by have := hb.size; first | (simp; omega) | simp | omega) (fun z hz => by cases hz)
      have HO6 := Lib.hid hown6
      clear hown6 hgrow6 hat6 hlt6
      go_wp2_with fail
      go_ret
      rw [HR.out]
      exact cod_one (by decide) (by unfold I64; omega) HO6.out hb6
    · have HR : Hid (CV = 0) := Lib.hid (by rw [HC.out]; rw [if_neg h7, if_neg h6, if_pos (.inr (.inr h5)), if_neg (by rw [hid]; simp)])
      subst hid
      clear h7 h6 h2 h4 h5 HC HH HPrev HMi0
      go_enter Tryz.func69, Tryz.ntmps69
      go_upto_region 2 with (fail)
      obtain ⟨wB, hwB⟩ : ∃ wB, (w.alloc (.cells #[.int .i64 L, .slice a js.length ca] 24)).alloc (.cells #[.int .i64 s.n, .int .i64 s.k, .int .i64 s.v, .int .i64 s.c, .int .i64 s.d, .int .i64 s.rk, .int .i64 s.up, .int .i64 s.dn, .slice ad s.cv.length cp] 34) = wB := ⟨_, rfl⟩
      have hb : Below w.heap.size w wB := by rw [← hwB]; exact ((Below.refl _ _).alloc (Nat.le_refl _) _).alloc (by simp) _
      have l0 : wB.cell? ⟨w.heap.size, 0, none⟩ = some (.int .i64 L) := by rw [← hwB]; simp [go_sem]
      have l1 : wB.cell? ⟨w.heap.size, 1, none⟩ = some (.slice a js.length ca) := by rw [← hwB]; simp [go_sem]
      have s0 : wB.cell? ⟨w.heap.size + 1, 0, none⟩ = some (.int .i64 s.n) := by rw [← hwB]; simp [go_sem]
      have s1 : wB.cell? ⟨w.heap.size + 1, 1, none⟩ = some (.int .i64 s.k) := by rw [← hwB]; simp [go_sem]
      have s2 : wB.cell? ⟨w.heap.size + 1, 2, none⟩ = some (.int .i64 s.v) := by rw [← hwB]; simp [go_sem]
      have s3 : wB.cell? ⟨w.heap.size + 1, 3, none⟩ = some (.int .i64 s.c) := by rw [← hwB]; simp [go_sem]
      have s4 : wB.cell? ⟨w.heap.size + 1, 4, none⟩ = some (.int .i64 s.d) := by rw [← hwB]; simp [go_sem]
      have s5 : wB.cell? ⟨w.heap.size + 1, 5, none⟩ = some (.int .i64 s.rk) := by rw [← hwB]; simp [go_sem]
      have s6 : wB.cell? ⟨w.heap.size + 1, 6, none⟩ = some (.int .i64 s.up) := by rw [← hwB]; simp [go_sem]
      have s7 : wB.cell? ⟨w.heap.size + 1, 7, none⟩ = some (.int .i64 s.dn) := by rw [← hwB]; simp [go_sem]
      have s8 : wB.cell? ⟨w.heap.size + 1, 8, none⟩ = some (.slice ad s.cv.length cp) := by rw [← hwB]; simp [go_sem]
      rw [hwB]
      clear hwB c0 c1 c2 c3 c4 c5 c6 c7 c8
      go_wp2_with (first | (go_at_call 91; refine (HD.out _).mono ?_; rintro e w2 ⟨rfl, hb2⟩; replace hb := hb.trans (hb2.mono hb.size); replace l0 := cell_below l0 hb2; replace l1 := cell_below l1 hb2; replace s0 := cell_below s0 hb2; replace s1 := cell_below s1 hb2; replace s2 := cell_below s2 hb2; replace s3 := cell_below s3 hb2; replace s4 := cell_below s4 hb2; replace s5 := cell_below s5 hb2; replace s6 := cell_below s6 hb2; replace s7 := cell_below s7 hb2; replace s8 := cell_below s8 hb2; clear hb2) | (go_at_call 104; refine (HId.out _ hb).mono ?_; rintro e w3 ⟨rfl, hb3⟩; replace hb := hb.trans (hb3.mono hb.size); clear hb3))
      go_ret
      rw [HR.out]
      exact cod_nil rfl hb
  by_cases h1 : s.k = 1
  · have k7 : (s.k == 7) = false := beq_false_of_ne h7
    have k6 : (s.k == 6) = false := beq_false_of_ne h6
    have k2 : (s.k == 2) = false := beq_false_of_ne h2
    have k4 : (s.k == 4) = false := beq_false_of_ne h4
    have k5 : (s.k == 5) = false := beq_false_of_ne h5
    have k1 : (s.k == 1) = true := by rw [h1]; rfl
    by_cases hdl : D = L
    · have HR : Hid (CV = 4) := Lib.hid (by rw [HC.out]; rw [if_neg h7, if_neg h6, if_neg (by omega), if_pos (.inl h1), if_pos hdl])
      have dd : (D == L) = true := by rw [hdl]; simp
      clear h7 h6 h2 h4 h5 h1 hdl HC HH HId HPrev HMi0
      go_enter Tryz.func69, Tryz.ntmps69
      go_upto_region 2 with (fail)
      obtain ⟨wB, hwB⟩ : ∃ wB, (w.alloc (.cells #[.int .i64 L, .slice a js.length ca] 24)).alloc (.cells #[.int .i64 s.n, .int .i64 s.k, .int .i64 s.v, .int .i64 s.c, .int .i64 s.d, .int .i64 s.rk, .int .i64 s.up, .int .i64 s.dn, .slice ad s.cv.length cp] 34) = wB := ⟨_, rfl⟩
      have hb : Below w.heap.size w wB := by rw [← hwB]; exact ((Below.refl _ _).alloc (Nat.le_refl _) _).alloc (by simp) _
      have l0 : wB.cell? ⟨w.heap.size, 0, none⟩ = some (.int .i64 L) := by rw [← hwB]; simp [go_sem]
      have l1 : wB.cell? ⟨w.heap.size, 1, none⟩ = some (.slice a js.length ca) := by rw [← hwB]; simp [go_sem]
      have s0 : wB.cell? ⟨w.heap.size + 1, 0, none⟩ = some (.int .i64 s.n) := by rw [← hwB]; simp [go_sem]
      have s1 : wB.cell? ⟨w.heap.size + 1, 1, none⟩ = some (.int .i64 s.k) := by rw [← hwB]; simp [go_sem]
      have s2 : wB.cell? ⟨w.heap.size + 1, 2, none⟩ = some (.int .i64 s.v) := by rw [← hwB]; simp [go_sem]
      have s3 : wB.cell? ⟨w.heap.size + 1, 3, none⟩ = some (.int .i64 s.c) := by rw [← hwB]; simp [go_sem]
      have s4 : wB.cell? ⟨w.heap.size + 1, 4, none⟩ = some (.int .i64 s.d) := by rw [← hwB]; simp [go_sem]
      have s5 : wB.cell? ⟨w.heap.size + 1, 5, none⟩ = some (.int .i64 s.rk) := by rw [← hwB]; simp [go_sem]
      have s6 : wB.cell? ⟨w.heap.size + 1, 6, none⟩ = some (.int .i64 s.up) := by rw [← hwB]; simp [go_sem]
      have s7 : wB.cell? ⟨w.heap.size + 1, 7, none⟩ = some (.int .i64 s.dn) := by rw [← hwB]; simp [go_sem]
      have s8 : wB.cell? ⟨w.heap.size + 1, 8, none⟩ = some (.slice ad s.cv.length cp) := by rw [← hwB]; simp [go_sem]
      rw [hwB]
      clear hwB c0 c1 c2 c3 c4 c5 c6 c7 c8
      go_wp2_with (first | (go_at_call 91; refine (HD.out _).mono ?_; rintro e w2 ⟨rfl, hb2⟩; replace hb := hb.trans (hb2.mono hb.size); replace l0 := cell_below l0 hb2; replace l1 := cell_below l1 hb2; replace s0 := cell_below s0 hb2; replace s1 := cell_below s1 hb2; replace s2 := cell_below s2 hb2; replace s3 := cell_below s3 hb2; replace s4 := cell_below s4 hb2; replace s5 := cell_below s5 hb2; replace s6 := cell_below s6 hb2; replace s7 := cell_below s7 hb2; replace s8 := cell_below s8 hb2; clear hb2) | (at_builtin; go_loud (refine wpList_append_lies _ rfl _ _ 22 rfl w.heap.size 3 n0 _ 1 8 Tryz.underlying22 hi hz0 hz1 hz2 rfl (by decide) (.slice none 0 0) 0 [] (by rfl) ⟨rfl, .inl ⟨rfl, rfl⟩⟩ ⟨w2.heap.size, 0, none⟩ 1 1 [.int .i64 4] (by rfl) (by rfl) ?d1 ?d2 (by decide) ?d3 ?d4 ?d5 _ rfl ?_)))
      case d1 =>
        refine World.news_of_block (cs := #[.int .i64 4]) (t := 3) (fr := (0, 0)) ?_
        exact heap_alloc_new _ _
      case d2 => simp [Value.oneCell']
      case d3 => unfold maxLen; omega
      case d4 => omega
      case d5 => have := hb.size; first | (simp; omega) | simp | omega
      intro g6 c6 w6 hown6 hgrow6 hat6 hlt6
      have hb6 : Below w.heap.size w w6 := (hb.alloc hb.size _).grown hgrow6 (by have := hb.size; first | (simp; omega) | simp | omega) (fun z hz => by cases hz)
      have HO6 := Lib.hid hown6
      clear hown6 hgrow6 hat6 hlt6
      go_wp2_with fail
      go_ret
      rw [HR.out]
      exact cod_one (by decide) (by unfold I64; omega) HO6.out hb6
    · have HR : Hid (CV = 0) := Lib.hid (by rw [HC.out]; rw [if_neg h7, if_neg h6, if_neg (by omega), if_pos (.inl h1), if_neg hdl])
      have dd : (D == L) = false := beq_false_of_ne hdl
      clear h7 h6 h2 h4 h5 h1 hdl HC HH HId HPrev HMi0
      go_enter Tryz.func69, Tryz.ntmps69
      go_upto_region 2 with (fail)
      obtain ⟨wB, hwB⟩ : ∃ wB, (w.alloc (.cells #[.int .i64 L, .slice a js.length ca] 24)).alloc (.cells #[.int .i64 s.n, .int .i64 s.k, .int .i64 s.v, .int .i64 s.c, .int .i64 s.d, .int .i64 s.rk, .int .i64 s.up, .int .i64 s.dn, .slice ad s.cv.length cp] 34) = wB := ⟨_, rfl⟩
      have hb : Below w.heap.size w wB := by rw [← hwB]; exact ((Below.refl _ _).alloc (Nat.le_refl _) _).alloc (by simp) _
      have l0 : wB.cell? ⟨w.heap.size, 0, none⟩ = some (.int .i64 L) := by rw [← hwB]; simp [go_sem]
      have l1 : wB.cell? ⟨w.heap.size, 1, none⟩ = some (.slice a js.length ca) := by rw [← hwB]; simp [go_sem]
      have s0 : wB.cell? ⟨w.heap.size + 1, 0, none⟩ = some (.int .i64 s.n) := by rw [← hwB]; simp [go_sem]
      have s1 : wB.cell? ⟨w.heap.size + 1, 1, none⟩ = some (.int .i64 s.k) := by rw [← hwB]; simp [go_sem]
      have s2 : wB.cell? ⟨w.heap.size + 1, 2, none⟩ = some (.int .i64 s.v) := by rw [← hwB]; simp [go_sem]
      have s3 : wB.cell? ⟨w.heap.size + 1, 3, none⟩ = some (.int .i64 s.c) := by rw [← hwB]; simp [go_sem]
      have s4 : wB.cell? ⟨w.heap.size + 1, 4, none⟩ = some (.int .i64 s.d) := by rw [← hwB]; simp [go_sem]
      have s5 : wB.cell? ⟨w.heap.size + 1, 5, none⟩ = some (.int .i64 s.rk) := by rw [← hwB]; simp [go_sem]
      have s6 : wB.cell? ⟨w.heap.size + 1, 6, none⟩ = some (.int .i64 s.up) := by rw [← hwB]; simp [go_sem]
      have s7 : wB.cell? ⟨w.heap.size + 1, 7, none⟩ = some (.int .i64 s.dn) := by rw [← hwB]; simp [go_sem]
      have s8 : wB.cell? ⟨w.heap.size + 1, 8, none⟩ = some (.slice ad s.cv.length cp) := by rw [← hwB]; simp [go_sem]
      rw [hwB]
      clear hwB c0 c1 c2 c3 c4 c5 c6 c7 c8
      go_wp2_with (go_at_call 91; refine (HD.out _).mono ?_; rintro e w2 ⟨rfl, hb2⟩; replace hb := hb.trans (hb2.mono hb.size); replace l0 := cell_below l0 hb2; replace l1 := cell_below l1 hb2; replace s0 := cell_below s0 hb2; replace s1 := cell_below s1 hb2; replace s2 := cell_below s2 hb2; replace s3 := cell_below s3 hb2; replace s4 := cell_below s4 hb2; replace s5 := cell_below s5 hb2; replace s6 := cell_below s6 hb2; replace s7 := cell_below s7 hb2; replace s8 := cell_below s8 hb2; clear hb2)
      go_ret
      rw [HR.out]
      exact cod_nil rfl hb
  by_cases h3 : s.k = 3
  · have k7 : (s.k == 7) = false := beq_false_of_ne h7
    have k6 : (s.k == 6) = false := beq_false_of_ne h6
    have k2 : (s.k == 2) = false := beq_false_of_ne h2
    have k4 : (s.k == 4) = false := beq_false_of_ne h4
    have k5 : (s.k == 5) = false := beq_false_of_ne h5
    have k1 : (s.k == 1) = false := beq_false_of_ne h1
    have k3 : (s.k == 3) = true := by rw [h3]; rfl
    by_cases hdl : D = L
    · have HR : Hid (CV = 4) := Lib.hid (by rw [HC.out]; rw [if_neg h7, if_neg h6, if_neg (by omega), if_pos (.inr h3), if_pos hdl])
      have dd : (D == L) = true := by rw [hdl]; simp
      clear h7 h6 h2 h4 h5 h1 h3 hdl HC HH HId HPrev HMi0
      go_enter Tryz.func69, Tryz.ntmps69
      go_upto_region 2 with (fail)
      obtain ⟨wB, hwB⟩ : ∃ wB, (w.alloc (.cells #[.int .i64 L, .slice a js.length ca] 24)).alloc (.cells #[.int .i64 s.n, .int .i64 s.k, .int .i64 s.v, .int .i64 s.c, .int .i64 s.d, .int .i64 s.rk, .int .i64 s.up, .int .i64 s.dn, .slice ad s.cv.length cp] 34) = wB := ⟨_, rfl⟩
      have hb : Below w.heap.size w wB := by rw [← hwB]; exact ((Below.refl _ _).alloc (Nat.le_refl _) _).alloc (by simp) _
      have l0 : wB.cell? ⟨w.heap.size, 0, none⟩ = some (.int .i64 L) := by rw [← hwB]; simp [go_sem]
      have l1 : wB.cell? ⟨w.heap.size, 1, none⟩ = some (.slice a js.length ca) := by rw [← hwB]; simp [go_sem]
      have s0 : wB.cell? ⟨w.heap.size + 1, 0, none⟩ = some (.int .i64 s.n) := by rw [← hwB]; simp [go_sem]
      have s1 : wB.cell? ⟨w.heap.size + 1, 1, none⟩ = some (.int .i64 s.k) := by rw [← hwB]; simp [go_sem]
      have s2 : wB.cell? ⟨w.heap.size + 1, 2, none⟩ = some (.int .i64 s.v) := by rw [← hwB]; simp [go_sem]
      have s3 : wB.cell? ⟨w.heap.size + 1, 3, none⟩ = some (.int .i64 s.c) := by rw [← hwB]; simp [go_sem]
      have s4 : wB.cell? ⟨w.heap.size + 1, 4, none⟩ = some (.int .i64 s.d) := by rw [← hwB]; simp [go_sem]
      have s5 : wB.cell? ⟨w.heap.size + 1, 5, none⟩ = some (.int .i64 s.rk) := by rw [← hwB]; simp [go_sem]
      have s6 : wB.cell? ⟨w.heap.size + 1, 6, none⟩ = some (.int .i64 s.up) := by rw [← hwB]; simp [go_sem]
      have s7 : wB.cell? ⟨w.heap.size + 1, 7, none⟩ = some (.int .i64 s.dn) := by rw [← hwB]; simp [go_sem]
      have s8 : wB.cell? ⟨w.heap.size + 1, 8, none⟩ = some (.slice ad s.cv.length cp) := by rw [← hwB]; simp [go_sem]
      rw [hwB]
      clear hwB c0 c1 c2 c3 c4 c5 c6 c7 c8
      go_wp2_with (first | (go_at_call 91; refine (HD.out _).mono ?_; rintro e w2 ⟨rfl, hb2⟩; replace hb := hb.trans (hb2.mono hb.size); replace l0 := cell_below l0 hb2; replace l1 := cell_below l1 hb2; replace s0 := cell_below s0 hb2; replace s1 := cell_below s1 hb2; replace s2 := cell_below s2 hb2; replace s3 := cell_below s3 hb2; replace s4 := cell_below s4 hb2; replace s5 := cell_below s5 hb2; replace s6 := cell_below s6 hb2; replace s7 := cell_below s7 hb2; replace s8 := cell_below s8 hb2; clear hb2) | (at_builtin; go_loud (refine wpList_append_lies _ rfl _ _ 22 rfl w.heap.size 3 n0 _ 1 8 Tryz.underlying22 hi hz0 hz1 hz2 rfl (by decide) (.slice none 0 0) 0 [] (by rfl) ⟨rfl, .inl ⟨rfl, rfl⟩⟩ ⟨w2.heap.size, 0, none⟩ 1 1 [.int .i64 4] (by rfl) (by rfl) ?d1 ?d2 (by decide) ?d3 ?d4 ?d5 _ rfl ?_)))
      case d1 =>
        refine World.news_of_block (cs := #[.int .i64 4]) (t := 3) (fr := (0, 0)) ?_
        exact heap_alloc_new _ _
      case d2 => simp [Value.oneCell']
      case d3 => unfold maxLen; omega
      case d4 => omega
      case d5 => have := hb.size; first | (simp; omega) | simp | omega
      intro g6 c6 w6 hown6 hgrow6 hat6 hlt6
      have hb6 : Below w.heap.size w w6 := (hb.alloc hb.size _).grown hgrow6 (by have := hb.size; first | (simp; omega) | simp | omega) (fun z hz => by cases hz)
      have HO6 := Lib.hid hown6
      clear hown6 hgrow6 hat6 hlt6
      go_wp2_with fail
      go_ret
      rw [HR.out]
      exact cod_one (by decide) (by unfold I64; omega) HO6.out hb6
    · have HR : Hid (CV = 0) := Lib.hid (by rw [HC.out]; rw [if_neg h7, if_neg h6, if_neg (by omega), if_pos (.inr h3), if_neg hdl])
      have dd : (D == L) = false := beq_false_of_ne hdl
      clear h7 h6 h2 h4 h5 h1 h3 hdl HC HH HId HPrev HMi0
      go_enter Tryz.func69, Tryz.ntmps69
      go_upto_region 2 with (fail)
      obtain ⟨wB, hwB⟩ : ∃ wB, (w.alloc (.cells #[.int .i64 L, .slice a js.length ca] 24)).alloc (.cells #[.int .i64 s.n, .int .i64 s.k, .int .i64 s.v, .int .i64 s.c, .int .i64 s.d, .int .i64 s.rk, .int .i64 s.up, .int .i64 s.dn, .slice ad s.cv.length cp] 34) = wB := ⟨_, rfl⟩
      have hb : Below w.heap.size w wB := by rw [← hwB]; exact ((Below.refl _ _).alloc (Nat.le_refl _) _).alloc (by simp) _
      have l0 : wB.cell? ⟨w.heap.size, 0, none⟩ = some (.int .i64 L) := by rw [← hwB]; simp [go_sem]
      have l1 : wB.cell? ⟨w.heap.size, 1, none⟩ = some (.slice a js.length ca) := by rw [← hwB]; simp [go_sem]
      have s0 : wB.cell? ⟨w.heap.size + 1, 0, none⟩ = some (.int .i64 s.n) := by rw [← hwB]; simp [go_sem]
      have s1 : wB.cell? ⟨w.heap.size + 1, 1, none⟩ = some (.int .i64 s.k) := by rw [← hwB]; simp [go_sem]
      have s2 : wB.cell? ⟨w.heap.size + 1, 2, none⟩ = some (.int .i64 s.v) := by rw [← hwB]; simp [go_sem]
      have s3 : wB.cell? ⟨w.heap.size + 1, 3, none⟩ = some (.int .i64 s.c) := by rw [← hwB]; simp [go_sem]
      have s4 : wB.cell? ⟨w.heap.size + 1, 4, none⟩ = some (.int .i64 s.d) := by rw [← hwB]; simp [go_sem]
      have s5 : wB.cell? ⟨w.heap.size + 1, 5, none⟩ = some (.int .i64 s.rk) := by rw [← hwB]; simp [go_sem]
      have s6 : wB.cell? ⟨w.heap.size + 1, 6, none⟩ = some (.int .i64 s.up) := by rw [← hwB]; simp [go_sem]
      have s7 : wB.cell? ⟨w.heap.size + 1, 7, none⟩ = some (.int .i64 s.dn) := by rw [← hwB]; simp [go_sem]
      have s8 : wB.cell? ⟨w.heap.size + 1, 8, none⟩ = some (.slice ad s.cv.length cp) := by rw [← hwB]; simp [go_sem]
      rw [hwB]
      clear hwB c0 c1 c2 c3 c4 c5 c6 c7 c8
      go_wp2_with (go_at_call 91; refine (HD.out _).mono ?_; rintro e w2 ⟨rfl, hb2⟩; replace hb := hb.trans (hb2.mono hb.size); replace l0 := cell_below l0 hb2; replace l1 := cell_below l1 hb2; replace s0 := cell_below s0 hb2; replace s1 := cell_below s1 hb2; replace s2 := cell_below s2 hb2; replace s3 := cell_below s3 hb2; replace s4 := cell_below s4 hb2; replace s5 := cell_below s5 hb2; replace s6 := cell_below s6 hb2; replace s7 := cell_below s7 hb2; replace s8 := cell_below s8 hb2; clear hb2)
      go_ret
      rw [HR.out]
      exact cod_nil rfl hb
  have k7 : (s.k == 7) = false := beq_false_of_ne h7
  have k6 : (s.k == 6) = false := beq_false_of_ne h6
  have k2 : (s.k == 2) = false := beq_false_of_ne h2
  have k4 : (s.k == 4) = false := beq_false_of_ne h4
  have k5 : (s.k == 5) = false := beq_false_of_ne h5
  have k1 : (s.k == 1) = false := beq_false_of_ne h1
  have k3 : (s.k == 3) = false := beq_false_of_ne h3
  have HR : Hid (CV = 0) := Lib.hid (by rw [HC.out]; rw [if_neg h7, if_neg h6, if_neg (by omega), if_neg (by omega)])
  clear h7 h6 h2 h4 h5 h1 h3 HC HH HId HPrev HMi0
  go_enter Tryz.func69, Tryz.ntmps69
  go_upto_region 2 with (fail)
  obtain ⟨wB, hwB⟩ : ∃ wB, (w.alloc (.cells #[.int .i64 L, .slice a js.length ca] 24)).alloc (.cells #[.int .i64 s.n, .int .i64 s.k, .int .i64 s.v, .int .i64 s.c, .int .i64 s.d, .int .i64 s.rk, .int .i64 s.up, .int .i64 s.dn, .slice ad s.cv.length cp] 34) = wB := ⟨_, rfl⟩
  have hb : Below w.heap.size w wB := by rw [← hwB]; exact ((Below.refl _ _).alloc (Nat.le_refl _) _).alloc (by simp) _
  have l0 : wB.cell? ⟨w.heap.size, 0, none⟩ = some (.int .i64 L) := by rw [← hwB]; simp [go_sem]
  have l1 : wB.cell? ⟨w.heap.size, 1, none⟩ = some (.slice a js.length ca) := by rw [← hwB]; simp [go_sem]
  have s0 : wB.cell? ⟨w.heap.size + 1, 0, none⟩ = some (.int .i64 s.n) := by rw [← hwB]; simp [go_sem]
  have s1 : wB.cell? ⟨w.heap.size + 1, 1, none⟩ = some (.int .i64 s.k) := by rw [← hwB]; simp [go_sem]
  have s2 : wB.cell? ⟨w.heap.size + 1, 2, none⟩ = some (.int .i64 s.v) := by rw [← hwB]; simp [go_sem]
  have s3 : wB.cell? ⟨w.heap.size + 1, 3, none⟩ = some (.int .i64 s.c) := by rw [← hwB]; simp [go_sem]
  have s4 : wB.cell? ⟨w.heap.size + 1, 4, none⟩ = some (.int .i64 s.d) := by rw [← hwB]; simp [go_sem]
  have s5 : wB.cell? ⟨w.heap.size + 1, 5, none⟩ = some (.int .i64 s.rk) := by rw [← hwB]; simp [go_sem]
  have s6 : wB.cell? ⟨w.heap.size + 1, 6, none⟩ = some (.int .i64 s.up) := by rw [← hwB]; simp [go_sem]
  have s7 : wB.cell? ⟨w.heap.size + 1, 7, none⟩ = some (.int .i64 s.dn) := by rw [← hwB]; simp [go_sem]
  have s8 : wB.cell? ⟨w.heap.size + 1, 8, none⟩ = some (.slice ad s.cv.length cp) := by rw [← hwB]; simp [go_sem]
  rw [hwB]
  clear hwB c0 c1 c2 c3 c4 c5 c6 c7 c8
  go_wp2_with (go_at_call 91; refine (HD.out _).mono ?_; rintro e w2 ⟨rfl, hb2⟩; replace hb := hb.trans (hb2.mono hb.size); replace l0 := cell_below l0 hb2; replace l1 := cell_below l1 hb2; replace s0 := cell_below s0 hb2; replace s1 := cell_below s1 hb2; replace s2 := cell_below s2 hb2; replace s3 := cell_below s3 hb2; replace s4 := cell_below s4 hb2; replace s5 := cell_below s5 hb2; replace s6 := cell_below s6 hb2; replace s7 := cell_below s7 hb2; replace s8 := cell_below s8 hb2; clear hb2)
  go_ret
  rw [HR.out]
  exact cod_nil rfl hb
end Go.Proofs.YtiagflackfkmnaaGreat
