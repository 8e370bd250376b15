/-
  Readings: the walks of corrected, endsValid, readingsValid and drifted. By an AI agent.
-/
import Derived.Test.YtkddmjadilmldaaLightG
import Derived.BigRegion
namespace Go.Proofs.Ytkddmjadilmldaa
set_option linter.unusedVariables false
set_option linter.unusedSimpArgs false
open Go.RowKit

def corV (t1 c1 t2 c2 rf : Int) (p : Int × Int) : Int := p.2 * rf * (t2 - t1) / (c1 * (t2 - p.1) + c2 * (p.1 - t1))
def EndsOk (t1 c1 t2 c2 rf : Int) : Prop := (1 ≤ c1 ∧ c1 ≤ 100000) ∧ (0 ≤ t1 ∧ t1 ≤ 1000000) ∧ (1 ≤ c2 ∧ c2 ≤ 100000) ∧ (t1 + 1 ≤ t2 ∧ t2 ≤ 1000000) ∧ 1 ≤ rf ∧ rf ≤ 100000
def rdOk (l : List (Int × Int)) (t1 t2 : Int) (j : Nat) : Prop := (0 ≤ (gp l j).2 ∧ (gp l j).2 ≤ 100000) ∧ t1 ≤ (gp l j).1 ∧ (gp l j).1 ≤ t2
def RdsOk (l : List (Int × Int)) (t1 t2 : Int) : Prop := l.length ≤ 100 ∧ ∀ j, j < l.length → rdOk l t1 t2 j
def endsB (t1 c1 t2 c2 rf : Int) : Bool := btw c1 1 100000 && (btw t1 0 1000000 && (btw c2 1 100000 && (btw t2 (t1 + 1) 1000000 && btw rf 1 100000)))
theorem endsB_iff {t1 c1 t2 c2 rf : Int} : endsB t1 c1 t2 c2 rf = true ↔ EndsOk t1 c1 t2 c2 rf := by
  unfold endsB EndsOk; rw [Bool.and_eq_true, Bool.and_eq_true, Bool.and_eq_true, Bool.and_eq_true, btw_iff, btw_iff, btw_iff, btw_iff, btw_iff]
open Classical in
noncomputable def rdsB (l : List (Int × Int)) (t1 t2 : Int) : Bool := decide (RdsOk l t1 t2)
theorem rdsB_t {l : List (Int × Int)} {t1 t2 : Int} (h : RdsOk l t1 t2) : rdsB l t1 t2 = true := by unfold rdsB; simpa using h
theorem rdsB_f {l : List (Int × Int)} {t1 t2 : Int} (h : ¬ RdsOk l t1 t2) : rdsB l t1 t2 = false := by unfold rdsB; simpa using h
theorem rdsB_iff {l : List (Int × Int)} {t1 t2 : Int} : rdsB l t1 t2 = true ↔ RdsOk l t1 t2 := by unfold rdsB; simp
def drB (c rf : Int) : Bool := decide (rf < 20 * max (c - rf) (rf - c))
theorem corV_bd {t1 c1 t2 c2 rf : Int} {p : Int × Int} (h : EndsOk t1 c1 t2 c2 rf) (hv : 0 ≤ p.2 ∧ p.2 ≤ 100000) (ht : t1 ≤ p.1 ∧ p.1 ≤ t2) :
    (0 ≤ p.2 * rf ∧ p.2 * rf ≤ 10000000000) ∧ (0 ≤ p.2 * rf * (t2 - t1) ∧ p.2 * rf * (t2 - t1) ≤ 10000000000000000) ∧ (0 ≤ c1 * (t2 - p.1) ∧ c1 * (t2 - p.1) ≤ 100000000000) ∧ (0 ≤ c2 * (p.1 - t1) ∧ c2 * (p.1 - t1) ≤ 100000000000) ∧ 1 ≤ c1 * (t2 - p.1) + c2 * (p.1 - t1) ∧ 0 ≤ corV t1 c1 t2 c2 rf p ∧ corV t1 c1 t2 c2 rf p ≤ 10000000000000000 := by
  obtain ⟨⟨a0, a1⟩, ⟨b0, b1⟩, ⟨d0, d1⟩, ⟨e0, e1⟩, f0, f1⟩ := h
  have g1 := Int.mul_nonneg hv.1 (show 0 ≤ rf by omega)
  have g2 : p.2 * rf ≤ 100000 * rf := Int.mul_le_mul_of_nonneg_right hv.2 (by omega)
  have g3 := Int.mul_nonneg g1 (show 0 ≤ t2 - t1 by omega)
  have g4 : p.2 * rf * (t2 - t1) ≤ 10000000000 * (t2 - t1) := Int.mul_le_mul_of_nonneg_right (by omega) (by omega)
  have g5 := Int.mul_nonneg (show 0 ≤ c1 by omega) (show 0 ≤ t2 - p.1 by omega)
  have g6 : c1 * (t2 - p.1) ≤ 100000 * (t2 - p.1) := Int.mul_le_mul_of_nonneg_right a1 (by omega)
  have g7 := Int.mul_nonneg (show 0 ≤ c2 by omega) (show 0 ≤ p.1 - t1 by omega)
  have g8 : c2 * (p.1 - t1) ≤ 100000 * (p.1 - t1) := Int.mul_le_mul_of_nonneg_right d1 (by omega)
  have g9 := (plate_bd a0 a1 d0 d1 ht.1 ht.2).1
  have h1 : 0 ≤ p.2 * rf * (t2 - t1) / (c1 * (t2 - p.1) + c2 * (p.1 - t1)) := Int.ediv_nonneg g3 (by omega)
  have h2 : p.2 * rf * (t2 - t1) / (c1 * (t2 - p.1) + c2 * (p.1 - t1)) ≤ p.2 * rf * (t2 - t1) := Int.ediv_le_self _ g3
  unfold corV
  omega
theorem dr_cases (c rf : Int) : (rf - c < c - rf ∧ drB c rf = decide (rf < 20 * (c - rf))) ∨ (c - rf ≤ rf - c ∧ drB c rf = decide (rf < 20 * (rf - c))) := by
  unfold drB
  by_cases h : rf - c < c - rf
  · left; refine ⟨h, ?_⟩; rw [show max (c - rf) (rf - c) = c - rf from by omega]
  · right; refine ⟨by omega, ?_⟩; rw [show max (c - rf) (rf - c) = rf - c from by omega]

theorem drifted_any (c rf : Int) (w : World) (h0 : 1 ≤ c ∧ c ≤ 100000) (h1 : 1 ≤ rf ∧ rf ≤ 100000) :
    Calls Try.prog 44 #[.int .i64 c, .int .i64 rf] w fun e w' => e = .returned (.bool (drB c rf)) ∧ w = w' := by
  obtain ⟨a0, a1⟩ := h0
  obtain ⟨b0, b1⟩ := h1
  rcases dr_cases c rf with ⟨h, hd⟩ | ⟨h, hd⟩
  · rw [hd]
    by_cases g : rf < 20 * (c - rf)
    · rw [decide_eq_true g]
      clear hd
      go_enter Try.func44, Try.ntmps44
      go_wp2
      go_ret
      exact ⟨rfl, rfl⟩
    · rw [decide_eq_false g]
      clear hd
      go_enter Try.func44, Try.ntmps44
      go_wp2
      go_ret
      exact ⟨rfl, rfl⟩
  · rw [hd]
    by_cases g : rf < 20 * (rf - c)
    · rw [decide_eq_true g]
      clear hd
      go_enter Try.func44, Try.ntmps44
      go_wp2
      go_ret
      exact ⟨rfl, rfl⟩
    · rw [decide_eq_false g]
      clear hd
      go_enter Try.func44, Try.ntmps44
      go_wp2
      all_goals
        go_ret
        exact ⟨by first | rfl | (simp; omega), rfl⟩

theorem refDrifted_any (c rf : Int) (w : World) (h0 : 1 ≤ c ∧ c ≤ 100000) (h1 : 1 ≤ rf ∧ rf ≤ 100000) :
    Calls Try.prog 46 #[.int .i64 c, .int .i64 rf] w fun e w' => e = .returned (.bool (drB c rf)) ∧ w = w' := by
  obtain ⟨a0, a1⟩ := h0
  obtain ⟨b0, b1⟩ := h1
  rcases dr_cases c rf with ⟨h, hd⟩ | ⟨h, hd⟩
  · rw [hd]
    by_cases g : rf < 20 * (c - rf)
    · rw [decide_eq_true g]
      clear hd
      go_enter Try.func46, Try.ntmps46
      go_wp2
      go_ret
      exact ⟨rfl, rfl⟩
    · rw [decide_eq_false g]
      clear hd
      go_enter Try.func46, Try.ntmps46
      go_wp2
      go_ret
      exact ⟨rfl, rfl⟩
  · rw [hd]
    by_cases g : rf < 20 * (rf - c)
    · rw [decide_eq_true g]
      clear hd
      go_enter Try.func46, Try.ntmps46
      go_wp2
      go_ret
      exact ⟨rfl, rfl⟩
    · rw [decide_eq_false g]
      clear hd
      go_enter Try.func46, Try.ntmps46
      go_wp2
      all_goals
        go_ret
        exact ⟨by first | rfl | (simp; omega), rfl⟩

theorem btw_cases (n a b : Int) : btw n a b = true ∨ btw n a b = false := by cases btw n a b <;> simp
set_option maxRecDepth 100000 in
set_option maxHeartbeats 1000000 in
theorem endsValid_any (t1 c1 t2 c2 rf : Int) (w : World) :
    Calls Try.prog 42 #[.agg #[.int .i64 t1, .int .i64 c1, .int .i64 t2, .int .i64 c2], .int .i64 rf] w fun e w' => e = .returned (.bool (endsB t1 c1 t2 c2 rf)) ∧ Below w.heap.size w w' := by
  have i0 : ∀ w, (Instr.index 83 (.agg #[.int .i64 t1, .int .i64 c1, .int .i64 t2, .int .i64 c2]) (.int .i64 0)).run Try.prog w = .ok (.agg #[.int .i64 t1, .int .i64 c1]) w := fun _ => by kernel_rfl
  have i1 : ∀ w, (Instr.index 83 (.agg #[.int .i64 t1, .int .i64 c1, .int .i64 t2, .int .i64 c2]) (.int .i64 1)).run Try.prog w = .ok (.agg #[.int .i64 t2, .int .i64 c2]) w := fun _ => by kernel_rfl
  rcases btw_cases c1 1 100000 with b1 | b1
  rotate_left
  · have hr : endsB t1 c1 t2 c2 rf = false := by simp [endsB, b1]
    rw [hr]
    have B1 := Lib.hid b1
    have B2 := Lib.hid b1
    have B3 := Lib.hid b1
    have B4 := Lib.hid b1
    have B5 := Lib.hid b1
    clear hr b1
    go_enter Try.func42, Try.ntmps42
    go_wp2_with fail
    refine wp_loop_rounds 1 ?_
    rw [rounds_succ]
    go_wp2_with (go_at_call 33; refine (between_any _ _ _ _).mono ?_; rintro e w' ⟨rfl, rfl⟩; first | rw [B1.out] | rw [B2.out] | rw [B3.out] | rw [B4.out] | rw [B5.out])
    go_ret
    exact ⟨rfl, ((Below.refl _ _).alloc (Nat.le_refl _) _ : Below w.heap.size w (w.alloc _)).alloc (by simp) _⟩
  rcases btw_cases t1 0 1000000 with b2 | b2
  rotate_left
  · have hr : endsB t1 c1 t2 c2 rf = false := by simp [endsB, b1, b2]
    rw [hr]
    have B1 := Lib.hid b1
    have B2 := Lib.hid b2
    have B3 := Lib.hid b2
    have B4 := Lib.hid b2
    have B5 := Lib.hid b2
    clear hr b1 b2
    go_enter Try.func42, Try.ntmps42
    go_wp2_with fail
    refine wp_loop_rounds 1 ?_
    rw [rounds_succ]
    go_wp2_with (go_at_call 33; refine (between_any _ _ _ _).mono ?_; rintro e w' ⟨rfl, rfl⟩; first | rw [B1.out] | rw [B2.out] | rw [B3.out] | rw [B4.out] | rw [B5.out])
    go_ret
    exact ⟨rfl, ((Below.refl _ _).alloc (Nat.le_refl _) _ : Below w.heap.size w (w.alloc _)).alloc (by simp) _⟩
  rcases btw_cases c2 1 100000 with b3 | b3
  rotate_left
  · have hr : endsB t1 c1 t2 c2 rf = false := by simp [endsB, b1, b2, b3]
    rw [hr]
    have B1 := Lib.hid b1
    have B2 := Lib.hid b2
    have B3 := Lib.hid b3
    have B4 := Lib.hid b3
    have B5 := Lib.hid b3
    clear hr b1 b2 b3
    go_enter Try.func42, Try.ntmps42
    go_wp2_with fail
    refine wp_loop_rounds 2 ?_
    rw [rounds_succ]
    go_wp2_with (go_at_call 33; refine (between_any _ _ _ _).mono ?_; rintro e w' ⟨rfl, rfl⟩; first | rw [B1.out] | rw [B2.out] | rw [B3.out] | rw [B4.out] | rw [B5.out])
    rw [rounds_succ]
    go_wp2_with (go_at_call 33; refine (between_any _ _ _ _).mono ?_; rintro e w' ⟨rfl, rfl⟩; first | rw [B1.out] | rw [B2.out] | rw [B3.out] | rw [B4.out] | rw [B5.out])
    go_ret
    exact ⟨rfl, (((Below.refl _ _).alloc (Nat.le_refl _) _ : Below w.heap.size w (w.alloc _)).alloc (by simp) _).alloc (by first | (simp; omega) | simp) _⟩
  rcases btw_cases t2 (t1 + 1) 1000000 with b4 | b4
  rotate_left
  · have hr : endsB t1 c1 t2 c2 rf = false := by simp [endsB, b1, b2, b3, b4]
    rw [hr]
    obtain ⟨x0, x1⟩ := (btw_iff _ _ _).1 b2
    have B1 := Lib.hid b1
    have B2 := Lib.hid b2
    have B3 := Lib.hid b3
    have B4 := Lib.hid b4
    have B5 := Lib.hid b4
    clear hr b1 b2 b3 b4
    go_enter Try.func42, Try.ntmps42
    go_wp2_with fail
    refine wp_loop_rounds 2 ?_
    rw [rounds_succ]
    go_wp2_with (go_at_call 33; refine (between_any _ _ _ _).mono ?_; rintro e w' ⟨rfl, rfl⟩; first | rw [B1.out] | rw [B2.out] | rw [B3.out] | rw [B4.out] | rw [B5.out])
    rw [rounds_succ]
    go_wp2_with (go_at_call 33; refine (between_any _ _ _ _).mono ?_; rintro e w' ⟨rfl, rfl⟩; first | rw [B1.out] | rw [B2.out] | rw [B3.out] | rw [B4.out] | rw [B5.out])
    go_ret
    exact ⟨rfl, (((Below.refl _ _).alloc (Nat.le_refl _) _ : Below w.heap.size w (w.alloc _)).alloc (by simp) _).alloc (by first | (simp; omega) | simp) _⟩
  have hr : endsB t1 c1 t2 c2 rf = btw rf 1 100000 := by simp [endsB, b1, b2, b3, b4]
  rw [hr]
  obtain ⟨x0, x1⟩ := (btw_iff _ _ _).1 b2
  have B1 := Lib.hid b1
  have B2 := Lib.hid b2
  have B3 := Lib.hid b3
  have B4 := Lib.hid b4
  clear hr b1 b2 b3 b4
  rcases btw_cases rf 1 100000 with b5 | b5
  all_goals
    have B5 := Lib.hid b5
    rw [b5]
    clear b5
    go_enter Try.func42, Try.ntmps42
    go_wp2_with fail
    refine wp_loop_rounds 3 ?_
    rw [rounds_succ]
    go_wp2_with (go_at_call 33; refine (between_any _ _ _ _).mono ?_; rintro e w' ⟨rfl, rfl⟩; first | rw [B1.out] | rw [B2.out] | rw [B3.out] | rw [B4.out] | rw [B5.out])
    rw [rounds_succ]
    go_wp2_with (go_at_call 33; refine (between_any _ _ _ _).mono ?_; rintro e w' ⟨rfl, rfl⟩; first | rw [B1.out] | rw [B2.out] | rw [B3.out] | rw [B4.out] | rw [B5.out])
    rw [rounds_succ]
    go_wp2_with (go_at_call 33; refine (between_any _ _ _ _).mono ?_; rintro e w' ⟨rfl, rfl⟩; first | rw [B1.out] | rw [B2.out] | rw [B3.out] | rw [B4.out] | rw [B5.out])
    go_ret
    exact ⟨rfl, (((Below.refl _ _).alloc (Nat.le_refl _) _ : Below w.heap.size w (w.alloc _)).alloc (by simp) _).alloc (by first | (simp; omega) | simp) _⟩

set_option maxRecDepth 100000 in
set_option maxHeartbeats 1000000 in
theorem readingsValid_any (aa : Option Addr) (l : List (Int × Int)) (ca : Nat) (t1 c1 t2 c2 : Int) (w : World) (hA : PairsS w aa l) :
    Calls Try.prog 43 #[.slice aa l.length ca, .agg #[.int .i64 t1, .int .i64 c1, .int .i64 t2, .int .i64 c2]] w fun e w' => e = .returned (.bool (rdsB l t1 t2)) ∧ Below w.heap.size w w' := by
  obtain ⟨hlen, hbd, blk, off, hadr, hc⟩ := hA
  have HC := Lib.hid hc
  have HL : Hid (0 < l.length → aa = some ⟨blk, off, none⟩) := Lib.hid fun h => hadr (by rintro rfl; simp at h)
  have HF : Hid (∀ j, j < l.length → ¬ rdOk l t1 t2 j → rdsB l t1 t2 = false) := Lib.hid fun j hj h => rdsB_f fun g => h (g.2 j hj)
  have HF2 : Hid (¬ l.length ≤ 100 → rdsB l t1 t2 = false) := Lib.hid fun h => rdsB_f fun g => h g.1
  have HT : Hid (l.length ≤ 100 → (∀ j, j < l.length → rdOk l t1 t2 j) → rdsB l t1 t2 = true) := Lib.hid fun h1 h2 => rdsB_t ⟨h1, h2⟩
  generalize rdsB l t1 t2 = R at *
  clear hc hadr hbd
  go_enter Try.func43, Try.ntmps43
  go_wp2_with fail
  obtain ⟨wo, hwo⟩ : ∃ wo, w.alloc (.cells #[.int .i64 t1, .int .i64 c1, .int .i64 t2, .int .i64 c2] 83) = wo := ⟨_, rfl⟩
  have hbo : Below w.heap.size w wo := by rw [← hwo]; exact (Below.refl _ _).alloc (Nat.le_refl _) _
  have e0 : wo.cell? ⟨w.heap.size, 0, none⟩ = some (.int .i64 t1) := by rw [← hwo]; simp [go_sem]
  have e2 : wo.cell? ⟨w.heap.size, 2, none⟩ = some (.int .i64 t2) := by rw [← hwo]; simp [go_sem]
  rw [hwo]
  clear hwo
  go_loopw [9] (fun i wr => ∃ k : Nat, k ≤ l.length ∧ i = .int .i64 k ∧ Below wo.heap.size wo wr ∧ Hid (∀ j, j < k → rdOk l t1 t2 j)) (fun i _ => l.length - (intOf i).toNat)
  case atStart => exact ⟨0, Nat.zero_le _, rfl, Below.refl _ _, Lib.hid fun j hj => absurd hj (Nat.not_lt_zero _)⟩
  case round =>
    obtain ⟨k, hk, rfl, hbr, HA⟩ := hrel
    have hbw := hbo.trans (hbr.mono hbo.size)
    have e0 := cell_below e0 hbr
    have e2 := cell_below e2 hbr
    have hzr := block_lt e0
    have hne : w.heap.size ≠ wr.heap.size := by omega
    by_cases hlt : k < l.length
    · obtain rfl := HL.out (by omega)
      have d0 := cell_below (HC.out k hlt).1 hbw
      have d1 := cell_below (HC.out k hlt).2 hbw
      have HN := Lib.hid (HF.out k hlt)
      obtain ⟨HQ, hHQ⟩ : ∃ Q : Prop, Q = (∀ j, j < k + 1 → rdOk l t1 t2 j) := ⟨_, rfl⟩
      have HK : Hid (rdOk l t1 t2 k → HQ) := Lib.hid fun h => by
        rw [hHQ]
        intro j hj
        by_cases e : j = k
        · subst e; exact h
        · exact HA.out j (by omega)
      have HQQ : Hid (HQ → ∀ j, j < k + 1 → rdOk l t1 t2 j) := Lib.hid fun h => by rwa [hHQ] at h
      unfold rdOk at HN HK
      clear HC HL HF HF2 HT HA hHQ
      generalize (gp l k).1 = x at d0 HN HK
      generalize (gp l k).2 = y at d1 HN HK
      rcases btw_cases y 0 100000 with b1 | b1
      rotate_left
      · have HR := Lib.hid (HN.out fun h => by rw [btw_t h.1.1 h.1.2] at b1; cases b1)
        have B1 := Lib.hid b1
        clear b1 HN HK HQQ
        go_wp2_with (go_at_call 47; refine (coefValid_any _ _).mono ?_; rintro e w' ⟨rfl, rfl⟩; rw [B1.out])
        go_ret
        rw [HR.out]
        exact ⟨rfl, hbw.alloc hbw.size _⟩
      rcases btw_cases x t1 t2 with b2 | b2
      rotate_left
      · have HR := Lib.hid (HN.out fun h => by rw [btw_t h.2.1 h.2.2] at b2; cases b2)
        have B1 := Lib.hid b1
        have B2 := Lib.hid b2
        clear b1 b2 HN HK HQQ
        go_wp2_with (first | (go_at_call 47; refine (coefValid_any _ _).mono ?_; rintro e w' ⟨rfl, rfl⟩; rw [B1.out]) | (go_at_call 33; refine (between_any _ _ _ _).mono ?_; rintro e w' ⟨rfl, rfl⟩; rw [B2.out]))
        go_ret
        rw [HR.out]
        exact ⟨rfl, hbw.alloc hbw.size _⟩
      have HR := Lib.hid (HQQ.out (HK.out ⟨(btw_iff _ _ _).1 b1, (btw_iff _ _ _).1 b2⟩))
      have B1 := Lib.hid b1
      have B2 := Lib.hid b2
      clear b1 b2 HN HK HQQ
      go_wp2_with (first | (go_at_call 47; refine (coefValid_any _ _).mono ?_; rintro e w' ⟨rfl, rfl⟩; rw [B1.out]) | (go_at_call 33; refine (between_any _ _ _ _).mono ?_; rintro e w' ⟨rfl, rfl⟩; rw [B2.out]))
      go_roundw
      case rel => exact ⟨k + 1, by omega, by go_num, hbr.alloc hbr.size _, HR⟩
      case measure => simp [intOf]; omega
    · obtain rfl : k = l.length := by omega
      by_cases h100 : l.length ≤ 100
      · have HR := Lib.hid (HT.out h100 HA.out)
        have h2 : (l.length : Int) ≤ 100 := by omega
        go_wp2_with fail
        go_ret
        rw [HR.out]
        exact ⟨by first | rfl | simp [h100], hbw⟩
      · have HR := Lib.hid (HF2.out h100)
        have h2 : ¬ (l.length : Int) ≤ 100 := by omega
        go_wp2_with fail
        go_ret
        rw [HR.out]
        exact ⟨by first | rfl | simp [h100], hbw⟩
end Go.Proofs.Ytkddmjadilmldaa
