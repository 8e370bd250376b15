/-
  The walk of the reference's Inside. By an AI agent.
-/
import Derived.Test.YtkddmjadilmldaaLightIs
import Derived.BigRegion
namespace Go.Proofs.Ytkddmjadilmldaa
set_option linter.unusedVariables false
set_option linter.unusedSimpArgs false
open Go.RowKit

def insK (X Y : Nat → Int) (px py : Int) : Nat → Bool
  | 0 => true
  | k + 1 => insK X Y px py k && decide (0 ≤ sideAt X Y px py k)
def argE (aa : Bool) : Int := if aa then 0 else 2
theorem insK_iff {X Y : Nat → Int} {px py : Int} : ∀ k, insK X Y px py k = true ↔ ∀ j, j < k → 0 ≤ sideAt X Y px py j
  | 0 => by simp [insK]
  | k + 1 => by
    rw [insK, Bool.and_eq_true, insK_iff k, decide_eq_true_eq]
    constructor
    · intro h j hj
      by_cases e : j = k
      · subst e; exact h.2
      · exact h.1 j (by omega)
    · intro h; exact ⟨fun j hj => h j (by omega), h k (by omega)⟩
theorem insK_4 {X Y : Nat → Int} {px py : Int} : insK X Y px py 4 = insB X Y px py := by
  by_cases h : insP X Y px py
  · rw [insB_t h, (insK_iff 4).2 h]
  · rw [insB_f h]
    cases e : insK X Y px py 4 with
    | true => exact absurd ((insK_iff 4).1 e) h
    | false => rfl

set_option maxRecDepth 100000 in
set_option maxHeartbeats 8000000 in
theorem RefInside_any (x0 y0 x1 y1 x2 y2 x3 y3 px py : Int) (w : World) :
    Calls Try.prog 24 #[.agg #[.int .i64 x0, .int .i64 y0, .int .i64 x1, .int .i64 y1, .int .i64 x2, .int .i64 y2, .int .i64 x3, .int .i64 y3], .agg #[.int .i64 px, .int .i64 py]] w fun e w' => e = .returned (.tuple #[.bool (argB (pk x0 x1 x2 x3) (pk y0 y1 y2 y3) px py && insB (pk x0 x1 x2 x3) (pk y0 y1 y2 y3) px py), .int .i64 (argE (argB (pk x0 x1 x2 x3) (pk y0 y1 y2 y3) px py))]) ∧ Below w.heap.size w w' := by
  have HP : Hid (∀ W, Calls Try.prog 51 #[.agg #[.int .i64 px, .int .i64 py]] W fun e w' => e = .returned (.bool (colB px py)) ∧ Below W.heap.size W w') := Lib.hid fun W => place_any px py W
  have HBX := Lib.hid (fun k hk => box_cell x0 y0 x1 y1 x2 y2 x3 y3 w 56 (k := k) hk)
  unfold boxAgg at *
  by_cases hc : colB px py = true
  · have HPx := Lib.hid hc
    rw [hc] at HP
    have HF1 : Hid (∀ j, j < 4 → ¬ colB (pk x0 x1 x2 x3 j) (pk y0 y1 y2 y3 j) = true → argB (pk x0 x1 x2 x3) (pk y0 y1 y2 y3) px py = false) := Lib.hid fun j hj h => by unfold argB; rw [boxB_f (fun g => h (g.1 j hj))]; rfl
    have HF2 : Hid (∀ j, j < 4 → ¬ 0 < turnAt (pk x0 x1 x2 x3) (pk y0 y1 y2 y3) j → argB (pk x0 x1 x2 x3) (pk y0 y1 y2 y3) px py = false) := Lib.hid fun j hj h => by unfold argB; rw [boxB_f (fun g => h (g.2 j hj))]; rfl
    have HT : Hid ((∀ j, j < 4 → colB (pk x0 x1 x2 x3 j) (pk y0 y1 y2 y3 j) = true) → (∀ j, j < 4 → 0 < turnAt (pk x0 x1 x2 x3) (pk y0 y1 y2 y3) j) → argB (pk x0 x1 x2 x3) (pk y0 y1 y2 y3) px py = true) := Lib.hid fun h1 h2 => by unfold argB; rw [boxB_t ⟨h1, h2⟩, hc]; rfl
    have HI4 : Hid (insK (pk x0 x1 x2 x3) (pk y0 y1 y2 y3) px py 4 = insB (pk x0 x1 x2 x3) (pk y0 y1 y2 y3) px py) := Lib.hid insK_4
    clear hc
    generalize hbb : insB (pk x0 x1 x2 x3) (pk y0 y1 y2 y3) px py = bb at *
    generalize haa : argB (pk x0 x1 x2 x3) (pk y0 y1 y2 y3) px py = aa at *
    clear hbb haa
    generalize pk x0 x1 x2 x3 = X at *
    generalize pk y0 y1 y2 y3 = Y at *
    go_enter Try.func24, Try.ntmps24
    go_wp2_with fail
    refine (HP.out _).mono ?_
    rintro e w1 ⟨rfl, hb1⟩
    go_wp2_with fail
    go_loopw [6] (fun i wr => ∃ k : Nat, k ≤ 4 ∧ i = .int .i64 k ∧ Below ((w.alloc (.cells #[.int .i64 x0, .int .i64 y0, .int .i64 x1, .int .i64 y1, .int .i64 x2, .int .i64 y2, .int .i64 x3, .int .i64 y3] 56)).alloc (.cells #[.int .i64 px, .int .i64 py] 52)).heap.size ((w.alloc (.cells #[.int .i64 x0, .int .i64 y0, .int .i64 x1, .int .i64 y1, .int .i64 x2, .int .i64 y2, .int .i64 x3, .int .i64 y3] 56)).alloc (.cells #[.int .i64 px, .int .i64 py] 52)) wr ∧ Hid (∀ j, j < k → colB (X j) (Y j) = true)) (fun i _ => 4 - (intOf i).toNat)
    case atStart => exact ⟨0, Nat.zero_le _, rfl, hb1, Lib.hid fun j hj => absurd hj (Nat.not_lt_zero _)⟩
    case round =>
      obtain ⟨k, hk, rfl, hbq, HA⟩ := hrel
      have hb0 : ∀ o v, (w.alloc (.cells #[.int .i64 x0, .int .i64 y0, .int .i64 x1, .int .i64 y1, .int .i64 x2, .int .i64 y2, .int .i64 x3, .int .i64 y3] 56)).cell? ⟨w.heap.size, o, none⟩ = some v → wr.cell? ⟨w.heap.size, o, none⟩ = some v := fun o v h => (hbq.cell (p := ⟨w.heap.size, o, none⟩) (by simp; omega)).trans ((((Below.refl _ _).alloc (Nat.le_refl _) _ : Below (w.alloc (.cells #[.int .i64 x0, .int .i64 y0, .int .i64 x1, .int .i64 y1, .int .i64 x2, .int .i64 y2, .int .i64 x3, .int .i64 y3] 56)).heap.size (w.alloc (.cells #[.int .i64 x0, .int .i64 y0, .int .i64 x1, .int .i64 y1, .int .i64 x2, .int .i64 y2, .int .i64 x3, .int .i64 y3] 56)) ((w.alloc (.cells #[.int .i64 x0, .int .i64 y0, .int .i64 x1, .int .i64 y1, .int .i64 x2, .int .i64 y2, .int .i64 x3, .int .i64 y3] 56)).alloc (.cells #[.int .i64 px, .int .i64 py] 52))).cell (p := ⟨w.heap.size, o, none⟩) (by simp)).trans h)
      by_cases hlt : k < 4
      · have c0 := hb0 _ _ (HBX.out k hlt).1
        have c1 := hb0 _ _ (HBX.out k hlt).2
        have HK : Hid (colB (X k) (Y k) = true → ∀ j, j < k + 1 → colB (X j) (Y j) = true) := Lib.hid fun h j hj => by
          by_cases ej : j = k
          · subst ej; exact h
          · exact HA.out j (by omega)
        have HN := Lib.hid (HF1.out k hlt)
        clear hb0 HF1 HF2 HT HI4
        generalize X k = x at *
        generalize Y k = y at *
        by_cases hcb : colB x y = true
        · have HCB : Hid (∀ W, Calls Try.prog 51 #[.agg #[.int .i64 x, .int .i64 y]] W fun e w' => e = .returned (.bool true) ∧ Below W.heap.size W w') := Lib.hid fun W => by rw [← hcb]; exact place_any x y W
          have HR := Lib.hid (HK.out hcb)
          clear HK HN hcb
          go_wp2_with fail
          refine (HCB.out _).mono ?_
          rintro e w5 ⟨rfl, hb5⟩
          go_wp2_with fail
          go_roundw
          case rel => exact ⟨k + 1, by omega, by go_num, hbq.trans (hb5.mono hbq.size), HR⟩
          case measure => simp [intOf]; omega
        · have hcb2 : colB x y = false := by simpa using hcb
          have HCB : Hid (∀ W, Calls Try.prog 51 #[.agg #[.int .i64 x, .int .i64 y]] W fun e w' => e = .returned (.bool false) ∧ Below W.heap.size W w') := Lib.hid fun W => by rw [← hcb2]; exact place_any x y W
          have HR := Lib.hid (HN.out hcb)
          clear HK HN hcb hcb2
          go_wp2_with fail
          refine (HCB.out _).mono ?_
          rintro e w5 ⟨rfl, hb5⟩
          go_wp2_with fail
          go_ret2
          rw [HR.out]
          exact ⟨rfl, bx2_below (hbq.trans (hb5.mono hbq.size))⟩
      · have HCol : Hid (∀ j, j < 4 → colB (X j) (Y j) = true) := Lib.hid fun j hj => HA.out j (by omega)
        have k4 : ¬ (k : Int) < 4 := by omega
        have k5 : (k : Int) ≤ 4 := by omega
        clear HA HF1 hlt hk hb0
        obtain ⟨kk, hkk⟩ : ∃ kk : Int, (k : Int) = kk := ⟨_, rfl⟩
        rw [hkk] at k4 k5 ⊢
        clear hkk
        go_wp2_with fail
        obtain ⟨wo, rfl⟩ : ∃ wo : World, wo = wr := ⟨_, rfl⟩
        go_loopw [7, 8] (fun b i wr => ∃ k : Nat, k ≤ 4 ∧ i = .int .i64 k ∧ b = .bool (insK X Y px py k) ∧ Below ((w.alloc (.cells #[.int .i64 x0, .int .i64 y0, .int .i64 x1, .int .i64 y1, .int .i64 x2, .int .i64 y2, .int .i64 x3, .int .i64 y3] 56)).alloc (.cells #[.int .i64 px, .int .i64 py] 52)).heap.size ((w.alloc (.cells #[.int .i64 x0, .int .i64 y0, .int .i64 x1, .int .i64 y1, .int .i64 x2, .int .i64 y2, .int .i64 x3, .int .i64 y3] 56)).alloc (.cells #[.int .i64 px, .int .i64 py] 52)) wr ∧ Hid (∀ j, j < k → 0 < turnAt X Y j)) (fun _ i _ => 4 - (intOf i).toNat)
        case atStart => exact ⟨0, Nat.zero_le _, rfl, rfl, hbq, Lib.hid fun j hj => absurd hj (Nat.not_lt_zero _)⟩
        case round =>
          obtain ⟨k, hk, rfl, rfl, hbq, HA⟩ := hrel
          have hw := bx2_below hbq
          by_cases hlt : k < 4
          · have hz : w.heap.size + 1 < wr.heap.size := by have := hbq.size; simp at this; omega
            have hz0 : w.heap.size < wr.heap.size := by omega
            obtain ⟨m1, hm1⟩ : ∃ m, (k + 1) % 4 = m := ⟨_, rfl⟩
            obtain ⟨m2, hm2⟩ : ∃ m, (k + 2) % 4 = m := ⟨_, rfl⟩
            have hb0 : ∀ o v, (w.alloc (.cells #[.int .i64 x0, .int .i64 y0, .int .i64 x1, .int .i64 y1, .int .i64 x2, .int .i64 y2, .int .i64 x3, .int .i64 y3] 56)).cell? ⟨w.heap.size, o, none⟩ = some v → wr.cell? ⟨w.heap.size, o, none⟩ = some v := fun o v h => (hbq.cell (p := ⟨w.heap.size, o, none⟩) (by simp; omega)).trans ((((Below.refl _ _).alloc (Nat.le_refl _) _ : Below (w.alloc (.cells #[.int .i64 x0, .int .i64 y0, .int .i64 x1, .int .i64 y1, .int .i64 x2, .int .i64 y2, .int .i64 x3, .int .i64 y3] 56)).heap.size (w.alloc (.cells #[.int .i64 x0, .int .i64 y0, .int .i64 x1, .int .i64 y1, .int .i64 x2, .int .i64 y2, .int .i64 x3, .int .i64 y3] 56)) ((w.alloc (.cells #[.int .i64 x0, .int .i64 y0, .int .i64 x1, .int .i64 y1, .int .i64 x2, .int .i64 y2, .int .i64 x3, .int .i64 y3] 56)).alloc (.cells #[.int .i64 px, .int .i64 py] 52))).cell (p := ⟨w.heap.size, o, none⟩) (by simp)).trans h)
            have c0 := hb0 _ _ (HBX.out k hlt).1
            have c1 := hb0 _ _ (HBX.out k hlt).2
            have c2 := hb0 _ _ (HBX.out m1 (by omega)).1
            have c3 := hb0 _ _ (HBX.out m1 (by omega)).2
            have c4 := hb0 _ _ (HBX.out m2 (by omega)).1
            have c5 := hb0 _ _ (HBX.out m2 (by omega)).2
            have p4 := (hbq.cell (p := ⟨w.heap.size + 1, 0, none⟩) (by simp)).trans (show _ = some (Value.int .i64 px) by simp [go_sem])
            have p5 := (hbq.cell (p := ⟨w.heap.size + 1, 1, none⟩) (by simp)).trans (show _ = some (Value.int .i64 py) by simp [go_sem])
            have w1 : IntKind.i64.wrap ((k : Int) + 1) = (k : Int) + 1 := IntWalk.i64_in _ (by omega)
            have w2 : IntKind.i64.wrap ((k : Int) + 2) = (k : Int) + 2 := IntWalk.i64_in _ (by omega)
            have w3 : ((k : Int) + 1).tmod 4 = (m1 : Int) := by rw [Int.tmod_eq_emod_of_nonneg (by omega)]; omega
            have w4 : ((k : Int) + 2).tmod 4 = (m2 : Int) := by rw [Int.tmod_eq_emod_of_nonneg (by omega)]; omega
            have w5 : IntKind.i64.wrap (m1 : Int) = (m1 : Int) := IntWalk.i64_in _ (by omega)
            have w6 : IntKind.i64.wrap (m2 : Int) = (m2 : Int) := IntWalk.i64_in _ (by omega)
            have g0 : (0 : Int) ≤ (k : Int) := by omega
            have g1 : (k : Int) < 4 := by omega
            have g2 : (0 : Int) ≤ (m1 : Int) := by omega
            have g3 : (m1 : Int) < 4 := by omega
            have g4 : (0 : Int) ≤ (m2 : Int) := by omega
            have g5 : (m2 : Int) < 4 := by omega
            have HQ : Hid (∀ W, Calls Try.prog 52 #[.agg #[.int .i64 (X k), .int .i64 (Y k)], .agg #[.int .i64 (X m1), .int .i64 (Y m1)], .agg #[.int .i64 (X m2), .int .i64 (Y m2)]] W fun e w' => e = .returned (.int .i64 (turnAt X Y k)) ∧ Below W.heap.size W w') := Lib.hid fun W => by
              unfold turnAt
              rw [hm1, hm2]
              exact refTurn_any _ _ _ _ _ _ W (HCol.out k hlt) (HCol.out m1 (by omega)) (HCol.out m2 (by omega))
            have HQP : Hid (∀ W, Calls Try.prog 52 #[.agg #[.int .i64 (X k), .int .i64 (Y k)], .agg #[.int .i64 (X m1), .int .i64 (Y m1)], .agg #[.int .i64 px, .int .i64 py]] W fun e w' => e = .returned (.int .i64 (sideAt X Y px py k)) ∧ Below W.heap.size W w') := Lib.hid fun W => by
              unfold sideAt
              rw [hm1]
              exact refTurn_any _ _ _ _ _ _ W (HCol.out k hlt) (HCol.out m1 (by omega)) HPx.out
            have HK : Hid (0 < turnAt X Y k → ∀ j, j < k + 1 → 0 < turnAt X Y j) := Lib.hid fun h j hj => by
              by_cases ej : j = k
              · subst ej; exact h
              · exact HA.out j (by omega)
            have HN := Lib.hid (HF2.out k hlt)
            have HIs : Hid (insK X Y px py (k + 1) = (insK X Y px py k && decide (0 ≤ sideAt X Y px py k))) := Lib.hid rfl
            clear hm1 hm2 HBX HCol HF2 HT HA hb0 HPx HI4
            generalize X k = a0 at *
            generalize Y k = a1 at *
            generalize X m1 = a2 at *
            generalize Y m1 = a3 at *
            generalize X m2 = a4 at *
            generalize Y m2 = a5 at *
            generalize turnAt X Y k = v at *
            generalize sideAt X Y px py k = u at *
            generalize insK X Y px py k = ib at *
            have hbs := hbq.size
            have n0 := World.new_ne wr _ c0
            have HKp : Hid (∀ W, Below wr.heap.size wr W → W.cell? ⟨w.heap.size, k * 2, none⟩ = some (.int .i64 a0) ∧ W.cell? ⟨w.heap.size, k * 2 + 1, none⟩ = some (.int .i64 a1) ∧ W.cell? ⟨w.heap.size, m1 * 2, none⟩ = some (.int .i64 a2) ∧ W.cell? ⟨w.heap.size, m1 * 2 + 1, none⟩ = some (.int .i64 a3) ∧ W.cell? ⟨w.heap.size, m2 * 2, none⟩ = some (.int .i64 a4) ∧ W.cell? ⟨w.heap.size, m2 * 2 + 1, none⟩ = some (.int .i64 a5)) := Lib.hid fun W hW => ⟨(hW.cell (p := ⟨w.heap.size, k * 2, none⟩) hz0).trans c0, (hW.cell (p := ⟨w.heap.size, k * 2 + 1, none⟩) hz0).trans c1, (hW.cell (p := ⟨w.heap.size, m1 * 2, none⟩) hz0).trans c2, (hW.cell (p := ⟨w.heap.size, m1 * 2 + 1, none⟩) hz0).trans c3, (hW.cell (p := ⟨w.heap.size, m2 * 2, none⟩) hz0).trans c4, (hW.cell (p := ⟨w.heap.size, m2 * 2 + 1, none⟩) hz0).trans c5⟩
            have n1 : w.heap.size ≠ wr.heap.size := by omega
            have n2 : w.heap.size ≠ wr.heap.size + 1 := by omega
            have n3 : w.heap.size ≠ wr.heap.size + 1 + 1 := by omega
            have n4 : w.heap.size ≠ wr.heap.size + 2 := by omega
            go_wp2_with fail
            have hb31 : Below wr.heap.size wr (wr.alloc (.cells #[.int .i64 0, .int .i64 0] 52)) := ((Below.refl _ _).alloc (Nat.le_refl _) _)
            have hb32 : Below wr.heap.size wr ((wr.alloc (.cells #[.int .i64 0, .int .i64 0] 52)).alloc (.cells #[.int .i64 0, .int .i64 0] 52)) := hb31.alloc hb31.size _
            have hb33 : Below wr.heap.size wr (((wr.alloc (.cells #[.int .i64 0, .int .i64 0] 52)).alloc (.cells #[.int .i64 0, .int .i64 0] 52)).alloc (.cells #[.int .i64 0, .int .i64 0] 52)) := hb32.alloc hb32.size _
            have q1 : ∀ c1 o, ((wr.alloc (.cells c1 52)).drew).cell? ⟨w.heap.size, o, none⟩ = wr.cell? ⟨w.heap.size, o, none⟩ := fun c1 o => ((((Below.refl _ _).alloc (Nat.le_refl _) _ : Below wr.heap.size wr (wr.alloc (.cells c1 52))).drew).cell (p := ⟨w.heap.size, o, none⟩) hz0)
            have q2 : ∀ c1 c2 o, (((wr.alloc (.cells c1 52)).alloc (.cells c2 52)).drew).cell? ⟨w.heap.size, o, none⟩ = wr.cell? ⟨w.heap.size, o, none⟩ := fun c1 c2 o => (((((Below.refl _ _).alloc (Nat.le_refl _) _ : Below wr.heap.size wr (wr.alloc (.cells c1 52))).alloc (by simp) _).drew).cell (p := ⟨w.heap.size, o, none⟩) hz0)
            have q3 : ∀ c1 c2 c3 o, ((((wr.alloc (.cells c1 52)).alloc (.cells c2 52)).alloc (.cells c3 52)).drew).cell? ⟨w.heap.size, o, none⟩ = wr.cell? ⟨w.heap.size, o, none⟩ := fun c1 c2 c3 o => ((((((Below.refl _ _).alloc (Nat.le_refl _) _ : Below wr.heap.size wr (wr.alloc (.cells c1 52))).alloc (by simp) _).alloc (by simp; omega) _).drew).cell (p := ⟨w.heap.size, o, none⟩) hz0)
            go_region
            all_goals first
              | (obtain ⟨wD, hwD⟩ : ∃ wD, ((((wr.alloc (.cells #[.int .i64 a0, .int .i64 a1] 52)).alloc (.cells #[.int .i64 a2, .int .i64 a3] 52)).alloc (.cells #[.int .i64 a4, .int .i64 a5] 52)).drew) = wD := ⟨_, rfl⟩
                 rw [hwD]
                 have hbD : Below wr.heap.size wr wD := by
                   rw [← hwD]
                   exact ((((Below.refl _ _).alloc (Nat.le_refl _) _ : Below wr.heap.size wr (wr.alloc (.cells #[.int .i64 a0, .int .i64 a1] 52))).alloc (by simp) _).alloc (by simp; omega) _).drew
                 have hsD : wD.heap.size = wr.heap.size + 1 + 1 + 1 := by rw [← hwD]; simp
                 have d0 : wD.cell? ⟨wr.heap.size, 0, none⟩ = some (.int .i64 a0) := by rw [← hwD]; simp [go_sem]
                 have d1 : wD.cell? ⟨wr.heap.size, 1, none⟩ = some (.int .i64 a1) := by rw [← hwD]; simp [go_sem]
                 have d2 : wD.cell? ⟨wr.heap.size + 1, 0, none⟩ = some (.int .i64 a2) := by rw [← hwD]; simp [go_sem]
                 have d3 : wD.cell? ⟨wr.heap.size + 1, 1, none⟩ = some (.int .i64 a3) := by rw [← hwD]; simp [go_sem]
                 have d4 : wD.cell? ⟨wr.heap.size + 1 + 1, 0, none⟩ = some (.int .i64 a4) := by rw [← hwD]; simp [go_sem]
                 have d5 : wD.cell? ⟨wr.heap.size + 1 + 1, 1, none⟩ = some (.int .i64 a5) := by rw [← hwD]; simp [go_sem]
                 clear hwD)
              | (obtain ⟨wD, hwD⟩ : ∃ wD, ((((wr.alloc (.cells #[.int .i64 a0, .int .i64 a1] 52)).alloc (.cells #[.int .i64 a4, .int .i64 a5] 52)).alloc (.cells #[.int .i64 a2, .int .i64 a3] 52)).drew) = wD := ⟨_, rfl⟩
                 rw [hwD]
                 have hbD : Below wr.heap.size wr wD := by
                   rw [← hwD]
                   exact ((((Below.refl _ _).alloc (Nat.le_refl _) _ : Below wr.heap.size wr (wr.alloc (.cells #[.int .i64 a0, .int .i64 a1] 52))).alloc (by simp) _).alloc (by simp; omega) _).drew
                 have hsD : wD.heap.size = wr.heap.size + 1 + 1 + 1 := by rw [← hwD]; simp
                 have d0 : wD.cell? ⟨wr.heap.size, 0, none⟩ = some (.int .i64 a0) := by rw [← hwD]; simp [go_sem]
                 have d1 : wD.cell? ⟨wr.heap.size, 1, none⟩ = some (.int .i64 a1) := by rw [← hwD]; simp [go_sem]
                 have d2 : wD.cell? ⟨wr.heap.size + 1, 0, none⟩ = some (.int .i64 a4) := by rw [← hwD]; simp [go_sem]
                 have d3 : wD.cell? ⟨wr.heap.size + 1, 1, none⟩ = some (.int .i64 a5) := by rw [← hwD]; simp [go_sem]
                 have d4 : wD.cell? ⟨wr.heap.size + 1 + 1, 0, none⟩ = some (.int .i64 a2) := by rw [← hwD]; simp [go_sem]
                 have d5 : wD.cell? ⟨wr.heap.size + 1 + 1, 1, none⟩ = some (.int .i64 a3) := by rw [← hwD]; simp [go_sem]
                 clear hwD)
              | (obtain ⟨wD, hwD⟩ : ∃ wD, ((((wr.alloc (.cells #[.int .i64 a2, .int .i64 a3] 52)).alloc (.cells #[.int .i64 a0, .int .i64 a1] 52)).alloc (.cells #[.int .i64 a4, .int .i64 a5] 52)).drew) = wD := ⟨_, rfl⟩
                 rw [hwD]
                 have hbD : Below wr.heap.size wr wD := by
                   rw [← hwD]
                   exact ((((Below.refl _ _).alloc (Nat.le_refl _) _ : Below wr.heap.size wr (wr.alloc (.cells #[.int .i64 a2, .int .i64 a3] 52))).alloc (by simp) _).alloc (by simp; omega) _).drew
                 have hsD : wD.heap.size = wr.heap.size + 1 + 1 + 1 := by rw [← hwD]; simp
                 have d0 : wD.cell? ⟨wr.heap.size, 0, none⟩ = some (.int .i64 a2) := by rw [← hwD]; simp [go_sem]
                 have d1 : wD.cell? ⟨wr.heap.size, 1, none⟩ = some (.int .i64 a3) := by rw [← hwD]; simp [go_sem]
                 have d2 : wD.cell? ⟨wr.heap.size + 1, 0, none⟩ = some (.int .i64 a0) := by rw [← hwD]; simp [go_sem]
                 have d3 : wD.cell? ⟨wr.heap.size + 1, 1, none⟩ = some (.int .i64 a1) := by rw [← hwD]; simp [go_sem]
                 have d4 : wD.cell? ⟨wr.heap.size + 1 + 1, 0, none⟩ = some (.int .i64 a4) := by rw [← hwD]; simp [go_sem]
                 have d5 : wD.cell? ⟨wr.heap.size + 1 + 1, 1, none⟩ = some (.int .i64 a5) := by rw [← hwD]; simp [go_sem]
                 clear hwD)
              | (obtain ⟨wD, hwD⟩ : ∃ wD, ((((wr.alloc (.cells #[.int .i64 a2, .int .i64 a3] 52)).alloc (.cells #[.int .i64 a4, .int .i64 a5] 52)).alloc (.cells #[.int .i64 a0, .int .i64 a1] 52)).drew) = wD := ⟨_, rfl⟩
                 rw [hwD]
                 have hbD : Below wr.heap.size wr wD := by
                   rw [← hwD]
                   exact ((((Below.refl _ _).alloc (Nat.le_refl _) _ : Below wr.heap.size wr (wr.alloc (.cells #[.int .i64 a2, .int .i64 a3] 52))).alloc (by simp) _).alloc (by simp; omega) _).drew
                 have hsD : wD.heap.size = wr.heap.size + 1 + 1 + 1 := by rw [← hwD]; simp
                 have d0 : wD.cell? ⟨wr.heap.size, 0, none⟩ = some (.int .i64 a2) := by rw [← hwD]; simp [go_sem]
                 have d1 : wD.cell? ⟨wr.heap.size, 1, none⟩ = some (.int .i64 a3) := by rw [← hwD]; simp [go_sem]
                 have d2 : wD.cell? ⟨wr.heap.size + 1, 0, none⟩ = some (.int .i64 a4) := by rw [← hwD]; simp [go_sem]
                 have d3 : wD.cell? ⟨wr.heap.size + 1, 1, none⟩ = some (.int .i64 a5) := by rw [← hwD]; simp [go_sem]
                 have d4 : wD.cell? ⟨wr.heap.size + 1 + 1, 0, none⟩ = some (.int .i64 a0) := by rw [← hwD]; simp [go_sem]
                 have d5 : wD.cell? ⟨wr.heap.size + 1 + 1, 1, none⟩ = some (.int .i64 a1) := by rw [← hwD]; simp [go_sem]
                 clear hwD)
              | (obtain ⟨wD, hwD⟩ : ∃ wD, ((((wr.alloc (.cells #[.int .i64 a4, .int .i64 a5] 52)).alloc (.cells #[.int .i64 a0, .int .i64 a1] 52)).alloc (.cells #[.int .i64 a2, .int .i64 a3] 52)).drew) = wD := ⟨_, rfl⟩
                 rw [hwD]
                 have hbD : Below wr.heap.size wr wD := by
                   rw [← hwD]
                   exact ((((Below.refl _ _).alloc (Nat.le_refl _) _ : Below wr.heap.size wr (wr.alloc (.cells #[.int .i64 a4, .int .i64 a5] 52))).alloc (by simp) _).alloc (by simp; omega) _).drew
                 have hsD : wD.heap.size = wr.heap.size + 1 + 1 + 1 := by rw [← hwD]; simp
                 have d0 : wD.cell? ⟨wr.heap.size, 0, none⟩ = some (.int .i64 a4) := by rw [← hwD]; simp [go_sem]
                 have d1 : wD.cell? ⟨wr.heap.size, 1, none⟩ = some (.int .i64 a5) := by rw [← hwD]; simp [go_sem]
                 have d2 : wD.cell? ⟨wr.heap.size + 1, 0, none⟩ = some (.int .i64 a0) := by rw [← hwD]; simp [go_sem]
                 have d3 : wD.cell? ⟨wr.heap.size + 1, 1, none⟩ = some (.int .i64 a1) := by rw [← hwD]; simp [go_sem]
                 have d4 : wD.cell? ⟨wr.heap.size + 1 + 1, 0, none⟩ = some (.int .i64 a2) := by rw [← hwD]; simp [go_sem]
                 have d5 : wD.cell? ⟨wr.heap.size + 1 + 1, 1, none⟩ = some (.int .i64 a3) := by rw [← hwD]; simp [go_sem]
                 clear hwD)
              | (obtain ⟨wD, hwD⟩ : ∃ wD, ((((wr.alloc (.cells #[.int .i64 a4, .int .i64 a5] 52)).alloc (.cells #[.int .i64 a2, .int .i64 a3] 52)).alloc (.cells #[.int .i64 a0, .int .i64 a1] 52)).drew) = wD := ⟨_, rfl⟩
                 rw [hwD]
                 have hbD : Below wr.heap.size wr wD := by
                   rw [← hwD]
                   exact ((((Below.refl _ _).alloc (Nat.le_refl _) _ : Below wr.heap.size wr (wr.alloc (.cells #[.int .i64 a4, .int .i64 a5] 52))).alloc (by simp) _).alloc (by simp; omega) _).drew
                 have hsD : wD.heap.size = wr.heap.size + 1 + 1 + 1 := by rw [← hwD]; simp
                 have d0 : wD.cell? ⟨wr.heap.size, 0, none⟩ = some (.int .i64 a4) := by rw [← hwD]; simp [go_sem]
                 have d1 : wD.cell? ⟨wr.heap.size, 1, none⟩ = some (.int .i64 a5) := by rw [← hwD]; simp [go_sem]
                 have d2 : wD.cell? ⟨wr.heap.size + 1, 0, none⟩ = some (.int .i64 a2) := by rw [← hwD]; simp [go_sem]
                 have d3 : wD.cell? ⟨wr.heap.size + 1, 1, none⟩ = some (.int .i64 a3) := by rw [← hwD]; simp [go_sem]
                 have d4 : wD.cell? ⟨wr.heap.size + 1 + 1, 0, none⟩ = some (.int .i64 a0) := by rw [← hwD]; simp [go_sem]
                 have d5 : wD.cell? ⟨wr.heap.size + 1 + 1, 1, none⟩ = some (.int .i64 a1) := by rw [← hwD]; simp [go_sem]
                 clear hwD)
            all_goals
              have p4 := (hbD.cell (p := ⟨w.heap.size + 1, 0, none⟩) hz).trans p4
              have p5 := (hbD.cell (p := ⟨w.heap.size + 1, 1, none⟩) hz).trans p5
              have hbw := hbq.trans (hbD.mono hbq.size)
              clear w1 w2 w3 w4 q1 q2 q3 hb31 hb32 hb33 HKp c0 c1 c2 c3 c4 c5 n0 n1 n2 n3 n4
              go_wp2_with fail
              refine (HQ.out _).mono ?_
              rintro e w9 ⟨rfl, hb9⟩
              have d0 := (hb9.cell (p := ⟨wr.heap.size, 0, none⟩) (by simp only [hsD]; omega)).trans d0
              have d1 := (hb9.cell (p := ⟨wr.heap.size, 1, none⟩) (by simp only [hsD]; omega)).trans d1
              have d2 := (hb9.cell (p := ⟨wr.heap.size + 1, 0, none⟩) (by simp only [hsD]; omega)).trans d2
              have d3 := (hb9.cell (p := ⟨wr.heap.size + 1, 1, none⟩) (by simp only [hsD]; omega)).trans d3
              have d4 := (hb9.cell (p := ⟨wr.heap.size + 1 + 1, 0, none⟩) (by simp only [hsD]; omega)).trans d4
              have d5 := (hb9.cell (p := ⟨wr.heap.size + 1 + 1, 1, none⟩) (by simp only [hsD]; omega)).trans d5
              have p4 := (hb9.cell (p := ⟨w.heap.size + 1, 0, none⟩) (by simp only [hsD]; omega)).trans p4
              have p5 := (hb9.cell (p := ⟨w.heap.size + 1, 1, none⟩) (by simp only [hsD]; omega)).trans p5
              have hb9 := hbw.trans (hb9.mono hbw.size)
              clear hbw hbD
              by_cases hv : 0 < v
              · have hv2 : ¬ v ≤ 0 := by omega
                have HR := Lib.hid (HK.out hv)
                clear HK HN hv
                cases ib with
                | false =>
                  go_wp2_with fail
                  go_roundw
                  case rel => exact ⟨k + 1, by omega, by go_num, by rw [HIs.out]; rfl, hb9, HR⟩
                  case measure => simp [intOf]; omega
                | true =>
                  go_wp2_with fail
                  refine (HQP.out _).mono ?_
                  rintro e w10 ⟨rfl, hb10⟩
                  by_cases hu : 0 ≤ u
                  · go_wp2_with fail
                    go_roundw
                    case rel => exact ⟨k + 1, by omega, by go_num, by rw [HIs.out]; simp [hu], hb9.trans (hb10.mono hb9.size), HR⟩
                    case measure => simp [intOf]; omega
                  · go_wp2_with fail
                    go_roundw
                    case rel => exact ⟨k + 1, by omega, by go_num, by rw [HIs.out]; simp [hu], hb9.trans (hb10.mono hb9.size), HR⟩
                    case measure => simp [intOf]; omega
              · have hv2 : v ≤ 0 := by omega
                have HR := Lib.hid ((by first | exact HN.out hv | exact HN.out hv2))
                clear HK HN hv
                go_wp2_with fail
                go_ret2
                rw [HR.out]
                exact ⟨rfl, bx2_below hb9⟩
          · have HR := Lib.hid (HT.out (fun j hj => HCol.out j hj) (fun j hj => HA.out j (by omega)))
            obtain rfl : k = 4 := by omega
            go_wp2_with fail
            go_ret2
            rw [HR.out, ← HI4.out]
            exact ⟨by rfl, hw⟩
  · have hc2 : colB px py = false := by simpa using hc
    have ha : argB (pk x0 x1 x2 x3) (pk y0 y1 y2 y3) px py = false := by unfold argB; rw [hc2, Bool.and_false]
    rw [hc2] at HP
    rw [ha]
    clear hc hc2 ha HBX
    go_enter Try.func24, Try.ntmps24
    go_wp2_with fail
    refine (HP.out _).mono ?_
    rintro e w1 ⟨rfl, hb1⟩
    go_wp2_with fail
    go_ret2
    exact ⟨rfl, bx2_below hb1⟩
end Go.Proofs.Ytkddmjadilmldaa
