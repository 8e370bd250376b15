/-
  The walk of Inside. By an AI agent.
-/
import Derived.Test.YtkddmjadilmldaaLightIv
namespace Go.Proofs.Ytkddmjadilmldaa
set_option linter.unusedVariables false
set_option linter.unusedSimpArgs false
open Go.RowKit

theorem bx2_below {w w' : World} {o1 o2 : Obj} (h : Below ((w.alloc o1).alloc o2).heap.size ((w.alloc o1).alloc o2) w') : Below w.heap.size w w' := box_below (box_below h)
/-- Where a colour lies beside a side. -/
def sideAt (X Y : Nat → Int) (px py : Int) (j : Nat) : Int := turnV (X j) (Y j) (X ((j + 1) % 4)) (Y ((j + 1) % 4)) px py
def insP (X Y : Nat → Int) (px py : Int) : Prop := ∀ j, j < 4 → 0 ≤ sideAt X Y px py j
open Classical in
noncomputable def insB (X Y : Nat → Int) (px py : Int) : Bool := decide (insP X Y px py)
theorem insB_t {X Y : Nat → Int} {px py : Int} (h : insP X Y px py) : insB X Y px py = true := by unfold insB; simpa using h
theorem insB_f {X Y : Nat → Int} {px py : Int} (h : ¬ insP X Y px py) : insB X Y px py = false := by unfold insB; simpa using h
noncomputable def argB (X Y : Nat → Int) (px py : Int) : Bool := boxB X Y && colB px py

set_option maxRecDepth 100000 in
set_option maxHeartbeats 4000000 in
theorem Inside_any (x0 y0 x1 y1 x2 y2 x3 y3 px py : Int) (w : World) :
    Calls Try.prog 23 #[.agg #[.int .i64 x0, .int .i64 y0, .int .i64 x1, .int .i64 y1, .int .i64 x2, .int .i64 y2, .int .i64 x3, .int .i64 y3], .agg #[.int .i64 px, .int .i64 py]] w fun e w' => e = .returned (.tuple #[.bool (argB (pk x0 x1 x2 x3) (pk y0 y1 y2 y3) px py && insB (pk x0 x1 x2 x3) (pk y0 y1 y2 y3) px py), .int .i64 (if argB (pk x0 x1 x2 x3) (pk y0 y1 y2 y3) px py then 0 else 2)]) ∧ Below w.heap.size w w' := by
  have HV : Hid (∀ W, Calls Try.prog 48 #[.agg #[.int .i64 x0, .int .i64 y0, .int .i64 x1, .int .i64 y1, .int .i64 x2, .int .i64 y2, .int .i64 x3, .int .i64 y3]] W fun e w' => e = .returned (.bool (boxB (pk x0 x1 x2 x3) (pk y0 y1 y2 y3))) ∧ Below W.heap.size W w') := Lib.hid fun W => boxValid_any x0 y0 x1 y1 x2 y2 x3 y3 W
  have HP : Hid (∀ W, Calls Try.prog 49 #[.agg #[.int .i64 px, .int .i64 py]] W fun e w' => e = .returned (.bool (colB px py)) ∧ Below W.heap.size W w') := Lib.hid fun W => colourValid_any px py W
  have HBX := Lib.hid (fun k hk => box_cell x0 y0 x1 y1 x2 y2 x3 y3 w 56 (k := k) hk)
  unfold boxAgg at *
  by_cases hb : boxB (pk x0 x1 x2 x3) (pk y0 y1 y2 y3) = true
  · by_cases hc : colB px py = true
    · have hok := boxB_iff.1 hb
      have ha : argB (pk x0 x1 x2 x3) (pk y0 y1 y2 y3) px py = true := by unfold argB; rw [hb, hc]; rfl
      rw [hb] at HV
      have HPx := Lib.hid hc
      rw [hc] at HP
      rw [ha]
      have HF : Hid (∀ j, j < 4 → ¬ 0 ≤ sideAt (pk x0 x1 x2 x3) (pk y0 y1 y2 y3) px py j → insB (pk x0 x1 x2 x3) (pk y0 y1 y2 y3) px py = false) := Lib.hid fun j hj h => insB_f fun g => h (g j hj)
      have HT : Hid ((∀ j, j < 4 → 0 ≤ sideAt (pk x0 x1 x2 x3) (pk y0 y1 y2 y3) px py j) → insB (pk x0 x1 x2 x3) (pk y0 y1 y2 y3) px py = true) := Lib.hid fun h => insB_t h
      have HCol := Lib.hid hok.1
      clear hb hc hok ha
      generalize hbb : insB (pk x0 x1 x2 x3) (pk y0 y1 y2 y3) px py = bb at *
      clear hbb
      generalize pk x0 x1 x2 x3 = X at *
      generalize pk y0 y1 y2 y3 = Y at *
      go_enter Try.func23, Try.ntmps23
      go_wp2_with fail
      refine (HV.out _).mono ?_
      rintro e w1 ⟨rfl, hb1⟩
      obtain ⟨hc1, hf1⟩ := bcell hb1
      go_wp2_with fail
      refine (HP.out _).mono ?_
      rintro e w2 ⟨rfl, hb2⟩
      have hb2 := hb1.trans (hb2.mono hb1.size)
      clear hc1 hf1
      go_wp2_with fail
      go_loopw [15] (fun i wr => ∃ k : Nat, k ≤ 4 ∧ i = .int .i64 k ∧ Below ((w.alloc (.cells #[.int .i64 x0, .int .i64 y0, .int .i64 x1, .int .i64 y1, .int .i64 x2, .int .i64 y2, .int .i64 x3, .int .i64 y3] 56)).alloc (.cells #[.int .i64 px, .int .i64 py] 52)).heap.size ((w.alloc (.cells #[.int .i64 x0, .int .i64 y0, .int .i64 x1, .int .i64 y1, .int .i64 x2, .int .i64 y2, .int .i64 x3, .int .i64 y3] 56)).alloc (.cells #[.int .i64 px, .int .i64 py] 52)) wr ∧ Hid (∀ j, j < k → 0 ≤ sideAt X Y px py j)) (fun i _ => 4 - (intOf i).toNat)
      case atStart => exact ⟨0, Nat.zero_le _, rfl, hb2, Lib.hid fun j hj => absurd hj (Nat.not_lt_zero _)⟩
      case round =>
        obtain ⟨k, hk, rfl, hbq, HA⟩ := hrel
        by_cases hlt : k < 4
        · have hw := bx2_below hbq
          have hz : w.heap.size + 1 < wr.heap.size := by have := hbq.size; simp at this; omega
          have hz0 : w.heap.size < wr.heap.size := by omega
          obtain ⟨m1, hm1⟩ : ∃ m, (k + 1) % 4 = m := ⟨_, rfl⟩
          have hb0 : ∀ o v, (w.alloc (.cells #[.int .i64 x0, .int .i64 y0, .int .i64 x1, .int .i64 y1, .int .i64 x2, .int .i64 y2, .int .i64 x3, .int .i64 y3] 56)).cell? ⟨w.heap.size, o, none⟩ = some v → wr.cell? ⟨w.heap.size, o, none⟩ = some v := fun o v h => (hbq.cell (p := ⟨w.heap.size, o, none⟩) (by simp; omega)).trans ((((Below.refl _ _).alloc (Nat.le_refl _) _ : Below (w.alloc (.cells #[.int .i64 x0, .int .i64 y0, .int .i64 x1, .int .i64 y1, .int .i64 x2, .int .i64 y2, .int .i64 x3, .int .i64 y3] 56)).heap.size (w.alloc (.cells #[.int .i64 x0, .int .i64 y0, .int .i64 x1, .int .i64 y1, .int .i64 x2, .int .i64 y2, .int .i64 x3, .int .i64 y3] 56)) ((w.alloc (.cells #[.int .i64 x0, .int .i64 y0, .int .i64 x1, .int .i64 y1, .int .i64 x2, .int .i64 y2, .int .i64 x3, .int .i64 y3] 56)).alloc (.cells #[.int .i64 px, .int .i64 py] 52))).cell (p := ⟨w.heap.size, o, none⟩) (by simp)).trans h)
          have c0 := hb0 _ _ (HBX.out k hlt).1
          have c1 := hb0 _ _ (HBX.out k hlt).2
          have c2 := hb0 _ _ (HBX.out m1 (by omega)).1
          have c3 := hb0 _ _ (HBX.out m1 (by omega)).2
          have c4 := (hbq.cell (p := ⟨w.heap.size + 1, 0, none⟩) (by simp)).trans (show _ = some (Value.int .i64 px) by simp [go_sem])
          have c5 := (hbq.cell (p := ⟨w.heap.size + 1, 1, none⟩) (by simp)).trans (show _ = some (Value.int .i64 py) by simp [go_sem])
          have HTV : Hid (∀ W, Calls Try.prog 50 #[.agg #[.int .i64 (X k), .int .i64 (Y k)], .agg #[.int .i64 (X m1), .int .i64 (Y m1)], .agg #[.int .i64 px, .int .i64 py]] W fun e w' => e = .returned (.int .i64 (sideAt X Y px py k)) ∧ Below W.heap.size W w') := Lib.hid fun W => by
            unfold sideAt
            rw [hm1]
            exact turn_any _ _ _ _ _ _ W (HCol.out k hlt) (HCol.out m1 (by omega)) HPx.out
          have HK : Hid (0 ≤ sideAt X Y px py k → ∀ j, j < k + 1 → 0 ≤ sideAt X Y px py j) := Lib.hid fun h j hj => by
            by_cases ej : j = k
            · subst ej; exact h
            · exact HA.out j (by omega)
          have HN := Lib.hid (HF.out k hlt)
          have w1 : IntKind.i64.wrap ((k : Int) + 1) = (k : Int) + 1 := IntWalk.i64_in _ (by omega)
          have w3 : ((k : Int) + 1).tmod 4 = (m1 : Int) := by rw [Int.tmod_eq_emod_of_nonneg (by omega)]; omega
          have w5 : IntKind.i64.wrap (m1 : Int) = (m1 : Int) := IntWalk.i64_in _ (by omega)
          have g0 : (0 : Int) ≤ (k : Int) := by omega
          have g1 : (k : Int) < 4 := by omega
          have g2 : (0 : Int) ≤ (m1 : Int) := by omega
          have g3 : (m1 : Int) < 4 := by omega
          clear hm1 HBX HCol HF HT HA hb0 HPx
          generalize X k = a0 at *
          generalize Y k = a1 at *
          generalize X m1 = a2 at *
          generalize Y m1 = a3 at *
          generalize sideAt X Y px py k = v at *
          go_wp2_with fail
          go_region_held3 (fun w' => w'.cell? ⟨w.heap.size, k * 2, none⟩ = some (.int .i64 a0) ∧ w'.cell? ⟨w.heap.size, k * 2 + 1, none⟩ = some (.int .i64 a1) ∧ w'.cell? ⟨w.heap.size, m1 * 2, none⟩ = some (.int .i64 a2) ∧ w'.cell? ⟨w.heap.size, m1 * 2 + 1, none⟩ = some (.int .i64 a3) ∧ w'.cell? ⟨w.heap.size + 1, 0, none⟩ = some (.int .i64 px) ∧ w'.cell? ⟨w.heap.size + 1, 1, none⟩ = some (.int .i64 py)) (go_keep)
            (first
              | (go_at_call 50
                 refine (HTV.out _).mono ?_
                 rintro e w9 ⟨rfl, hb9⟩
                 have c0 := (hb9.cell (p := ⟨w.heap.size, k * 2, none⟩) hz0).trans c0
                 have c1 := (hb9.cell (p := ⟨w.heap.size, k * 2 + 1, none⟩) hz0).trans c1
                 have c2 := (hb9.cell (p := ⟨w.heap.size, m1 * 2, none⟩) hz0).trans c2
                 have c3 := (hb9.cell (p := ⟨w.heap.size, m1 * 2 + 1, none⟩) hz0).trans c3
                 have c4 := (hb9.cell (p := ⟨w.heap.size + 1, 0, none⟩) hz).trans c4
                 have c5 := (hb9.cell (p := ⟨w.heap.size + 1, 1, none⟩) hz).trans c5))
          all_goals
            clear w1 w3
            by_cases hv : 0 ≤ v
            · have HR := Lib.hid (HK.out hv)
              go_wp2_with fail
              go_roundw
              case rel => exact ⟨k + 1, by omega, by go_num, (hbq.drew).trans (hb9.mono hbq.size), HR⟩
              case measure => simp [intOf]; omega
            · have HR := Lib.hid (HN.out (by omega))
              go_wp2_with fail
              go_ret2
              rw [HR.out]
              exact ⟨rfl, (hw.drew).trans (hb9.mono hw.size)⟩
        · have HR := Lib.hid (HT.out (fun j hj => HA.out j (by omega)))
          obtain rfl : k = 4 := by omega
          go_wp2_with fail
          go_ret2
          rw [HR.out]
          exact ⟨rfl, bx2_below hbq⟩
    · have hc : colB px py = false := by simpa using hc
      have ha : argB (pk x0 x1 x2 x3) (pk y0 y1 y2 y3) px py = false := by unfold argB; rw [hb, hc]; rfl
      rw [hb] at HV
      rw [hc] at HP
      rw [ha]
      clear hb hc ha HBX
      go_enter Try.func23, Try.ntmps23
      go_wp2_with fail
      refine (HV.out _).mono ?_
      rintro e w1 ⟨rfl, hb1⟩
      obtain ⟨hc1, hf1⟩ := bcell hb1
      go_wp2_with fail
      refine (HP.out _).mono ?_
      rintro e w2 ⟨rfl, hb2⟩
      have hb2 := hb1.trans (hb2.mono hb1.size)
      go_wp2_with fail
      go_ret2
      exact ⟨rfl, bx2_below hb2⟩
  · have hb : boxB (pk x0 x1 x2 x3) (pk y0 y1 y2 y3) = false := by simpa using hb
    have ha : argB (pk x0 x1 x2 x3) (pk y0 y1 y2 y3) px py = false := by unfold argB; rw [hb]; rfl
    rw [hb] at HV
    rw [ha]
    clear hb ha HBX
    go_enter Try.func23, Try.ntmps23
    go_wp2_with fail
    refine (HV.out _).mono ?_
    rintro e w1 ⟨rfl, hb1⟩
    go_wp2_with fail
    go_ret2
    exact ⟨rfl, bx2_below hb1⟩
end Go.Proofs.Ytkddmjadilmldaa
