/-
  The walk of boxValid. By an AI agent.
-/
import Derived.Test.YtkddmjadilmldaaLightIn
import Derived.Deep.RegionHeld3
namespace Go.Proofs.Ytkddmjadilmldaa
set_option linter.unusedVariables false
set_option linter.unusedSimpArgs false
open Go.RowKit

/-- The coordinates of a box by the corner's number. -/
def pk (a b c d : Int) : Nat → Int
  | 0 => a
  | 1 => b
  | 2 => c
  | _ => d
abbrev boxAgg (x0 y0 x1 y1 x2 y2 x3 y3 : Int) : Array Value := #[.int .i64 x0, .int .i64 y0, .int .i64 x1, .int .i64 y1, .int .i64 x2, .int .i64 y2, .int .i64 x3, .int .i64 y3]
theorem box_cell (x0 y0 x1 y1 x2 y2 x3 y3 : Int) (w : World) (T : TypeId) {k : Nat} (hk : k < 4) :
    (w.alloc (.cells (boxAgg x0 y0 x1 y1 x2 y2 x3 y3) T)).cell? ⟨w.heap.size, k * 2, none⟩ = some (.int .i64 (pk x0 x1 x2 x3 k)) ∧ (w.alloc (.cells (boxAgg x0 y0 x1 y1 x2 y2 x3 y3) T)).cell? ⟨w.heap.size, k * 2 + 1, none⟩ = some (.int .i64 (pk y0 y1 y2 y3 k)) := by
  match k, hk with
  | 0, _ => exact ⟨by simp [go_sem, boxAgg, pk], by simp [go_sem, boxAgg, pk]⟩
  | 1, _ => exact ⟨by simp [go_sem, boxAgg, pk], by simp [go_sem, boxAgg, pk]⟩
  | 2, _ => exact ⟨by simp [go_sem, boxAgg, pk], by simp [go_sem, boxAgg, pk]⟩
  | 3, _ => exact ⟨by simp [go_sem, boxAgg, pk], by simp [go_sem, boxAgg, pk]⟩
theorem box_index (x0 y0 x1 y1 x2 y2 x3 y3 : Int) {k : Nat} (hk : k < 4) (w : World) :
    (Instr.index 56 (.agg (boxAgg x0 y0 x1 y1 x2 y2 x3 y3)) (.int .i64 k)).run Try.prog w = .ok (.agg #[.int .i64 (pk x0 x1 x2 x3 k), .int .i64 (pk y0 y1 y2 y3 k)]) w := by
  have h0 : ∀ w, (Instr.index 56 (.agg (boxAgg x0 y0 x1 y1 x2 y2 x3 y3)) (.int .i64 0)).run Try.prog w = .ok (.agg #[.int .i64 x0, .int .i64 y0]) w := fun _ => by kernel_rfl
  have h1 : ∀ w, (Instr.index 56 (.agg (boxAgg x0 y0 x1 y1 x2 y2 x3 y3)) (.int .i64 1)).run Try.prog w = .ok (.agg #[.int .i64 x1, .int .i64 y1]) w := fun _ => by kernel_rfl
  have h2 : ∀ w, (Instr.index 56 (.agg (boxAgg x0 y0 x1 y1 x2 y2 x3 y3)) (.int .i64 2)).run Try.prog w = .ok (.agg #[.int .i64 x2, .int .i64 y2]) w := fun _ => by kernel_rfl
  have h3 : ∀ w, (Instr.index 56 (.agg (boxAgg x0 y0 x1 y1 x2 y2 x3 y3)) (.int .i64 3)).run Try.prog w = .ok (.agg #[.int .i64 x3, .int .i64 y3]) w := fun _ => by kernel_rfl
  match k, hk with
  | 0, _ => exact h0 w
  | 1, _ => exact h1 w
  | 2, _ => exact h2 w
  | 3, _ => exact h3 w
/-- The turn at a corner. -/
def turnAt (X Y : Nat → Int) (j : Nat) : Int := turnV (X j) (Y j) (X ((j + 1) % 4)) (Y ((j + 1) % 4)) (X ((j + 2) % 4)) (Y ((j + 2) % 4))
def BoxOk (X Y : Nat → Int) : Prop := (∀ j, j < 4 → colB (X j) (Y j) = true) ∧ ∀ j, j < 4 → 0 < turnAt X Y j
open Classical in
noncomputable def boxB (X Y : Nat → Int) : Bool := decide (BoxOk X Y)
theorem boxB_t {X Y : Nat → Int} (h : BoxOk X Y) : boxB X Y = true := by unfold boxB; simpa using h
theorem boxB_f {X Y : Nat → Int} (h : ¬ BoxOk X Y) : boxB X Y = false := by unfold boxB; simpa using h
theorem boxB_iff {X Y : Nat → Int} : boxB X Y = true ↔ BoxOk X Y := by unfold boxB; simp

set_option maxRecDepth 100000 in
set_option maxHeartbeats 4000000 in
theorem boxValid_any (x0 y0 x1 y1 x2 y2 x3 y3 : Int) (w : World) :
    Calls Try.prog 48 #[.agg (boxAgg x0 y0 x1 y1 x2 y2 x3 y3)] w fun e w' => e = .returned (.bool (boxB (pk x0 x1 x2 x3) (pk y0 y1 y2 y3))) ∧ Below w.heap.size w w' := by
  have HBX := Lib.hid (fun k hk => box_cell x0 y0 x1 y1 x2 y2 x3 y3 w 56 (k := k) hk)
  have HIX := Lib.hid (fun k hk => box_index x0 y0 x1 y1 x2 y2 x3 y3 (k := k) hk)
  have HF1 : Hid (∀ j, j < 4 → ¬ colB (pk x0 x1 x2 x3 j) (pk y0 y1 y2 y3 j) = true → boxB (pk x0 x1 x2 x3) (pk y0 y1 y2 y3) = false) := Lib.hid fun j hj h => boxB_f fun g => h (g.1 j hj)
  have HF2 : Hid (∀ j, j < 4 → ¬ 0 < turnAt (pk x0 x1 x2 x3) (pk y0 y1 y2 y3) j → boxB (pk x0 x1 x2 x3) (pk y0 y1 y2 y3) = false) := Lib.hid fun j hj h => boxB_f fun g => h (g.2 j hj)
  have HT : Hid ((∀ j, j < 4 → colB (pk x0 x1 x2 x3 j) (pk y0 y1 y2 y3 j) = true) → (∀ j, j < 4 → 0 < turnAt (pk x0 x1 x2 x3) (pk y0 y1 y2 y3) j) → boxB (pk x0 x1 x2 x3) (pk y0 y1 y2 y3) = true) := Lib.hid fun h1 h2 => boxB_t ⟨h1, h2⟩
  unfold boxAgg at *
  generalize hbb : boxB (pk x0 x1 x2 x3) (pk y0 y1 y2 y3) = bb at *
  clear hbb
  generalize pk x0 x1 x2 x3 = X at *
  generalize pk y0 y1 y2 y3 = Y at *
  go_enter Try.func48, Try.ntmps48
  go_wp2_with fail
  go_loopw [7] (fun i wr => ∃ k : Nat, k ≤ 4 ∧ i = .int .i64 k ∧ Below (w.alloc (.cells #[.int .i64 x0, .int .i64 y0, .int .i64 x1, .int .i64 y1, .int .i64 x2, .int .i64 y2, .int .i64 x3, .int .i64 y3] 56)).heap.size (w.alloc (.cells #[.int .i64 x0, .int .i64 y0, .int .i64 x1, .int .i64 y1, .int .i64 x2, .int .i64 y2, .int .i64 x3, .int .i64 y3] 56)) wr ∧ Hid (∀ j, j < k → colB (X j) (Y j) = true)) (fun i _ => 4 - (intOf i).toNat)
  case atStart => exact ⟨0, Nat.zero_le _, rfl, Below.refl _ _, Lib.hid fun j hj => absurd hj (Nat.not_lt_zero _)⟩
  case round =>
    obtain ⟨k, hk, rfl, hbr, HA⟩ := hrel
    have hbs := hbr.size
    by_cases hlt : k < 4
    · have ix := HIX.out k hlt
      have HK : Hid (colB (X k) (Y k) = true → ∀ j, j < k + 1 → colB (X j) (Y j) = true) := Lib.hid fun h j hj => by
        by_cases ej : j = k
        · subst ej; exact h
        · exact HA.out j (by omega)
      have HN := Lib.hid (HF1.out k hlt)
      generalize X k = x at *
      generalize Y k = y at *
      have k4 : (k : Int) < 4 := by omega
      by_cases hcb : colB x y = true
      · have HCB : Hid (∀ W, Calls Try.prog 49 #[.agg #[.int .i64 x, .int .i64 y]] W fun e w' => e = .returned (.bool true) ∧ Below W.heap.size W w') := Lib.hid fun W => by rw [← hcb]; exact colourValid_any x y W
        have HR := Lib.hid (HK.out hcb)
        clear HK HN hcb
        go_wp2_with fail
        refine (HCB.out _).mono ?_
        rintro e w5 ⟨rfl, hb5⟩
        go_wp2_with fail
        go_roundw
        case rel => exact ⟨k + 1, by omega, by go_num, (hbr.alloc hbs _).trans (hb5.mono (by simp at hbs ⊢; omega)), HR⟩
        case measure => simp [intOf]; omega
      · have hcb2 : colB x y = false := by simpa using hcb
        have HCB : Hid (∀ W, Calls Try.prog 49 #[.agg #[.int .i64 x, .int .i64 y]] W fun e w' => e = .returned (.bool false) ∧ Below W.heap.size W w') := Lib.hid fun W => by rw [← hcb2]; exact colourValid_any x y W
        have HR := Lib.hid (HN.out hcb)
        clear HK HN hcb hcb2
        go_wp2_with fail
        refine (HCB.out _).mono ?_
        rintro e w5 ⟨rfl, hb5⟩
        go_wp2_with fail
        go_ret
        rw [HR.out]
        exact ⟨rfl, box_below ((hbr.alloc hbs _).trans (hb5.mono (by simp at hbs ⊢; omega)))⟩
    · have HCol : Hid (∀ j, j < 4 → colB (X j) (Y j) = true) := Lib.hid fun j hj => HA.out j (by omega)
      have k4 : ¬ (k : Int) < 4 := by omega
      have k5 : (k : Int) ≤ 4 := by omega
      clear HA HIX HF1 hlt hk
      obtain ⟨kk, hkk⟩ : ∃ kk : Int, (k : Int) = kk := ⟨_, rfl⟩
      rw [hkk] at k4 k5 ⊢
      clear hkk
      go_wp2_with fail
      obtain ⟨wo, rfl⟩ : ∃ wo : World, wo = wr := ⟨_, rfl⟩
      go_loopw [14] (fun i wr => ∃ k : Nat, k ≤ 4 ∧ i = .int .i64 k ∧ Below (w.alloc (.cells #[.int .i64 x0, .int .i64 y0, .int .i64 x1, .int .i64 y1, .int .i64 x2, .int .i64 y2, .int .i64 x3, .int .i64 y3] 56)).heap.size (w.alloc (.cells #[.int .i64 x0, .int .i64 y0, .int .i64 x1, .int .i64 y1, .int .i64 x2, .int .i64 y2, .int .i64 x3, .int .i64 y3] 56)) wr ∧ Hid (∀ j, j < k → 0 < turnAt X Y j)) (fun i _ => 4 - (intOf i).toNat)
      case atStart => exact ⟨0, Nat.zero_le _, rfl, hbr, Lib.hid fun j hj => absurd hj (Nat.not_lt_zero _)⟩
      case round =>
        obtain ⟨k, hk, rfl, hbq, HA⟩ := hrel
        by_cases hlt : k < 4
        · have hw := box_below hbq
          have hz : w.heap.size < wr.heap.size := by have := hbq.size; simp at this; omega
          obtain ⟨m1, hm1⟩ : ∃ m, (k + 1) % 4 = m := ⟨_, rfl⟩
          obtain ⟨m2, hm2⟩ : ∃ m, (k + 2) % 4 = m := ⟨_, rfl⟩
          have B := hbq
          have c0 := (hbq.cell (p := ⟨w.heap.size, k * 2, none⟩) (by simp)).trans (HBX.out k hlt).1
          have c1 := (hbq.cell (p := ⟨w.heap.size, k * 2 + 1, none⟩) (by simp)).trans (HBX.out k hlt).2
          have c2 := (hbq.cell (p := ⟨w.heap.size, m1 * 2, none⟩) (by simp)).trans (HBX.out m1 (by omega)).1
          have c3 := (hbq.cell (p := ⟨w.heap.size, m1 * 2 + 1, none⟩) (by simp)).trans (HBX.out m1 (by omega)).2
          have c4 := (hbq.cell (p := ⟨w.heap.size, m2 * 2, none⟩) (by simp)).trans (HBX.out m2 (by omega)).1
          have c5 := (hbq.cell (p := ⟨w.heap.size, m2 * 2 + 1, none⟩) (by simp)).trans (HBX.out m2 (by omega)).2
          have HTV : Hid (∀ W, Calls Try.prog 50 #[.agg #[.int .i64 (X k), .int .i64 (Y k)], .agg #[.int .i64 (X m1), .int .i64 (Y m1)], .agg #[.int .i64 (X m2), .int .i64 (Y m2)]] W fun e w' => e = .returned (.int .i64 (turnAt X Y k)) ∧ Below W.heap.size W w') := Lib.hid fun W => by
            unfold turnAt
            rw [hm1, hm2]
            exact turn_any _ _ _ _ _ _ W (HCol.out k hlt) (HCol.out m1 (by omega)) (HCol.out m2 (by omega))
          have HK : Hid (0 < turnAt X Y k → ∀ j, j < k + 1 → 0 < turnAt X Y j) := Lib.hid fun h j hj => by
            by_cases ej : j = k
            · subst ej; exact h
            · exact HA.out j (by omega)
          have HN := Lib.hid (HF2.out k hlt)
          have w1 : IntKind.i64.wrap ((k : Int) + 1) = (k : Int) + 1 := IntWalk.i64_in _ (by omega)
          have w2 : IntKind.i64.wrap ((k : Int) + 2) = (k : Int) + 2 := IntWalk.i64_in _ (by omega)
          have w3 : ((k : Int) + 1).tmod 4 = (m1 : Int) := by rw [Int.tmod_eq_emod_of_nonneg (by omega)]; omega
          have w4 : ((k : Int) + 2).tmod 4 = (m2 : Int) := by rw [Int.tmod_eq_emod_of_nonneg (by omega)]; omega
          have w5 : IntKind.i64.wrap (m1 : Int) = (m1 : Int) := IntWalk.i64_in _ (by omega)
          have w6 : IntKind.i64.wrap (m2 : Int) = (m2 : Int) := IntWalk.i64_in _ (by omega)
          have g0 : (0 : Int) ≤ (k : Int) := by omega
          have g1 : (k : Int) < 4 := by omega
          have g2 : (0 : Int) ≤ (m1 : Int) := by omega
          have g3 : (m1 : Int) < 4 := by omega
          have g4 : (0 : Int) ≤ (m2 : Int) := by omega
          have g5 : (m2 : Int) < 4 := by omega
          clear hm1 hm2 HBX HCol HF2 HT HA B
          generalize X k = a0 at *
          generalize Y k = a1 at *
          generalize X m1 = a2 at *
          generalize Y m1 = a3 at *
          generalize X m2 = a4 at *
          generalize Y m2 = a5 at *
          generalize turnAt X Y k = v at *
          go_wp2_with fail
          go_region_held3 (fun w' => w'.cell? ⟨w.heap.size, k * 2, none⟩ = some (.int .i64 a0) ∧ w'.cell? ⟨w.heap.size, k * 2 + 1, none⟩ = some (.int .i64 a1) ∧ w'.cell? ⟨w.heap.size, m1 * 2, none⟩ = some (.int .i64 a2) ∧ w'.cell? ⟨w.heap.size, m1 * 2 + 1, none⟩ = some (.int .i64 a3) ∧ w'.cell? ⟨w.heap.size, m2 * 2, none⟩ = some (.int .i64 a4) ∧ w'.cell? ⟨w.heap.size, m2 * 2 + 1, none⟩ = some (.int .i64 a5)) (go_keep)
            (first
              | (go_at_call 50
                 refine (HTV.out _).mono ?_
                 rintro e w9 ⟨rfl, hb9⟩
                 have c0 := (hb9.cell (p := ⟨w.heap.size, k * 2, none⟩) hz).trans c0
                 have c1 := (hb9.cell (p := ⟨w.heap.size, k * 2 + 1, none⟩) hz).trans c1
                 have c2 := (hb9.cell (p := ⟨w.heap.size, m1 * 2, none⟩) hz).trans c2
                 have c3 := (hb9.cell (p := ⟨w.heap.size, m1 * 2 + 1, none⟩) hz).trans c3
                 have c4 := (hb9.cell (p := ⟨w.heap.size, m2 * 2, none⟩) hz).trans c4
                 have c5 := (hb9.cell (p := ⟨w.heap.size, m2 * 2 + 1, none⟩) hz).trans c5))
          all_goals
            clear w1 w2 w3 w4
            by_cases hv : 0 < v
            · have HR := Lib.hid (HK.out hv)
              go_wp2_with fail
              go_roundw
              case rel => exact ⟨k + 1, by omega, by go_num, (hbq.drew).trans (hb9.mono hbq.size), HR⟩
              case measure => simp [intOf]; omega
            · have HR := Lib.hid (HN.out (by omega))
              go_wp2_with fail
              go_ret
              rw [HR.out]
              exact ⟨rfl, (hw.drew).trans (hb9.mono hw.size)⟩
        · obtain rfl : k = 4 := by omega
          have HR := Lib.hid (HT.out HCol.out HA.out)
          go_wp2_with fail
          go_ret
          rw [HR.out]
          exact ⟨rfl, box_below hbq⟩
end Go.Proofs.Ytkddmjadilmldaa
