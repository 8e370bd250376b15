/-
  The walks of long and of the reference's Coefficient. By an AI agent.
-/
import Derived.Test.YtkddmjadilmldaaLightH
import Derived.Test.YtkddmjadilmldaaLightG
import Derived.Deep.RegionLaw
namespace Go.Proofs.Ytkddmjadilmldaa
set_option linter.unusedVariables false
set_option linter.unusedSimpArgs false
open Go.RowKit

def SomeBool (e : Ending) : Prop := ∃ b, e = .returned (.bool b)
theorem some_bool (b : Bool) : SomeBool (.returned (.bool b)) := ⟨b, rfl⟩

set_option maxRecDepth 100000 in
set_option maxHeartbeats 1000000 in
theorem long_any (ao ae ar : Option Addr) (o e : List Int) (r : List (List Int)) (co ce cr : Nat) (w : World) (hT : TableS w ao ae ar o e r) :
    Calls Try.prog 10 #[.agg #[.slice ao o.length co, .slice ae e.length ce, .slice ar r.length cr]] w fun E w' => SomeBool E ∧ Below w.heap.size w w' := by
  obtain ⟨⟨ho, _⟩, ⟨he, _⟩, hr, br, fr, ad, cp, har, hrr⟩ := hT
  by_cases h1 : 40 < o.length
  · clear hrr har
    go_enter Try.func10, Try.ntmps10
    go_wp2_with fail
    go_ret
    refine ⟨some_bool _, ?_⟩
    go_grown
  · by_cases h2 : 40 < e.length
    · clear hrr har
      go_enter Try.func10, Try.ntmps10
      go_wp2_with fail
      go_ret
      refine ⟨some_bool _, ?_⟩
      go_grown
    · by_cases h3 : 40 < r.length
      · have h3' : (40 : Int) < (r.length : Int) := by omega
        clear hrr har
        go_enter Try.func10, Try.ntmps10
        go_wp2_with fail
        go_ret
        refine ⟨some_bool _, ?_⟩
        go_grown
      · have h3' : ¬ (40 : Int) < (r.length : Int) := by omega
        go_enter Try.func10, Try.ntmps10
        go_wp2_with fail
        go_loop [3] (fun x => ∃ k : Nat, k ≤ r.length ∧ x = .int .i64 k) (fun x => r.length - (intOf x).toNat)
        case atStart => exact ⟨0, Nat.zero_le _, rfl⟩
        case round =>
          obtain ⟨k, hk, rfl⟩ := hrel
          by_cases hlt : k < r.length
          · obtain rfl := har (fun h => by rw [h] at hlt; simp at hlt)
            obtain ⟨c, ⟨hn, _⟩, _⟩ := hrr k hlt
            have hbl := block_lt c
            clear hrr har
            generalize (gr r k).length = q at *
            by_cases hq : 40 < q
            · go_wp2_with fail
              go_ret
              refine ⟨some_bool _, ?_⟩
              go_grown
            · go_wp2_with fail
              go_round
              case rel => exact ⟨k + 1, by omega, by go_num⟩
              case measure => simp [intOf]; omega
          · go_wp2_with fail
            go_ret
            refine ⟨some_bool _, ?_⟩
            go_grown

theorem above_clip {l : List Int} (h : SlopesOk l) {x : Int} : above l (clip l x) ↔ above l x := by
  have := slopes_le h (show 0 ≤ l.length - 1 by omega) (by have := h.1; omega)
  unfold above clip; omega

set_option maxRecDepth 100000 in
set_option maxHeartbeats 4000000 in
theorem refCoef_out (ao ae ar : Option Addr) (o e : List Int) (r : List (List Int)) (co ce cr : Nat) (x y : Int) (w : World) (hT : TableS w ao ae ar o e r) (hK : TableOk o e r) (hx : I64 x) (hy : I64 y) (ha : above o x ∨ above e y) :
    Calls Try.prog 62 #[.agg #[.slice ao o.length co, .slice ae e.length ce, .slice ar r.length cr], .int .i64 x, .int .i64 y] w fun E w' => E = .returned (.int .i64 0) ∧ Below w.heap.size w w' := by
  have n0 := hK.1.1
  have n1 := hK.2.1.1
  obtain ⟨_, _, bo, fo, hao, hco⟩ := hT.1
  obtain ⟨_, _, be, fe, hae, hce⟩ := hT.2.1
  obtain rfl := hao (fun h => by rw [h] at n0; simp at n0)
  obtain rfl := hae (fun h => by rw [h] at n1; simp at n1)
  have c0 := hco 0 (by omega)
  have c1 := hce 0 (by omega)
  rw [Nat.add_zero] at c0 c1
  have l0 := block_lt c0
  have l1 := block_lt c1
  have b0 := slopes_bd hK.1 (i := 0) (by omega)
  have b1 := slopes_bd hK.2.1 (i := 0) (by omega)
  have hcx : (x < gi o 0 ∧ clip o x = gi o 0) ∨ (gi o 0 ≤ x ∧ clip o x = x) := by unfold clip; omega
  have hcy : (y < gi e 0 ∧ clip e y = gi e 0) ∨ (gi e 0 ≤ y ∧ clip e y = y) := by unfold clip; omega
  obtain ⟨x0, x1⟩ := hx
  obtain ⟨y0, y1⟩ := hy
  have q0 : 0 < o.length := by omega
  have q1 : 0 < e.length := by omega
  have hX : I64 (clip o x) := by unfold I64; omega
  have hY : I64 (clip e y) := by unfold I64; omega
  by_cases a1 : above o x
  · have HL1 : Hid (∀ W, Below w.heap.size w W → Calls Try.prog 64 #[.slice (some ⟨bo, fo, none⟩) o.length co, .int .i64 (clip o x)] W fun E w' => E = .returned (.tuple #[.int .i64 0, .bool false]) ∧ W = w') := Lib.hid fun W hW => cell_out _ o co _ W (hT.1.below hW) hK.1 hX ((above_clip hK.1).2 a1)
    have HL2 : Hid (∀ W, Below w.heap.size w W → Calls Try.prog 64 #[.slice (some ⟨be, fe, none⟩) e.length ce, .int .i64 (clip e y)] W fun E w' => (∃ (k : Int) (b : Bool), E = .returned (.tuple #[.int .i64 k, .bool b])) ∧ W = w') := Lib.hid fun W hW => by
      by_cases a2 : above e y
      · exact (cell_out _ e ce _ W (hT.2.1.below hW) hK.2.1 hY ((above_clip hK.2.1).2 a2)).mono fun E w' h => ⟨⟨0, false, h.1⟩, h.2⟩
      · exact (cell_in _ e ce _ W (hT.2.1.below hW) hK.2.1 hY (fun h => a2 ((above_clip hK.2.1).1 h)) (clip_not_above hK.2.1 a2).1).mono fun E w' h => ⟨by obtain ⟨k, _, hk⟩ := h.1; exact ⟨k, true, hk⟩, h.2⟩
    obtain ⟨b00, b01⟩ := b0
    obtain ⟨b10, b11⟩ := b1
    clear hT hK hao hae hco hce ha a1 hX hY
    generalize gi o 0 = g at *
    generalize gi e 0 = g' at *
    generalize clip o x = X at *
    generalize clip e y = Y at *
    rcases hcx with ⟨h1, rfl⟩ | ⟨h1, rfl⟩ <;> rcases hcy with ⟨h2, rfl⟩ | ⟨h2, rfl⟩
    all_goals
      go_enter Try.func62, Try.ntmps62
      go_wp2_with fail
      go_quiet (fail)
      go_wp2_with fail
      refine (HL1.out _ (by first | exact below_drewN ((Below.refl _ _).alloc (Nat.le_refl _) _) _ | exact (Below.refl _ _).alloc (Nat.le_refl _) _)).mono ?_
      rintro E w' ⟨rfl, rfl⟩
      go_wp2_with fail
      refine (HL2.out _ (by first | exact below_drewN ((Below.refl _ _).alloc (Nat.le_refl _) _) _ | exact (Below.refl _ _).alloc (Nat.le_refl _) _)).mono ?_
      rintro E w' ⟨⟨k, b, rfl⟩, rfl⟩
      go_wp2_with fail
      go_ret
      exact ⟨rfl, by first | exact below_drewN ((Below.refl _ _).alloc (Nat.le_refl _) _) _ | exact (Below.refl _ _).alloc (Nat.le_refl _) _⟩
  · have a2 : above e y := by rcases ha with h | h; exact absurd h a1; exact h
    have HL1 : Hid (∀ W, Below w.heap.size w W → Calls Try.prog 64 #[.slice (some ⟨bo, fo, none⟩) o.length co, .int .i64 (clip o x)] W fun E w' => (∃ (k : Int), E = .returned (.tuple #[.int .i64 k, .bool true])) ∧ W = w') := Lib.hid fun W hW =>
      (cell_in _ o co _ W (hT.1.below hW) hK.1 hX (fun h => a1 ((above_clip hK.1).1 h)) (clip_not_above hK.1 a1).1).mono fun E w' h => ⟨by obtain ⟨k, _, hk⟩ := h.1; exact ⟨k, hk⟩, h.2⟩
    have HL2 : Hid (∀ W, Below w.heap.size w W → Calls Try.prog 64 #[.slice (some ⟨be, fe, none⟩) e.length ce, .int .i64 (clip e y)] W fun E w' => E = .returned (.tuple #[.int .i64 0, .bool false]) ∧ W = w') := Lib.hid fun W hW => cell_out _ e ce _ W (hT.2.1.below hW) hK.2.1 hY ((above_clip hK.2.1).2 a2)
    obtain ⟨b00, b01⟩ := b0
    obtain ⟨b10, b11⟩ := b1
    clear hT hK hao hae hco hce ha a1 a2 hX hY
    generalize gi o 0 = g at *
    generalize gi e 0 = g' at *
    generalize clip o x = X at *
    generalize clip e y = Y at *
    rcases hcx with ⟨h1, rfl⟩ | ⟨h1, rfl⟩ <;> rcases hcy with ⟨h2, rfl⟩ | ⟨h2, rfl⟩
    all_goals
      go_enter Try.func62, Try.ntmps62
      go_wp2_with fail
      go_quiet (fail)
      go_wp2_with fail
      refine (HL1.out _ (by first | exact below_drewN ((Below.refl _ _).alloc (Nat.le_refl _) _) _ | exact (Below.refl _ _).alloc (Nat.le_refl _) _)).mono ?_
      rintro E w' ⟨⟨k, rfl⟩, rfl⟩
      go_wp2_with fail
      refine (HL2.out _ (by first | exact below_drewN ((Below.refl _ _).alloc (Nat.le_refl _) _) _ | exact (Below.refl _ _).alloc (Nat.le_refl _) _)).mono ?_
      rintro E w' ⟨rfl, rfl⟩
      go_wp2_with fail
      go_ret
      exact ⟨rfl, by first | exact below_drewN ((Below.refl _ _).alloc (Nat.le_refl _) _) _ | exact (Below.refl _ _).alloc (Nat.le_refl _) _⟩
end Go.Proofs.Ytkddmjadilmldaa
