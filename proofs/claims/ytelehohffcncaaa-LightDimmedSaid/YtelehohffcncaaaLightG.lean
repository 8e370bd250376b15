/-
  The walks of Coefficient, of long, and of the statements' sanity check. By an AI agent.
-/
import Derived.Test.YtelehohffcncaaaLightF
import Derived.Test.YtelehohffcncaaaLightB
namespace Go.Proofs.Ytelehohffcncaaa
set_option linter.unusedVariables false
set_option linter.unusedSimpArgs false
open Go.RowKit

/-- What Coefficient answers. -/
noncomputable def coV (o e : List Int) (r : List (List Int)) (x y : Int) : Int := if tableB o e r = true ∧ 0 ≤ x ∧ 0 ≤ y then coefV o e r x y else 0
noncomputable def coE (o e : List Int) (r : List (List Int)) (x y : Int) : Int := if tableB o e r = true then (if 0 ≤ x ∧ 0 ≤ y then 0 else 2) else 30

set_option maxRecDepth 100000 in
set_option maxHeartbeats 4000000 in
theorem Coefficient_any (ao ae ar : Option Addr) (o e : List Int) (r : List (List Int)) (co ce cr : Nat) (x y : Int) (w : World) (hT : TableS w ao ae ar o e r) (hco : o.length ≤ co) (hce : e.length ≤ ce) (hx : I64 x) (hy : I64 y) :
    Calls Try.prog 16 #[.agg #[.slice ao o.length co, .slice ae e.length ce, .slice ar r.length cr], .int .i64 x, .int .i64 y] w fun E w' => E = .returned (.tuple #[.int .i64 (coV o e r x y), .int .i64 (coE o e r x y)]) ∧ Below w.heap.size w w' := by
  have hB : Below w.heap.size w (w.alloc (.cells #[.slice ao o.length co, .slice ae e.length ce, .slice ar r.length cr] 25)) := (Below.refl _ _).alloc (Nat.le_refl _) _
  have HV := Lib.hid (validTable_any ao ae ar o e r co ce cr _ (hT.below hB))
  have HT := Lib.hid hT
  by_cases hb : tableB o e r = true
  · have H1 := Lib.hid hb
    by_cases hx0 : 0 ≤ x
    · by_cases hy0 : 0 ≤ y
      · have e1 : coV o e r x y = coefV o e r x y := by unfold coV; rw [if_pos ⟨hb, hx0, hy0⟩]
        have e2 : coE o e r x y = 0 := by unfold coE; rw [if_pos hb, if_pos ⟨hx0, hy0⟩]
        rw [e1, e2]
        have HC : Hid (∀ W, Below w.heap.size w W → Calls Try.prog 30 #[.agg #[.slice ao o.length co, .slice ae e.length ce, .slice ar r.length cr], .int .i64 x, .int .i64 y] W fun E w' => E = .returned (.int .i64 (coefV o e r x y)) ∧ Below W.heap.size W w') := Lib.hid fun W hW => coefficient_any ao ae ar o e r co ce cr x y W (hT.below hW) hco hce (tableB_iff.1 hb) hx hy
        obtain ⟨x0, x1⟩ := hx
        obtain ⟨y0, y1⟩ := hy
        clear hT hB hb e1 e2 hco hce
        go_enter Try.func16, Try.ntmps16
        go_wp2_with fail
        refine HV.out.mono ?_
        rintro E w1 ⟨rfl, hb1⟩
        rw [H1.out]
        obtain ⟨hc, hf⟩ := bcell hb1
        go_wp2_with fail
        refine (HC.out _ (box_below hb1)).mono ?_
        rintro E w2 ⟨rfl, hb2⟩
        go_wp2_with fail
        go_ret2
        exact ⟨rfl, (box_below hb1).trans (hb2.mono (box_below hb1).size)⟩
      · have e1 : coV o e r x y = 0 := by unfold coV; rw [if_neg (fun h => hy0 h.2.2)]
        have e2 : coE o e r x y = 2 := by unfold coE; rw [if_pos hb, if_neg (fun h => hy0 h.2)]
        rw [e1, e2]
        obtain ⟨x0, x1⟩ := hx
        obtain ⟨y0, y1⟩ := hy
        clear hT hB hb e1 e2 hco hce
        go_enter Try.func16, Try.ntmps16
        go_wp2_with fail
        refine HV.out.mono ?_
        rintro E w1 ⟨rfl, hb1⟩
        rw [H1.out]
        go_wp2_with fail
        go_ret2
        exact ⟨rfl, box_below hb1⟩
    · have e1 : coV o e r x y = 0 := by unfold coV; rw [if_neg (fun h => hx0 h.2.1)]
      have e2 : coE o e r x y = 2 := by unfold coE; rw [if_pos hb, if_neg (fun h => hx0 h.1)]
      rw [e1, e2]
      obtain ⟨x0, x1⟩ := hx
      obtain ⟨y0, y1⟩ := hy
      clear hT hB hb e1 e2 hco hce
      go_enter Try.func16, Try.ntmps16
      go_wp2_with fail
      refine HV.out.mono ?_
      rintro E w1 ⟨rfl, hb1⟩
      rw [H1.out]
      go_wp2_with fail
      go_ret2
      exact ⟨rfl, box_below hb1⟩
  · have e1 : coV o e r x y = 0 := by unfold coV; rw [if_neg (fun h => hb h.1)]
    have e2 : coE o e r x y = 30 := by unfold coE; rw [if_neg hb]
    rw [e1, e2]
    have hb : tableB o e r = false := by simpa using hb
    have H1 := Lib.hid hb
    clear hT hB hb e1 e2 hco hce hx hy
    go_enter Try.func16, Try.ntmps16
    go_wp2_with fail
    refine HV.out.mono ?_
    rintro E w1 ⟨rfl, hb1⟩
    rw [H1.out]
    go_wp2_with fail
    go_ret2
    exact ⟨rfl, box_below hb1⟩

abbrev exR : List (List Int) := [[250, 110], [80, 10]]
theorem exOk : TableOk [3500, 17500] [90000, 580000] exR := by
  have S : ∀ a b : Int, 1 ≤ a → a < b → b ≤ 1000000 → SlopesOk [a, b] := fun a b h1 h2 h3 => ⟨by simp, by simp, fun i hi => by
    match i, hi with
    | 0, _ => exact ⟨by simpa [gi] using h1, by simp [gi]; omega, .inl rfl⟩
    | 1, _ => exact ⟨by simp [gi]; omega, by simpa [gi] using h3, .inr (by simpa [gi] using h2)⟩⟩
  refine ⟨S _ _ (by omega) (by omega) (by omega), S _ _ (by omega) (by omega) (by omega), rfl, fun i hi => ?_⟩
  match i, hi with
  | 0, _ => exact ⟨rfl, fun k hk => by
      match k, hk with
      | 0, _ => exact ⟨by simp [gi, gr], by simp [gi, gr], .inl rfl, .inl rfl⟩
      | 1, _ => exact ⟨by simp [gi, gr], by simp [gi, gr], .inr (by simp [gi, gr]), .inl rfl⟩⟩
  | 1, _ => exact ⟨rfl, fun k hk => by
      match k, hk with
      | 0, _ => exact ⟨by simp [gi, gr], by simp [gi, gr], .inl rfl, .inr (by simp [gi, gr])⟩
      | 1, _ => exact ⟨by simp [gi, gr], by simp [gi, gr], .inr (by simp [gi, gr]), .inr (by simp [gi, gr])⟩⟩
theorem exV : coV [3500, 17500] [90000, 580000] exR 10500 90000 = 165 := by
  unfold coV
  rw [if_pos ⟨tableB_t exOk, by omega, by omega⟩, coefV_at exOk.1 exOk.2.1 (i := 0) (k := 0) (by decide) (by decide) ⟨by decide, by decide, by decide⟩ ⟨by decide, by decide, by decide⟩]
  decide
theorem exE : coE [3500, 17500] [90000, 580000] exR 10500 90000 = 0 := by
  unfold coE
  rw [if_pos (tableB_t exOk), if_pos (by omega)]
theorem ints_two {W : World} {b : Nat} {x y : Int} (h0 : W.cell? ⟨b, 0, none⟩ = some (.int .i64 x)) (h1 : W.cell? ⟨b, 1, none⟩ = some (.int .i64 y)) (hx : I64 x) (hy : I64 y) : IntsS W (some ⟨b, 0, none⟩) [x, y] :=
  ⟨by simp, fun i hi => by
    match i, hi with
    | 0, _ => exact hx
    | 1, _ => exact hy, b, 0, fun _ => rfl, fun i hi => by
    match i, hi with
    | 0, _ => exact h0
    | 1, _ => exact h1⟩

set_option maxRecDepth 100000 in
set_option maxHeartbeats 4000000 in
theorem first_any (w : World) : Calls Try.prog 6 #[] w fun e w' => e = .returned (.bool true) ∧ Below w.heap.size w w' := by
  have HC : Hid (∀ W ao ae ar, TableS W ao ae ar [3500, 17500] [90000, 580000] exR → Calls Try.prog 16 #[.agg #[.slice ao 2 2, .slice ae 2 2, .slice ar 2 2], .int .i64 10500, .int .i64 90000] W fun e w' => e = .returned (.tuple #[.int .i64 165, .int .i64 0]) ∧ Below W.heap.size W w') := Lib.hid fun W ao ae ar hT => by
    have := Coefficient_any ao ae ar _ _ _ 2 2 2 10500 90000 W hT (by simp) (by simp) (by unfold I64; omega) (by unfold I64; omega)
    rw [exV, exE] at this
    exact this
  have HA : Hid (∀ W, Calls Try.prog 17 #[.int .i64 250, .int .i64 900, .int .i64 2] W fun e w' => e = .returned (.tuple #[.int .i64 202, .int .i64 0]) ∧ W = w') := Lib.hid fun W => by
    have := aged_any 250 900 2 W
    rw [show agedV 250 900 2 = 202 from by decide, show agedE 250 900 2 = 0 from by decide] at this
    exact this
  go_enter Try.func6, Try.ntmps6
  go_wp2_with fail
  refine (HC.out _ _ _ _ ?ht).mono ?_
  case ht =>
    have e0 : I64 3500 ∧ I64 17500 ∧ I64 90000 ∧ I64 580000 ∧ I64 250 ∧ I64 110 ∧ I64 80 ∧ I64 10 := by unfold I64; omega
    obtain ⟨i0, i1, i2, i3, i4, i5, i6, i7⟩ := e0
    refine ⟨ints_two (by simp [go_sem]) (by simp [go_sem]) i0 i1, ints_two (by simp [go_sem]) (by simp [go_sem]) i2 i3, by decide, w.heap.size + 4, 0, fun i => some ⟨w.heap.size + 2 + i, 0, none⟩, fun _ => 2, fun _ => rfl, fun i hi => ?_⟩
    match i, hi with
    | 0, _ => exact ⟨by simp [go_sem, gr], ints_two (by simp [go_sem]) (by simp [go_sem]) i4 i5, Nat.le_refl _⟩
    | 1, _ => exact ⟨by simp [go_sem, gr], ints_two (by simp [go_sem]) (by simp [go_sem]) i6 i7, Nat.le_refl _⟩
  rintro E w1 ⟨rfl, hb1⟩
  go_wp2_with fail
  refine (HA.out _).mono ?_
  rintro E w2 ⟨rfl, rfl⟩
  go_wp2_with fail
  go_ret
  refine ⟨rfl, ?_⟩
  exact Below.trans (by go_grown) (hb1.mono (by simp; omega))
end Go.Proofs.Ytelehohffcncaaa
