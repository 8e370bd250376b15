/-
  The law RoadSights: it answers true. By an AI agent.
-/
import Derived.Test.YtacmeadmmjehmaaRoadSr1
import Derived.Test.YtacmeadmmjehmaaRoadSrm
import Derived.Test.YtacmeadmmjehmaaRoadAw
namespace Go.Proofs.Ytacmeadmmjehmaa
set_option linter.unusedVariables false
set_option linter.unusedSimpArgs false
open Go.RowKit

set_option maxRecDepth 100000 in
theorem Sight_far (n c d s far : Int) (aw : Option Addr) (l : List Sw) (cw : Nat) (w : World) (hp : postB c d s = true) (hf : btw far 0 10000 = false) :
    Calls Try.prog 45 #[.agg #[.int .i64 n, .int .i64 c, .int .i64 d, .int .i64 s], .slice aw l.length cw, .int .i64 far] w fun e w' => e = .returned (.tuple #[.int .i64 0, .int .i64 2]) ∧ Below w.heap.size w w' := by
  have H2 := Lib.hid hf
  have HP := Lib.hid (fun W => hp ▸ postValid_any n c d s W)
  have hb0 := (Below.refl w.heap.size w).alloc (Nat.le_refl _) (.cells #[.int .i64 n, .int .i64 c, .int .i64 d, .int .i64 s] 64)
  clear hp hf
  go_enter Try.func45, Try.ntmps45
  go_wp2_with fail
  refine (HP.out _).mono ?_
  rintro e w1 ⟨rfl, hb1⟩
  have hb := below_on hb0 hb1
  clear hb1
  go_wp2_with fail
  refine (within1_any _ _ far _ _ (by simp [go_sem])).mono ?_
  rintro e w2 ⟨rfl, hb2⟩
  rw [H2.out]
  have hx := below_on ((Below.refl w1.heap.size w1).alloc (Nat.le_refl _) (.cells #[.int .i64 far] 3)) hb2
  have hb := below_on hb hx
  go_wp2_with fail
  go_ret2
  exact ⟨rfl, hb⟩
/-- The program and the reference tell the same. -/
theorem sight_both (n c d s far : Int) (aw : Option Addr) (l : List Sw) (cw : Nat) (hl : l.length ≤ 200) :
    ∃ X E : Int, (∀ W, TripS W aw l → Calls Try.prog 45 #[.agg #[.int .i64 n, .int .i64 c, .int .i64 d, .int .i64 s], .slice aw l.length cw, .int .i64 far] W fun e w' => e = .returned (.tuple #[.int .i64 X, .int .i64 E]) ∧ Below W.heap.size W w') ∧
      ∀ W, TripS W aw l → Calls Try.prog 46 #[.agg #[.int .i64 n, .int .i64 c, .int .i64 d, .int .i64 s], .slice aw l.length cw, .int .i64 far] W fun e w' => e = .returned (.tuple #[.int .i64 X, .int .i64 E]) ∧ Below W.heap.size W w' := by
  cases hp : postB c d s with
  | false => exact ⟨0, 2, fun W _ => Sight_no n c d s far aw l cw W hp, fun W _ => refSight_no n c d s far aw l cw W hp⟩
  | true =>
    have hd : d = 1 ∨ d = -1 := by
      have := hp
      simp only [postB, Bool.and_eq_true] at this
      exact dirB_c this.1.2
    cases hfb : btw far 0 10000 with
    | false => exact ⟨0, 2, fun W _ => Sight_far n c d s far aw l cw W hp hfb, fun W _ => refSight_far n c d s far aw l cw W hp hfb⟩
    | true =>
      have hf : 0 ≤ far ∧ far ≤ 10000 := (btw_iff _ _ _).1 hfb
      cases ha : wrB l with
      | true =>
        rcases hd with rfl | rfl
        · exact ⟨0, 2, fun W hT => Sight_bad1 n c s far aw l cw W hf hl hT hp ha, fun W hT => refSight_bad n c 1 s far aw l cw W hf hl hT hp ha⟩
        · exact ⟨0, 2, fun W hT => Sight_badm n c s far aw l cw W hf hl hT hp ha, fun W hT => refSight_bad n c (-1) s far aw l cw W hf hl hT hp ha⟩
      | false =>
        rcases hd with rfl | rfl
        · exact ⟨_, 0, fun W hT => Sight_1 n c s far aw l cw W hf hl hT hp ha, fun W hT => refSight_1 n c s far aw l cw W hf hl hT hp ha⟩
        · exact ⟨_, 0, fun W hT => Sight_m n c s far aw l cw W hf hl hT hp ha, fun W hT => refSight_m n c s far aw l cw W hf hl hT hp ha⟩
set_option maxRecDepth 100000 in
set_option maxHeartbeats 1000000 in
theorem roadSights_any (n c d s : Int) (aw : Option Addr) (l : List Sw) (cw : Nat) (far : Int) (w : World) (hT : TripS w aw l) (hcw : l.length ≤ cw) :
    Calls Try.prog 13 #[.agg #[.int .i64 n, .int .i64 c, .int .i64 d, .int .i64 s], .slice aw l.length cw, .int .i64 far] w fun e w' => e = .returned (.bool true) ∧ Below w.heap.size w w' := by
  have HA := Lib.hid awake_any
  have hb := (Below.refl w.heap.size w).alloc (Nat.le_refl _) (.cells #[.int .i64 n, .int .i64 c, .int .i64 d, .int .i64 s] 64)
  by_cases hl1 : 20 < l.length
  · have e1 : 20 < (l.length : Int) := by omega
    clear hT hcw hl1
    go_enter Try.func13, Try.ntmps13
    go_wp2_with fail
    refine (HA.out _).mono ?_
    rintro e w3 ⟨rfl, hb3⟩
    go_wp2_with fail
    go_ret
    exact ⟨rfl, below_on hb hb3⟩
  · obtain ⟨X, E, hS1, hS2⟩ := sight_both n c d s far aw l cw (by omega)
    have H1 := Lib.hid (fun W (hW : Below w.heap.size w W) => hS1 W (hT.below hW))
    have H2 := Lib.hid (fun W (hW : Below w.heap.size w W) => hS2 W (hT.below hW))
    have e1 : ¬ (20 < (l.length : Int)) := by omega
    clear hS1 hS2 hT hcw hl1 hb
    go_enter Try.func13, Try.ntmps13
    go_wp2_with fail
    obtain ⟨wB, hwB⟩ : ∃ wB, w.alloc (.cells #[.int .i64 n, .int .i64 c, .int .i64 d, .int .i64 s] 64) = wB := ⟨_, rfl⟩
    have hb : Below w.heap.size w wB := by rw [← hwB]; exact (Below.refl _ _).alloc (Nat.le_refl _) _
    have p0 : wB.cell? ⟨w.heap.size, 0, none⟩ = some (.int .i64 n) := by rw [← hwB]; simp [go_sem]
    have p1 : wB.cell? ⟨w.heap.size, 1, none⟩ = some (.int .i64 c) := by rw [← hwB]; simp [go_sem]
    have p2 : wB.cell? ⟨w.heap.size, 2, none⟩ = some (.int .i64 d) := by rw [← hwB]; simp [go_sem]
    have p3 : wB.cell? ⟨w.heap.size, 3, none⟩ = some (.int .i64 s) := by rw [← hwB]; simp [go_sem]
    rw [hwB]
    clear hwB
    refine (H1.out _ hb).mono ?_
    rintro e w1 ⟨rfl, hb1⟩
    have p0 := cell_below p0 hb1
    have p1 := cell_below p1 hb1
    have p2 := cell_below p2 hb1
    have p3 := cell_below p3 hb1
    have hb := below_on hb hb1
    clear hb1
    go_wp2_with fail
    refine (H2.out _ hb).mono ?_
    rintro e w2 ⟨rfl, hb1⟩
    have hb := below_on hb hb1
    clear hb1 p0 p1 p2 p3
    go_wp2_with fail
    refine (HA.out _).mono ?_
    rintro e w3 ⟨rfl, hb3⟩
    go_wp2_with fail
    go_ret
    exact ⟨rfl, below_on hb hb3⟩
end Go.Proofs.Ytacmeadmmjehmaa
