/-
  The law RoadWarns: it answers true. By an AI agent.
-/
import Derived.Test.YtacmeadmmjehmaaRoadO
import Derived.Test.YtacmeadmmjehmaaRoadAw
namespace Go.Proofs.Ytacmeadmmjehmaa
set_option linter.unusedVariables false
set_option linter.unusedSimpArgs false
open Go.RowKit

set_option maxRecDepth 100000 in
set_option maxHeartbeats 1000000 in
theorem roadWarns_any (d k s : Int) (w : World) :
    Calls Try.prog 10 #[.int .i64 d, .int .i64 k, .int .i64 s] w fun e w' => e = .returned (.bool true) ∧ Below w.heap.size w w' := by
  have HA := Lib.hid awake_any
  obtain ⟨x, y, E, HP, HQ⟩ : ∃ x y E : Int, Hid (∀ W, Calls Try.prog 40 #[.int .i64 d, .int .i64 k, .int .i64 s] W fun e w' => e = .returned (.tuple #[.agg #[.int .i64 x, .int .i64 y], .int .i64 E]) ∧ Below W.heap.size W w') ∧ Hid (∀ W, Calls Try.prog 41 #[.int .i64 d, .int .i64 k, .int .i64 s] W fun e w' => e = .returned (.tuple #[.agg #[.int .i64 x, .int .i64 y], .int .i64 E]) ∧ Below W.heap.size W w') := by
    by_cases h1 : k = 1
    · subst h1
      by_cases h : (0 ≤ d ∧ d ≤ 10000000) ∧ 10 ≤ s ∧ s ≤ 200
      · exact ⟨_, _, _, Lib.hid fun W => Warn_up d s W h.1 h.2, Lib.hid fun W => refWarn_up d s W h.1 h.2⟩
      · exact ⟨_, _, _, Lib.hid fun W => Warn_f1 d s W h, Lib.hid fun W => refWarn_f1 d s W h⟩
    · by_cases h2 : k = -1
      · subst h2
        by_cases h : (0 ≤ d ∧ d ≤ 10000000) ∧ 10 ≤ s ∧ s ≤ 200
        · exact ⟨_, _, _, Lib.hid fun W => Warn_dn d s W h.1 h.2, Lib.hid fun W => refWarn_dn d s W h.1 h.2⟩
        · exact ⟨_, _, _, Lib.hid fun W => Warn_fm d s W h, Lib.hid fun W => refWarn_fm d s W h⟩
      · exact ⟨_, _, _, Lib.hid fun W => Warn_no d k s W h1 h2, Lib.hid fun W => refWarn_no d k s W h1 h2⟩
  go_enter Try.func10, Try.ntmps10
  go_wp2_with fail
  refine (HP.out _).mono ?_
  rintro e w1 ⟨rfl, hb⟩
  go_wp2_with fail
  have hb := below_al hb (.cells #[.int .i64 x, .int .i64 y] 35)
  obtain ⟨wA, hwA⟩ : ∃ wA, w1.alloc (.cells #[.int .i64 x, .int .i64 y] 35) = wA := ⟨_, rfl⟩
  have c0 : wA.cell? ⟨w1.heap.size, 0, none⟩ = some (.int .i64 x) := by rw [← hwA]; simp [go_sem]
  have c1 : wA.cell? ⟨w1.heap.size, 1, none⟩ = some (.int .i64 y) := by rw [← hwA]; simp [go_sem]
  rw [hwA] at hb ⊢
  clear hwA
  refine (HQ.out _).mono ?_
  rintro e w2 ⟨rfl, hb2⟩
  have hb := below_on hb hb2
  have c0 := cell_below c0 hb2
  have c1 := cell_below c1 hb2
  have hz := block_lt c0
  have hne : w1.heap.size ≠ w2.heap.size := by omega
  clear hb2
  go_wp2_with fail
  refine (HA.out _).mono ?_
  rintro e w3 ⟨rfl, hb3⟩
  go_wp2_with fail
  go_ret
  exact ⟨rfl, below_on (below_al hb _) hb3⟩

end Go.Proofs.Ytacmeadmmjehmaa
