/-
  The walk of the law CutLeast: it answers true. By an AI agent.
-/
import Derived.Test.YtmeoekcajmgiaaaCutYr
import Derived.Test.YtmeoekcajmgiaaaCutV
import Derived.Test.YtmeoekcajmgiaaaCutH
namespace Go.Proofs.Ytmeoekcajmgiaaa
set_option linter.unusedVariables false
set_option linter.unusedSimpArgs false
open Go.RowKit

set_option maxRecDepth 100000 in
set_option maxHeartbeats 1000000 in
theorem cutLeast_any (L K : Int) (aa : Option Addr) (l : List (Int × Int)) (ca : Nat) (w : World) (hA : PairsS w aa l) :
    Calls Try.prog 3 #[.agg #[.int .i64 L, .int .i64 K, .slice aa l.length ca]] w fun E w' => E = .returned (.bool true) ∧ Below w.heap.size w w' := by
  have hlA := hA.1
  have HW := Lib.hid (fun W => wideNil2_any L K aa l ca W hlA)
  have HF : Hid (l.length ≤ 30 → ∀ W, Below w.heap.size w W → ∀ N : Int, 0 ≤ N → N ≤ 100 → Calls Try.prog 6 #[.agg #[.int .i64 L, .int .i64 K, .slice aa l.length ca], .int .i64 N] W fun e w' => SB e ∧ Below W.heap.size W w') := Lib.hid fun hl W hW N N0 N1 => fewSome_any L K aa l ca N W (hA.below hW) hl N0 N1
  have HP := Lib.hid (fun W (hW : Below w.heap.size w W) => Least_any L K aa l ca W (hA.below hW))
  have HQ := Lib.hid (fun W (hW : Below w.heap.size w W) => refLeast_any L K aa l ca W (hA.below hW))
  have H1 := Lib.hid awake_any
  have hS := InBox.start w L K (.slice aa l.length ca) 24
  clear hA
  generalize leastV L K l = lv at *
  generalize leastE L K l = le at *
  have hvv : (lv == lv) = true := by simp
  have hee : (le == le) = true := by simp
  go_enter Try.func3, Try.ntmps3
  go_wp2_with fail
  refine (HW.out _).mono ?_
  rintro E w1 ⟨rfl, hb1⟩
  have hB1 := hS.on hb1
  obtain ⟨q1, p0, p1, p2⟩ := hB1
  have fin : ∀ {wz w8 : World}, Below w.heap.size w wz → Below wz.heap.size wz w8 → Below w.heap.size w w8 := fun h g => h.trans (g.mono h.size)
  by_cases h30 : (30 : Int) < l.length
  · rw [decide_eq_true h30]
    clear h30 HF HP HQ
    go_wp2_with fail
    refine (H1.out _).mono ?_
    rintro E w9 ⟨rfl, hb9⟩
    go_wp2_with fail
    go_ret
    exact ⟨rfl, fin q1 hb9⟩
  · rw [decide_eq_false h30]
    have HF2 := Lib.hid (HF.out (by omega))
    clear h30 HF
    go_wp2_with fail
    refine (HF2.out _ q1 10 (by omega) (by omega)).mono ?_
    rintro E w2 ⟨⟨b2, rfl⟩, hb2⟩
    replace p0 := cell_below p0 hb2
    replace p1 := cell_below p1 hb2
    replace p2 := cell_below p2 hb2
    have q2 := fin q1 hb2
    clear hb2
    cases b2 with
    | true =>
      go_wp2_with fail
      refine (HF2.out _ q2 8 (by omega) (by omega)).mono ?_
      rintro E w3 ⟨⟨b3, rfl⟩, hb3⟩
      replace p0 := cell_below p0 hb3
      replace p1 := cell_below p1 hb3
      replace p2 := cell_below p2 hb3
      have q3 := fin q2 hb3
      clear hb3
      cases b3 with
      | true =>
        go_wp2_with fail
        refine (HP.out _ q3).mono ?_
        rintro E w4 ⟨rfl, hb4⟩
        replace p0 := cell_below p0 hb4
        replace p1 := cell_below p1 hb4
        replace p2 := cell_below p2 hb4
        have q4 := fin q3 hb4
        clear hb4
        go_wp2_with fail
        refine (HQ.out _ q4).mono ?_
        rintro E w5 ⟨rfl, hb5⟩
        have q5 := fin q4 hb5
        clear hb5
        go_wp2_with fail
        refine (H1.out _).mono ?_
        rintro E w9 ⟨rfl, hb9⟩
        go_wp2_with fail
        go_ret
        exact ⟨rfl, fin q5 hb9⟩
      | false =>
        go_wp2_with fail
        refine (H1.out _).mono ?_
        rintro E w9 ⟨rfl, hb9⟩
        go_wp2_with fail
        go_ret
        exact ⟨rfl, fin q3 hb9⟩
    | false =>
      go_wp2_with fail
      refine (HP.out _ q2).mono ?_
      rintro E w4 ⟨rfl, hb4⟩
      replace p0 := cell_below p0 hb4
      replace p1 := cell_below p1 hb4
      replace p2 := cell_below p2 hb4
      have q4 := fin q2 hb4
      clear hb4
      go_wp2_with fail
      refine (HQ.out _ q4).mono ?_
      rintro E w5 ⟨rfl, hb5⟩
      have q5 := fin q4 hb5
      clear hb5
      go_wp2_with fail
      refine (H1.out _).mono ?_
      rintro E w9 ⟨rfl, hb9⟩
      go_wp2_with fail
      go_ret
      exact ⟨rfl, fin q5 hb9⟩
end Go.Proofs.Ytmeoekcajmgiaaa
