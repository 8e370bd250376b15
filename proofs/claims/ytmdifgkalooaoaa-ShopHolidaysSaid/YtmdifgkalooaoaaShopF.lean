/-
  The walks of the reference's opened, Worked and After. By an AI agent.
-/
import Derived.Test.YtmdifgkalooaoaaShopE
namespace Go.Proofs.Ytmdifgkalooaoaa
set_option linter.unusedVariables false
set_option linter.unusedSimpArgs false
open Go.RowKit

set_option maxRecDepth 100000 in
set_option maxHeartbeats 2000000 in
theorem opened_sh (s : Sh) (d a b : Int) (w : World) (hI : IntsS w s.aH s.H) (h4 : s.H.length ≤ 400) (o0 : 0 ≤ s.O) (o1 : s.O < s.C) (o2 : s.C ≤ 1440) (d0 : 0 ≤ d) (d1 : d ≤ 100000000) (a0 : 0 ≤ a) (a1 : a ≤ 100000000000) (b0 : 0 ≤ b) (b1 : b ≤ 1000000000000) :
    Calls Try.prog 80 #[.agg #[.int .i64 s.O, .int .i64 s.C, .slice s.aH s.H.length s.cH, .int .i64 s.M, .slice s.aS s.S.length s.cS, .slice s.aJ s.J.length s.cJ], .int .i64 d, .int .i64 a, .int .i64 b] w fun e w' => e = .returned (.int .i64 (dayB s.O s.C s.H d a b)) ∧ Below w.heap.size w w' := by
  have HS := Lib.hid (fun W (hW : Below w.heap.size w W) => free_sh s d W (hI.below hW) h4)
  have hB := ShBox.start w s 25
  have hT : dayB s.O s.C s.H d a b = if hol s.H d then 0 else max 0 (min b (1440 * d + s.C) - max a (1440 * d + s.O)) := rfl
  have HT := Lib.hid hT
  clear hT
  generalize dayB s.O s.C s.H d a b = R at *
  generalize hol s.H d = hh at *
  clear hI
  have e0 : 0 ≤ 1440 * d := by omega
  have e1 : 1440 * d ≤ 144000000000 := by omega
  cases hh with
  | true =>
    have HT : Hid (R = 0) := Lib.hid (by rw [HT.out, if_pos rfl])
    go_enter Try.func80, Try.ntmps80
    go_wp2_with fail
    obtain ⟨wB, hwB⟩ : ∃ wB, w.alloc (.cells #[.int .i64 s.O, .int .i64 s.C, .slice s.aH s.H.length s.cH, .int .i64 s.M, .slice s.aS s.S.length s.cS, .slice s.aJ s.J.length s.cJ] 25) = wB := ⟨_, rfl⟩
    rw [hwB] at hB ⊢
    clear hwB
    refine (HS.out _ hB.1).mono ?_
    rintro e w1 ⟨rfl, hb1⟩
    go_wp2_with fail
    go_ret
    rw [HT.out]
    exact ⟨rfl, hB.1.trans (hb1.mono hB.1.size)⟩
  | false =>
    have HT : Hid (R = max 0 (min b (1440 * d + s.C) - max a (1440 * d + s.O))) := Lib.hid (by rw [HT.out]; simp)
    by_cases g1 : b < 1440 * d + s.C <;> by_cases g2 : a < 1440 * d + s.O
    all_goals
      go_enter Try.func80, Try.ntmps80
      go_wp2_with fail
      obtain ⟨wB, hwB⟩ : ∃ wB, w.alloc (.cells #[.int .i64 s.O, .int .i64 s.C, .slice s.aH s.H.length s.cH, .int .i64 s.M, .slice s.aS s.S.length s.cS, .slice s.aJ s.J.length s.cJ] 25) = wB := ⟨_, rfl⟩
      rw [hwB] at hB ⊢
      clear hwB
      refine (HS.out _ hB.1).mono ?_
      rintro e w1 ⟨rfl, hb1⟩
      obtain ⟨hb, p0, p1, p2, p3, p4, p5⟩ := hB.on hb1
      clear hb1 hB HS
      go_wp2_with fail
      all_goals
        go_ret
        exact ⟨ret_i (by have := HT.out; (try split) <;> omega), hb⟩
end Go.Proofs.Ytmdifgkalooaoaa
