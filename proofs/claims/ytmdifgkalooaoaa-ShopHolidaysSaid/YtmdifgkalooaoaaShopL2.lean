/-
  The walk of the reference's Valid, whole. By an AI agent.
-/
import Derived.Test.YtmdifgkalooaoaaShopL
import Derived.Deep.RegionHeld3
namespace Go.Proofs.Ytmdifgkalooaoaa
set_option linter.unusedVariables false
set_option linter.unusedSimpArgs false
open Go.RowKit

set_option maxRecDepth 100000 in
set_option maxHeartbeats 4000000 in
theorem refValid_sh (s : Sh) (w : World) (hI : ShS w s) :
    Calls Try.prog 20 #[.agg #[.int .i64 s.O, .int .i64 s.C, .slice s.aH s.H.length s.cH, .int .i64 s.M, .slice s.aS s.S.length s.cS, .slice s.aJ s.J.length s.cJ]] w fun e w' => e = .returned (.bool (shB s)) ∧ Below w.heap.size w w' := by
  have hlH := hI.1.1
  have hlS := hI.2.1.1
  have hlJ := hI.2.2.1
  have hB := ShBox.start w s 25
  by_cases h1 : 0 ≤ s.O
  · have _t := h1
    by_cases h2 : s.O < s.C
    · have _t := h1
      by_cases h3 : s.C ≤ 1440
      · have _t := h1
        by_cases h4 : s.H.length ≤ 400
        · have _t := h1
          by_cases h5 : 1 ≤ s.M ∧ s.M ≤ 6
          · have _t := h1
            by_cases h6 : (s.S.length : Int) = s.M
            · have _t := h1
              by_cases h7 : s.J.length ≤ 12
              · exact refValid_main s w hI h1 h2 h3 h4 h5.1 h5.2 h6 h7
              · have HR := Lib.hid (shB_f (s := s) (fun g => h7 g.2.2.2.1))
                generalize shB s = R at *
                clear hI
                have n4 : ¬ (400 : Int) < s.H.length := by omega
                have n7 : (12 : Int) < s.J.length := by omega
                have n6 : ((s.S.length : Int) != s.M) = false := by simpa using h6
                have HM := Lib.hid (btw_t h5.1 h5.2)
                clear h6
                go_enter Try.func20, Try.ntmps20
                go_wp2_with (go_at_call 48; refine (rin_any _ _ _ _).mono ?_; rintro e w' ⟨rfl, rfl⟩; rw [HM.out])
                go_ret
                rw [HR.out]
                exact ⟨rfl, hB.1⟩
            · have HR := Lib.hid (shB_f (s := s) (fun g => h6 g.2.2.1.2.1))
              generalize shB s = R at *
              clear hI
              have n4 : ¬ (400 : Int) < s.H.length := by omega
              have n6 : ((s.S.length : Int) != s.M) = true := by simpa using h6
              have HM := Lib.hid (btw_t h5.1 h5.2)
              clear h6
              go_enter Try.func20, Try.ntmps20
              go_wp2_with (go_at_call 48; refine (rin_any _ _ _ _).mono ?_; rintro e w' ⟨rfl, rfl⟩; rw [HM.out])
              go_ret
              rw [HR.out]
              exact ⟨rfl, hB.1⟩
          · have HR := Lib.hid (shB_f (s := s) (fun g => h5 g.2.2.1.1))
            generalize shB s = R at *
            clear hI
            have n4 : ¬ (400 : Int) < s.H.length := by omega
            have HM := Lib.hid (btw_f h5)
            clear h5
            go_enter Try.func20, Try.ntmps20
            go_wp2_with (go_at_call 48; refine (rin_any _ _ _ _).mono ?_; rintro e w' ⟨rfl, rfl⟩; rw [HM.out])
            go_ret
            rw [HR.out]
            exact ⟨rfl, hB.1⟩
        · have HR := Lib.hid (shB_f (s := s) (fun g => h4 g.2.1.1))
          generalize shB s = R at *
          clear hI
          have n4 : (400 : Int) < s.H.length := by omega
          go_enter Try.func20, Try.ntmps20
          go_wp2_with fail
          go_ret
          rw [HR.out]
          exact ⟨rfl, hB.1⟩
      · have HR := Lib.hid (shB_f (s := s) (fun g => h3 g.1.2.2))
        generalize shB s = R at *
        clear hI
        go_enter Try.func20, Try.ntmps20
        go_wp2_with fail
        go_ret
        rw [HR.out]
        exact ⟨rfl, hB.1⟩
    · have HR := Lib.hid (shB_f (s := s) (fun g => h2 g.1.2.1))
      generalize shB s = R at *
      clear hI
      go_enter Try.func20, Try.ntmps20
      go_wp2_with fail
      go_ret
      rw [HR.out]
      exact ⟨rfl, hB.1⟩
  · have HR := Lib.hid (shB_f (s := s) (fun g => h1 g.1.1))
    generalize shB s = R at *
    clear hI
    go_enter Try.func20, Try.ntmps20
    go_wp2_with fail
    go_ret
    rw [HR.out]
    exact ⟨rfl, hB.1⟩
end Go.Proofs.Ytmdifgkalooaoaa
