/-
  SheetClears: what Clear returns. By an AI agent.
-/
import Derived.Test.YthiaefhejdfobaaSheF
import Derived.Deep.RegionHeld3
import Derived.BigQuiet
namespace Go.Proofs.Ythiaefhejdfobaa
set_option linter.unusedVariables false
set_option linter.unusedSimpArgs false
open Go.RowKit

set_option maxHeartbeats 1000000 in
theorem sheetClears_any (L need : Int) (a : Option Addr) (l : List (Int × Int)) (c : Nat) (w : World) (hA : PairsS w a l) (hL : I64 L) (hN : I64 need) :
    Calls Try.prog 4 #[.int .i64 L, .slice a l.length c, .int .i64 need] w fun e w' => e = .returned (.bool true) ∧ Below w.heap.size w w' := by
  by_cases h40 : 40 < l.length
  · clear hA
    go_enter Try.func4, Try.ntmps4
    go_wp2_with fail
    refine (awakeS_any w).mono ?_
    rintro e w1 ⟨rfl, hb1⟩
    go_wp2_with fail
    go_ret
    exact ⟨rfl, hb1⟩
  · have h40 : l.length ≤ 40 := by omega
    have HV := Lib.hid (clearS_any L need a l c w hA (by omega) hL hN)
    have HW := Lib.hid (fun W (hW : Below w.heap.size w W) => clearR_any L need a l c W (hA.below hW) hL hN)
    clear hA hL hN
    generalize clearV L need l = V at *
    obtain ⟨v0, v1⟩ := V
    simp only at HV HW
    go_enter Try.func4, Try.ntmps4
    go_wp2_with fail
    refine HV.out.mono ?_
    rintro e w1 ⟨rfl, hb1⟩
    go_wp2_with fail
    refine (HW.out _ hb1).mono ?_
    rintro e w2 ⟨rfl, hb2⟩
    have hb := hb1.trans (hb2.mono hb1.size)
    clear HV HW hb1 hb2
    cases v1
    all_goals
      go_wp2_with fail
      refine (awakeS_any w2).mono ?_
      rintro e w3 ⟨rfl, hb3⟩
      go_wp2_with fail
      go_ret
      exact ⟨rfl, hb.trans (hb3.mono hb.size)⟩
end Go.Proofs.Ythiaefhejdfobaa
