/-
  The walk of the law FaceStrips at every input: it answers true. By an AI agent.
-/
import Derived.Test.YtgpobcfbafiaaabGreatDoorStripW
namespace Go.Proofs.YtgpobcfbafiaaabGreatDoor
open Go.RowKit

set_option maxRecDepth 100000 in
set_option maxHeartbeats 4000000 in
theorem strips_off (sh sz h wd : Int) (a : Option Addr) (cap : Nat) (its : List It) (w : World) (hT : Tabs w) (hI : ItemsAt w a its) (hoff : longB its = true ∨ faceB sh sz h its = false ∨ wd < 1 ∨ 200 < wd) :
    Calls Tryz.prog 7 #[.agg #[.int .i64 sh, .int .i64 sz, .int .i64 h, .slice a its.length cap], .int .i64 wd] w fun e w' => e = .returned (.bool true) ∧ Below w.heap.size w w' := by
  have HL : Hid (∀ W, Below w.heap.size w W → Calls Tryz.prog 23 #[.agg #[.int .i64 sh, .int .i64 sz, .int .i64 h, .slice a its.length cap]] W fun e w' => e = .returned (.bool (longB its)) ∧ Below W.heap.size W w') := Lib.hid fun W hb => long_any sh sz h a cap its W (hI.below hb)
  have HR : Hid (∀ W, Below w.heap.size w W → Calls Tryz.prog 9 #[.agg #[.int .i64 sh, .int .i64 sz, .int .i64 h, .slice a its.length cap]] W fun e w' => e = .returned (.bool (faceB sh sz h its)) ∧ Below W.heap.size W w') := Lib.hid fun W hb => refValid_any sh sz h a cap its W (hI.below hb)
  have H1 : Hid (∀ W, Below w.heap.size w W → Calls Tryz.prog 10 #[] W fun e w' => e = .returned (.bool true) ∧ Below W.heap.size W w') := Lib.hid fun W hb => first_any W (hT.below hb)
  clear hT hI
  generalize longB its = lb at *
  generalize faceB sh sz h its = fb at *
  generalize its.length = len at *
  have hb0 := Below.refl (w.alloc (.cells #[.int .i64 sh, .int .i64 sz, .int .i64 h, .slice a len cap] 24)).heap.size (w.alloc (.cells #[.int .i64 sh, .int .i64 sz, .int .i64 h, .slice a len cap] 24))
  cases lb
  · cases fb
    · clear hoff
      go_enter Tryz.func7, Tryz.ntmps7
      go_wp2_with fail
      refine (HL.out _ (box_below hb0)).mono ?_
      rintro e w1 ⟨rfl, hb1⟩
      obtain ⟨hc1, hf1⟩ := bcell hb1
      go_wp2_with fail
      refine (HR.out _ (box_below hb1)).mono ?_
      rintro e w2 ⟨rfl, hb2⟩
      have hb2 := hb1.trans (hb2.mono hb1.size)
      clear hc1 hf1
      go_wp2_with (first | (go_at_call 10; refine (H1.out _ (box_below hb2)).mono ?_; rintro e w9 ⟨rfl, hb9⟩))
      go_ret
      exact ⟨rfl, (box_below hb2).trans (hb9.mono (box_below hb2).size)⟩
    · have hw : wd < 1 ∨ 200 < wd := by
        rcases hoff with h | h | h | h
        · cases h
        · cases h
        · exact .inl h
        · exact .inr h
      clear hoff
      go_enter Tryz.func7, Tryz.ntmps7
      go_wp2_with fail
      refine (HL.out _ (box_below hb0)).mono ?_
      rintro e w1 ⟨rfl, hb1⟩
      obtain ⟨hc1, hf1⟩ := bcell hb1
      go_wp2_with fail
      refine (HR.out _ (box_below hb1)).mono ?_
      rintro e w2 ⟨rfl, hb2⟩
      have hb2 := hb1.trans (hb2.mono hb1.size)
      clear hc1 hf1
      rcases hw with hw | hw
      · go_wp2_with (first | (go_at_call 10; refine (H1.out _ (box_below hb2)).mono ?_; rintro e w9 ⟨rfl, hb9⟩))
        go_ret
        exact ⟨rfl, (box_below hb2).trans (hb9.mono (box_below hb2).size)⟩
      · have hw' : ¬ wd < 1 := by omega
        go_wp2_with (first | (go_at_call 10; refine (H1.out _ (box_below hb2)).mono ?_; rintro e w9 ⟨rfl, hb9⟩))
        go_ret
        exact ⟨rfl, (box_below hb2).trans (hb9.mono (box_below hb2).size)⟩
  · clear hoff
    go_enter Tryz.func7, Tryz.ntmps7
    go_wp2_with fail
    refine (HL.out _ (box_below hb0)).mono ?_
    rintro e w1 ⟨rfl, hb1⟩
    go_wp2_with (first | (go_at_call 10; refine (H1.out _ (box_below hb1)).mono ?_; rintro e w9 ⟨rfl, hb9⟩))
    go_ret
    exact ⟨rfl, (box_below hb1).trans (hb9.mono (box_below hb1).size)⟩

theorem faceStrips_any (sh sz h wd : Int) (a : Option Addr) (cap : Nat) (its : List It) (w : World) (hT : Tabs w) (hI : ItemsAt w a its) :
    Calls Tryz.prog 7 #[.agg #[.int .i64 sh, .int .i64 sz, .int .i64 h, .slice a its.length cap], .int .i64 wd] w fun e w' => e = .returned (.bool true) ∧ Below w.heap.size w w' := by
  by_cases h1 : longB its = true
  · exact strips_off sh sz h wd a cap its w hT hI (.inl h1)
  · by_cases h2 : faceB sh sz h its = true
    · by_cases h3 : btw wd 1 200 = true
      · exact strips_main sh sz h wd a cap its w hT hI (by simpa using h1) h2 h3
      · exact strips_off sh sz h wd a cap its w hT hI (.inr (.inr (by
          have h4 : btw wd 1 200 = false := by simpa using h3
          have := (btw_false _ _ _).1 h4
          omega)))
    · exact strips_off sh sz h wd a cap its w hT hI (.inr (.inl (by simpa using h2)))
end Go.Proofs.YtgpobcfbafiaaabGreatDoor
