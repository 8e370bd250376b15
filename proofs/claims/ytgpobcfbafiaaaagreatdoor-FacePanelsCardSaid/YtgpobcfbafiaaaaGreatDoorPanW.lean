/-
  The walk of the law FacePanels: it answers true. By an AI agent.
-/
import Derived.Test.YtgpobcfbafiaaaaGreatDoorPanE
import Derived.Test.YtgpobcfbafiaaaaGreatDoorFaceM
namespace Go.Proofs.YtgpobcfbafiaaaaGreatDoor
open Go.RowKit

theorem panelEnd_one (u g k : Int) (ls : List ByteArray) : ∃ sh sz h its er, ∀ w, PanelEnd w u g k ls = FaceEnd w sh sz h its er := by
  by_cases h0 : panE u g k ls = 0
  · exact ⟨_, _, _, _, _, fun w => panelEnd_ok h0⟩
  · exact ⟨_, _, _, _, _, fun w => panelEnd_err rfl h0⟩

set_option maxRecDepth 100000 in
set_option maxHeartbeats 4000000 in
theorem facePanels_any (u g k : Int) (a : Option Addr) (cap : Nat) (ls : List ByteArray) (w : World) (hT : Tabs w) (hI : LinesAt w a ls) :
    Calls Tryz.prog 12 #[.agg #[.slice a ls.length cap, .int .i64 u, .int .i64 g, .int .i64 k]] w fun e w' => e = .returned (.bool true) ∧ Below w.heap.size w w' := by
  have HT := Lib.hid hT
  have HI := Lib.hid hI
  obtain ⟨hlen, hst, blk, off, hadr, hce⟩ := hI
  have HF : Hid (∀ W, Below w.heap.size w W → Calls Tryz.prog 16 #[] W fun e w' => e = .returned (.bool true) ∧ Below W.heap.size W w') := Lib.hid fun W hb => first_any W (hT.below hb)
  have hB0 : Below w.heap.size w (w.alloc (.cells #[.slice a ls.length cap, .int .i64 u, .int .i64 g, .int .i64 k] 74)) := (Below.refl _ _).alloc (Nat.le_refl _) _
  have HB0 := Lib.hid hB0
  clear hT
  by_cases hn : (ls.length : Int) ≤ 40
  · obtain ⟨sh, sz, h, its, er, hPE⟩ := panelEnd_one u g k ls
    have HP : Hid (∀ W, Below w.heap.size w W → Calls Tryz.prog 48 #[.slice a ls.length cap, .int .i64 u, .int .i64 g, .int .i64 k] W (FaceEnd W sh sz h its er)) := Lib.hid fun W hb => by rw [← hPE]; exact panel_any u g k a cap ls W (HT.out.below hb).letters (HI.out.below hb)
    have HR : Hid (∀ W, Below w.heap.size w W → Calls Tryz.prog 49 #[.slice a ls.length cap, .int .i64 u, .int .i64 g, .int .i64 k] W (FaceEnd W sh sz h its er)) := Lib.hid fun W hb => by rw [← hPE]; exact refPanel_any u g k a cap ls W (HI.out.below hb)
    clear hPE
    go_enter Tryz.func12, Tryz.ntmps12
    go_wp2_with fail
    go_loop [3] (fun i => ∃ j : Nat, j ≤ ls.length ∧ i = .int .i64 j) (fun i => ls.length - (intOf i).toNat)
    case atStart => exact ⟨0, Nat.zero_le _, rfl⟩
    case round =>
      obtain ⟨j, hj, rfl⟩ := hrel
      by_cases hlt : j < ls.length
      · obtain rfl := hadr (fun h => by rw [h] at hlt; simp at hlt)
        have hcj := (hB0.cell (p := ⟨blk, off + j, none⟩) (block_lt (hce j hlt))).trans (hce j hlt)
        have hsj := hst ls[j] (List.getElem_mem hlt)
        unfold maxLen at hsj
        clear hce hst hadr hB0
        generalize ls[j] = s at *
        by_cases h100 : (s.size : Int) ≤ 100
        · go_wp2_with fail
          go_round
          case rel => exact ⟨j + 1, by omega, by go_num⟩
          case measure => simp [intOf]; omega
        · go_wp2_with (go_at_call 16; refine (HF.out _ HB0.out).mono ?_; rintro e w9 ⟨rfl, hb9⟩)
          go_ret
          exact ⟨rfl, box_below hb9⟩
      · clear hce hst hadr hB0
        go_wp2_with fail
        refine (HP.out _ HB0.out).mono ?_
        rintro e w1 ⟨hb1, a1, c1, rfl, hI1⟩
        obtain ⟨hc1, hf1⟩ := bcell hb1
        have hB1 := box_below hb1
        have hz1 : w.heap.size < w1.heap.size := by have := hb1.size; simp at this; omega
        have hB2 : Below w.heap.size w (w1.alloc (.cells #[.int .i64 sh, .int .i64 sz, .int .i64 h, .slice a1 its.length c1] 24)) := hB1.alloc hB1.size _
        go_wp2_with fail
        refine (HR.out _ hB2).mono ?_
        rintro e w3 ⟨hb3, a3, c3, rfl, hI3⟩
        obtain ⟨hc3, hf3⟩ := bcell hb3
        have hB3 : Below w.heap.size w w3 := hB1.trans ((box_below hb3).mono hB1.size)
        have hz3 : w1.heap.size < w3.heap.size := by have := hb3.size; simp at this; omega
        have hI1' := hI1.below (box_below hb3)
        have hB4 : Below w.heap.size w (w3.alloc (.cells #[.int .i64 sh, .int .i64 sz, .int .i64 h, .slice a3 its.length c3] 24)) := hB3.alloc hB3.size _
        have HS := Lib.hid (same_eq sh sz h a1 a3 c1 c3 its _ (hI1'.below ((Below.refl _ _).alloc (Nat.le_refl _) (.cells #[.int .i64 sh, .int .i64 sz, .int .i64 h, .slice a3 its.length c3] 24))) (hI3.below ((Below.refl _ _).alloc (Nat.le_refl _) (.cells #[.int .i64 sh, .int .i64 sz, .int .i64 h, .slice a3 its.length c3] 24))))
        clear hI1 hI3 hI1'
        go_wp2_with fail
        refine HS.out.mono ?_
        rintro e w5 ⟨rfl, hb5⟩
        have hB5 : Below w.heap.size w w5 := hB4.trans (hb5.mono hB4.size)
        go_wp2_with fail
        refine (HF.out _ hB5).mono ?_
        rintro e w9 ⟨rfl, hb9⟩
        go_wp2_with fail
        go_ret
        exact ⟨rfl, hB5.trans (hb9.mono hB5.size)⟩
  · go_enter Tryz.func12, Tryz.ntmps12
    go_wp2_with (go_at_call 16; refine (HF.out _ HB0.out).mono ?_; rintro e w9 ⟨rfl, hb9⟩)
    go_ret
    exact ⟨rfl, box_below hb9⟩
end Go.Proofs.YtgpobcfbafiaaaaGreatDoor
