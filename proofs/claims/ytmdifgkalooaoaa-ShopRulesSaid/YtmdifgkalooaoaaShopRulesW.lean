/-
  The walk of the law ShopRules: it answers true. By an AI agent.
-/
import Derived.Test.YtmdifgkalooaoaaShopFi
import Derived.Test.YtmdifgkalooaoaaShopL2
import Derived.Deep.RegionHeld3
namespace Go.Proofs.Ytmdifgkalooaoaa
set_option linter.unusedVariables false
set_option linter.unusedSimpArgs false
open Go.RowKit

set_option maxRecDepth 100000 in
set_option maxHeartbeats 8000000 in
theorem shopRules_any (s : Sh) (n : Int) (w : World) (hI : ShS w s) (hn : I64 n) :
    Calls Try.prog 3 #[.agg #[.int .i64 s.O, .int .i64 s.C, .slice s.aH s.H.length s.cH, .int .i64 s.M, .slice s.aS s.S.length s.cS, .slice s.aJ s.J.length s.cJ], .int .i64 n] w fun e w' => e = .returned (.bool true) ∧ Below w.heap.size w w' := by
  obtain ⟨hn0, hn1⟩ := hn
  have HLo := Lib.hid (fun W (hW : Below w.heap.size w W) => long_sh s W (hI.below hW))
  have HRV := Lib.hid (fun W (hW : Below w.heap.size w W) => refValid_sh s W (hI.below hW))
  have HVa := Lib.hid (fun W (hW : Below w.heap.size w W) => Valid_sh s W (hI.below hW))
  have HFi := Lib.hid first_sh
  have hB := ShBox.start w s 25
  by_cases hV : ShOk s
  · rw [shB_t hV] at HRV HVa
    clear hV hI
    go_enter Try.func3, Try.ntmps3
    go_wp2_with fail
    obtain ⟨wB, hwB⟩ : ∃ wB, w.alloc (.cells #[.int .i64 s.O, .int .i64 s.C, .slice s.aH s.H.length s.cH, .int .i64 s.M, .slice s.aS s.S.length s.cS, .slice s.aJ s.J.length s.cJ] 25) = wB := ⟨_, rfl⟩
    rw [hwB] at hB ⊢
    clear hwB
    refine (HLo.out _ hB.1).mono ?_
    rintro e w1 ⟨⟨b, rfl⟩, hb1⟩
    have HB := Lib.hid (hB.on hb1)
    obtain ⟨hb, p0, p1, p2, p3, p4, p5⟩ := hB.on hb1
    clear hb1 hB
    cases b with
    | true =>
      go_wp2_with fail
      refine (HFi.out _).mono ?_
      rintro e w9 ⟨rfl, hb9⟩
      go_wp2_with fail
      go_ret
      exact ⟨rfl, hb.trans (hb9.mono hb.size)⟩
    | false =>
      go_wp2_with fail
      refine (HRV.out _ hb).mono ?_
      rintro e w2 ⟨rfl, hb2⟩
      have HB2 := Lib.hid (HB.out.on hb2)
      obtain ⟨hb, p0, p1, p2, p3, p4, p5⟩ := HB.out.on hb2
      clear hb2 HB
      go_wp2_with fail
      refine (HVa.out _ hb).mono ?_
      rintro e w3 ⟨rfl, hb3⟩
      have hb := hb.trans (hb3.mono hb.size)
      clear hb3
      go_wp2_with fail
      refine (HFi.out _).mono ?_
      rintro e w9 ⟨rfl, hb9⟩
      go_wp2_with fail
      go_ret
      exact ⟨rfl, hb.trans (hb9.mono hb.size)⟩
  · rw [shB_f hV] at HRV HVa
    have H0 := Lib.hid (fun W (hW : Below w.heap.size w W) => next_bad s n 1 W (hI.below hW) hV)
    have H1 := Lib.hid (fun W (hW : Below w.heap.size w W) => worked_bad s 0 n W (hI.below hW) hV)
    have H2 := Lib.hid (fun W (hW : Below w.heap.size w W) => after_bad s 0 n W (hI.below hW) hV)
    have H3 := Lib.hid (fun W (hW : Below w.heap.size w W) => judge_bad s (.slice none 0 0) W (hI.below hW) hV)
    have H4 := Lib.hid (fun W (hW : Below w.heap.size w W) => end_bad s (.slice none 0 0) W (hI.below hW) hV)
    have H5 := Lib.hid (fun W (hW : Below w.heap.size w W) => dispatch_bad s W (hI.below hW) hV)
    have H6 := Lib.hid (fun W (hW : Below w.heap.size w W) => chain_bad s n W (hI.below hW) hV)
    have H7 := Lib.hid (fun W (hW : Below w.heap.size w W) => load_bad s n W (hI.below hW) hV)
    have H8 := Lib.hid (fun W (hW : Below w.heap.size w W) => bound_bad s W (hI.below hW) hV)
    have H9 := Lib.hid (fun W (hW : Below w.heap.size w W) => order_bad s (.slice none 0 0) n W (hI.below hW) hV)
    have H10 := Lib.hid (fun W (hW : Below w.heap.size w W) => pull_bad s (.slice none 0 0) W (hI.below hW) hV)
    have H11 := Lib.hid (fun W (hW : Below w.heap.size w W) => alone_bad s n W (hI.below hW) hV)
    clear hV hI
    go_enter Try.func3, Try.ntmps3
    go_wp2_with fail
    obtain ⟨wB, hwB⟩ : ∃ wB, w.alloc (.cells #[.int .i64 s.O, .int .i64 s.C, .slice s.aH s.H.length s.cH, .int .i64 s.M, .slice s.aS s.S.length s.cS, .slice s.aJ s.J.length s.cJ] 25) = wB := ⟨_, rfl⟩
    rw [hwB] at hB ⊢
    clear hwB
    refine (HLo.out _ hB.1).mono ?_
    rintro e w1 ⟨⟨b, rfl⟩, hb1⟩
    have HB := Lib.hid (hB.on hb1)
    obtain ⟨hb, p0, p1, p2, p3, p4, p5⟩ := hB.on hb1
    clear hb1 hB
    cases b with
    | true =>
      go_wp2_with fail
      refine (HFi.out _).mono ?_
      rintro e w9 ⟨rfl, hb9⟩
      go_wp2_with fail
      go_ret
      exact ⟨rfl, hb.trans (hb9.mono hb.size)⟩
    | false =>
      go_wp2_with fail
      refine (HRV.out _ hb).mono ?_
      rintro e w2 ⟨rfl, hb2⟩
      have HB2 := Lib.hid (HB.out.on hb2)
      obtain ⟨hb, p0, p1, p2, p3, p4, p5⟩ := HB.out.on hb2
      clear hb2 HB
      go_wp2_with fail
      refine (H0.out _ hb).mono ?_
      rintro e x0 ⟨rfl, hc0⟩
      have HC0 := Lib.hid (HB2.out.on hc0)
      obtain ⟨hb, p0, p1, p2, p3, p4, p5⟩ := HB2.out.on hc0
      clear hc0 HB2 H0
      go_wp2_with fail
      refine (H1.out _ hb).mono ?_
      rintro e x1 ⟨rfl, hc1⟩
      have HC1 := Lib.hid (HC0.out.on hc1)
      obtain ⟨hb, p0, p1, p2, p3, p4, p5⟩ := HC0.out.on hc1
      clear hc1 HC0 H1
      go_wp2_with fail
      refine (H2.out _ hb).mono ?_
      rintro e x2 ⟨rfl, hc2⟩
      have HC2 := Lib.hid (HC1.out.on hc2)
      obtain ⟨hb, p0, p1, p2, p3, p4, p5⟩ := HC1.out.on hc2
      clear hc2 HC1 H2
      go_wp2_with fail
      refine (H3.out _ hb).mono ?_
      rintro e x3 ⟨rfl, hc3⟩
      have HC3 := Lib.hid (HC2.out.on hc3)
      obtain ⟨hb, p0, p1, p2, p3, p4, p5⟩ := HC2.out.on hc3
      clear hc3 HC2 H3
      go_wp2_with fail
      refine (H4.out _ hb).mono ?_
      rintro e x4 ⟨rfl, hc4⟩
      have HC4 := Lib.hid (HC3.out.on hc4)
      obtain ⟨hb, p0, p1, p2, p3, p4, p5⟩ := HC3.out.on hc4
      clear hc4 HC3 H4
      go_wp2_with fail
      refine (H5.out _ hb).mono ?_
      rintro e x5 ⟨rfl, hc5⟩
      have HC5 := Lib.hid (HC4.out.on hc5)
      obtain ⟨hb, p0, p1, p2, p3, p4, p5⟩ := HC4.out.on hc5
      clear hc5 HC4 H5
      go_wp2_with fail
      refine (H6.out _ hb).mono ?_
      rintro e x6 ⟨rfl, hc6⟩
      have HC6 := Lib.hid (HC5.out.on hc6)
      obtain ⟨hb, p0, p1, p2, p3, p4, p5⟩ := HC5.out.on hc6
      clear hc6 HC5 H6
      go_wp2_with fail
      refine (H7.out _ hb).mono ?_
      rintro e x7 ⟨rfl, hc7⟩
      have HC7 := Lib.hid (HC6.out.on hc7)
      obtain ⟨hb, p0, p1, p2, p3, p4, p5⟩ := HC6.out.on hc7
      clear hc7 HC6 H7
      go_wp2_with fail
      refine (H8.out _ hb).mono ?_
      rintro e x8 ⟨rfl, hc8⟩
      have HC8 := Lib.hid (HC7.out.on hc8)
      obtain ⟨hb, p0, p1, p2, p3, p4, p5⟩ := HC7.out.on hc8
      clear hc8 HC7 H8
      go_wp2_with fail
      refine (H9.out _ hb).mono ?_
      rintro e x9 ⟨rfl, hc9⟩
      have HC9 := Lib.hid (HC8.out.on hc9)
      obtain ⟨hb, p0, p1, p2, p3, p4, p5⟩ := HC8.out.on hc9
      clear hc9 HC8 H9
      go_wp2_with fail
      refine (H10.out _ hb).mono ?_
      rintro e x10 ⟨rfl, hc10⟩
      have HC10 := Lib.hid (HC9.out.on hc10)
      obtain ⟨hb, p0, p1, p2, p3, p4, p5⟩ := HC9.out.on hc10
      clear hc10 HC9 H10
      go_wp2_with fail
      refine (H11.out _ hb).mono ?_
      rintro e x11 ⟨rfl, hc11⟩
      have HC11 := Lib.hid (HC10.out.on hc11)
      obtain ⟨hb, p0, p1, p2, p3, p4, p5⟩ := HC10.out.on hc11
      clear hc11 HC10 H11
      go_wp2_with fail
      obtain ⟨wC, hwC⟩ : ∃ wC, (x11.alloc (.cells #[.int .i64 0, .int .i64 0, .slice none 0 0, .int .i64 0, .slice none 0 0, .slice none 0 0] 25)).alloc (.cells #[.int .i64 50, .int .i64 50, .int .i64 50, .int .i64 50, .int .i64 50, .int .i64 50, .int .i64 50, .int .i64 50, .int .i64 50, .int .i64 50, .int .i64 50, .int .i64 50] 28) = wC := ⟨_, rfl⟩
      have hxC : Below x11.heap.size x11 wC := by rw [← hwC]; exact ((Below.refl _ _).alloc (Nat.le_refl _) _).alloc (by simp) _
      have hk : ∀ k, k < 12 → wC.cell? ⟨x11.heap.size + 1, k, none⟩ = some (.int .i64 50) := by
        intro k hk
        have h12 : k = 0 ∨ k = 1 ∨ k = 2 ∨ k = 3 ∨ k = 4 ∨ k = 5 ∨ k = 6 ∨ k = 7 ∨ k = 8 ∨ k = 9 ∨ k = 10 ∨ k = 11 := by omega
        rw [← hwC]
        rcases h12 with rfl | rfl | rfl | rfl | rfl | rfl | rfl | rfl | rfl | rfl | rfl | rfl <;> simp [go_sem]
      have HK := Lib.hid hk
      have HC := Lib.hid (HC11.out.on hxC)
      rw [hwC]
      clear hk hxC hwC hb p0 p1 p2 p3 p4 p5 HC11
      go_loop [125] (fun i => ∃ k : Nat, k ≤ 12 ∧ i = .int .i64 k) (fun i => 12 - (intOf i).toNat)
      case atStart => exact ⟨0, by omega, rfl⟩
      case round =>
        obtain ⟨k, hk, rfl⟩ := hrel
        by_cases hlt : k < 12
        · have c0 := HK.out k hlt
          clear HK
          go_wp2_with fail
          go_round
          case rel => exact ⟨k + 1, by omega, by go_num⟩
          case measure => simp [intOf]; omega
        · obtain rfl : k = 12 := by omega
          obtain ⟨hb, p0, p1, p2, p3, p4, p5⟩ := HC.out
          clear HK
          go_wp2_with fail
          refine (HVa.out _ hb).mono ?_
          rintro e w3 ⟨rfl, hb3⟩
          have hb := hb.trans (hb3.mono hb.size)
          clear hb3
          go_wp2_with fail
          refine (HFi.out _).mono ?_
          rintro e w9 ⟨rfl, hb9⟩
          go_wp2_with fail
          go_ret
          exact ⟨rfl, hb.trans (hb9.mono hb.size)⟩
end Go.Proofs.Ytmdifgkalooaoaa
