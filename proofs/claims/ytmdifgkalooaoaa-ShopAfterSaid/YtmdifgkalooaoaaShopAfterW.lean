/-
  The walk of the law ShopAfter: it answers true. By an AI agent.
-/
import Derived.Test.YtmdifgkalooaoaaShopFi
import Derived.Test.YtmdifgkalooaoaaShopL2
import Derived.Test.YtmdifgkalooaoaaShopG
import Derived.Deep.RegionHeld3
namespace Go.Proofs.Ytmdifgkalooaoaa
set_option linter.unusedVariables false
set_option linter.unusedSimpArgs false
open Go.RowKit

set_option maxRecDepth 100000 in
set_option maxHeartbeats 4000000 in
theorem shopAfter_any (s : Sh) (t m : Int) (w : World) (hI : ShS w s) (ht : I64 t) (hm : I64 m) :
    Calls Try.prog 6 #[.agg #[.int .i64 s.O, .int .i64 s.C, .slice s.aH s.H.length s.cH, .int .i64 s.M, .slice s.aS s.S.length s.cS, .slice s.aJ s.J.length s.cJ], .int .i64 t, .int .i64 m] w fun e w' => e = .returned (.bool true) ∧ Below w.heap.size w w' := by
  obtain ⟨ht0, ht1⟩ := ht
  obtain ⟨hm0, hm1⟩ := hm
  have HLo := Lib.hid (fun W (hW : Below w.heap.size w W) => long_sh s W (hI.below hW))
  have HRV := Lib.hid (fun W (hW : Below w.heap.size w W) => refValid_sh s W (hI.below hW))
  have HFi := Lib.hid first_sh
  have hB := ShBox.start w s 25
  by_cases hV : ShOk s
  · rw [shB_t hV] at HRV
    obtain ⟨o0, o1, o2⟩ := hV.1
    by_cases hr : (0 ≤ t ∧ t ≤ 100000000) ∧ 0 ≤ m ∧ m ≤ 1000000
    · obtain ⟨⟨r0, r1⟩, r2, r3⟩ := hr
      obtain ⟨n, rfl⟩ : ∃ n : Nat, m = n := ⟨m.toNat, by omega⟩
      have HN := Lib.hid (fun W (hW : Below w.heap.size w W) => after_ok s t n W (hI.below hW) hV r0 r1 (by omega))
      have HRN := Lib.hid (fun W (hW : Below w.heap.size w W) => refAfter_sh s t n W (hI.below hW).1 hV.2.1 o0 o1 o2 r0 (by omega) (by omega))
      clear hV hI
      generalize aftV s.O s.C s.H t n = R at *
      have hRR : (R == R) = true := by simp
      by_cases hn : (n : Int) ≤ 20000
      · go_enter Try.func6, Try.ntmps6
        go_wp2_with fail
        obtain ⟨wB, hwB⟩ : ∃ wB, w.alloc (.cells #[.int .i64 s.O, .int .i64 s.C, .slice s.aH s.H.length s.cH, .int .i64 s.M, .slice s.aS s.S.length s.cS, .slice s.aJ s.J.length s.cJ] 25) = wB := ⟨_, rfl⟩
        rw [hwB] at hB ⊢
        clear hwB
        refine (HLo.out _ hB.1).mono ?_
        rintro e w1 ⟨⟨b, rfl⟩, hb1⟩
        have HB := Lib.hid (hB.on hb1)
        obtain ⟨hb, p0, p1, p2, p3, p4, p5⟩ := hB.on hb1
        clear hb1 hB
        cases b with
        | true =>
          go_wp2_with fail
          refine (HFi.out _).mono ?_
          rintro e w9 ⟨rfl, hb9⟩
          go_wp2_with fail
          go_ret
          exact ⟨rfl, hb.trans (hb9.mono hb.size)⟩
        | false =>
          go_wp2_with fail
          refine (HRV.out _ hb).mono ?_
          rintro e w2 ⟨rfl, hb2⟩
          have HB2 := Lib.hid (HB.out.on hb2)
          obtain ⟨hb, p0, p1, p2, p3, p4, p5⟩ := HB.out.on hb2
          clear hb2 HB
          go_wp2_with fail
          refine (HN.out _ hb).mono ?_
          rintro e w3 ⟨rfl, hb3⟩
          have HB3 := Lib.hid (HB2.out.on hb3)
          obtain ⟨hb, p0, p1, p2, p3, p4, p5⟩ := HB2.out.on hb3
          clear hb3 HB2 HN
          go_wp2_with fail
          refine (HRN.out _ hb).mono ?_
          rintro e w4 ⟨rfl, hb4⟩
          have hb := hb.trans (hb4.mono hb.size)
          clear hb4
          go_wp2_with fail
          refine (HFi.out _).mono ?_
          rintro e w9 ⟨rfl, hb9⟩
          go_wp2_with fail
          go_ret
          exact ⟨rfl, hb.trans (hb9.mono hb.size)⟩
      · go_enter Try.func6, Try.ntmps6
        go_wp2_with fail
        obtain ⟨wB, hwB⟩ : ∃ wB, w.alloc (.cells #[.int .i64 s.O, .int .i64 s.C, .slice s.aH s.H.length s.cH, .int .i64 s.M, .slice s.aS s.S.length s.cS, .slice s.aJ s.J.length s.cJ] 25) = wB := ⟨_, rfl⟩
        rw [hwB] at hB ⊢
        clear hwB
        refine (HLo.out _ hB.1).mono ?_
        rintro e w1 ⟨⟨b, rfl⟩, hb1⟩
        have HB := Lib.hid (hB.on hb1)
        obtain ⟨hb, p0, p1, p2, p3, p4, p5⟩ := hB.on hb1
        clear hb1 hB
        cases b with
        | true =>
          go_wp2_with fail
          refine (HFi.out _).mono ?_
          rintro e w9 ⟨rfl, hb9⟩
          go_wp2_with fail
          go_ret
          exact ⟨rfl, hb.trans (hb9.mono hb.size)⟩
        | false =>
          go_wp2_with fail
          refine (HRV.out _ hb).mono ?_
          rintro e w2 ⟨rfl, hb2⟩
          have HB2 := Lib.hid (HB.out.on hb2)
          obtain ⟨hb, p0, p1, p2, p3, p4, p5⟩ := HB.out.on hb2
          clear hb2 HB
          go_wp2_with fail
          refine (HFi.out _).mono ?_
          rintro e w9 ⟨rfl, hb9⟩
          go_wp2_with fail
          go_ret
          exact ⟨rfl, hb.trans (hb9.mono hb.size)⟩
    · have HN := Lib.hid (fun W (hW : Below w.heap.size w W) => after_arg s t m W (hI.below hW) hV hr)
      have hr4 : t < 0 ∨ (0 ≤ t ∧ 100000000 < t) ∨ (0 ≤ t ∧ t ≤ 100000000 ∧ m < 0) ∨ (0 ≤ t ∧ t ≤ 100000000 ∧ 0 ≤ m ∧ 1000000 < m) := by omega
      clear hV hI hr
      rcases hr4 with g | ⟨g0, g1⟩ | ⟨g0, g1, g2⟩ | ⟨g0, g1, g2, g3⟩
      all_goals
        go_enter Try.func6, Try.ntmps6
        go_wp2_with fail
        obtain ⟨wB, hwB⟩ : ∃ wB, w.alloc (.cells #[.int .i64 s.O, .int .i64 s.C, .slice s.aH s.H.length s.cH, .int .i64 s.M, .slice s.aS s.S.length s.cS, .slice s.aJ s.J.length s.cJ] 25) = wB := ⟨_, rfl⟩
        rw [hwB] at hB ⊢
        clear hwB
        refine (HLo.out _ hB.1).mono ?_
        rintro e w1 ⟨⟨b, rfl⟩, hb1⟩
        have HB := Lib.hid (hB.on hb1)
        obtain ⟨hb, p0, p1, p2, p3, p4, p5⟩ := hB.on hb1
        clear hb1 hB
        cases b with
        | true =>
          go_wp2_with fail
          refine (HFi.out _).mono ?_
          rintro e w9 ⟨rfl, hb9⟩
          go_wp2_with fail
          go_ret
          exact ⟨rfl, hb.trans (hb9.mono hb.size)⟩
        | false =>
          go_wp2_with fail
          refine (HRV.out _ hb).mono ?_
          rintro e w2 ⟨rfl, hb2⟩
          have HB2 := Lib.hid (HB.out.on hb2)
          obtain ⟨hb, p0, p1, p2, p3, p4, p5⟩ := HB.out.on hb2
          clear hb2 HB
          go_wp2_with fail
          refine (HN.out _ hb).mono ?_
          rintro e w3 ⟨rfl, hb3⟩
          have HB3 := Lib.hid (HB2.out.on hb3)
          obtain ⟨hb, p0, p1, p2, p3, p4, p5⟩ := HB2.out.on hb3
          clear hb3 HB2 HN
          go_wp2_with fail
          refine (HFi.out _).mono ?_
          rintro e w9 ⟨rfl, hb9⟩
          go_wp2_with fail
          go_ret
          exact ⟨rfl, hb.trans (hb9.mono hb.size)⟩
  · rw [shB_f hV] at HRV
    clear hV hI
    go_enter Try.func6, Try.ntmps6
    go_wp2_with fail
    all_goals
      obtain ⟨wB, hwB⟩ : ∃ wB, w.alloc (.cells #[.int .i64 s.O, .int .i64 s.C, .slice s.aH s.H.length s.cH, .int .i64 s.M, .slice s.aS s.S.length s.cS, .slice s.aJ s.J.length s.cJ] 25) = wB := ⟨_, rfl⟩
      rw [hwB] at hB ⊢
      clear hwB
      refine (HLo.out _ hB.1).mono ?_
      rintro e w1 ⟨⟨b, rfl⟩, hb1⟩
      have HB := Lib.hid (hB.on hb1)
      obtain ⟨hb, p0, p1, p2, p3, p4, p5⟩ := hB.on hb1
      clear hb1 hB
      cases b with
      | true =>
        go_wp2_with fail
        refine (HFi.out _).mono ?_
        rintro e w9 ⟨rfl, hb9⟩
        go_wp2_with fail
        go_ret
        exact ⟨rfl, hb.trans (hb9.mono hb.size)⟩
      | false =>
        go_wp2_with fail
        refine (HRV.out _ hb).mono ?_
        rintro e w2 ⟨rfl, hb2⟩
        have HB2 := Lib.hid (HB.out.on hb2)
        obtain ⟨hb, p0, p1, p2, p3, p4, p5⟩ := HB.out.on hb2
        clear hb2 HB
        go_wp2_with fail
        refine (HFi.out _).mono ?_
        rintro e w9 ⟨rfl, hb9⟩
        go_wp2_with fail
        go_ret
        exact ⟨rfl, hb.trans (hb9.mono hb.size)⟩
end Go.Proofs.Ytmdifgkalooaoaa
