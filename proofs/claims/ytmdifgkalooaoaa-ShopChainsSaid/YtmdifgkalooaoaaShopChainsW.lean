/-
  The walk of the law ShopChains: it answers true. By an AI agent.
-/
import Derived.Test.YtmdifgkalooaoaaShopFi
import Derived.Test.YtmdifgkalooaoaaShopL2
import Derived.Test.YtmdifgkalooaoaaShopU
import Derived.Deep.RegionHeld3
namespace Go.Proofs.Ytmdifgkalooaoaa
set_option linter.unusedVariables false
set_option linter.unusedSimpArgs false
open Go.RowKit

set_option maxRecDepth 100000 in
set_option maxHeartbeats 8000000 in
theorem shopChains_any (s : Sh) (job mach : Int) (w : World) (hI : ShS w s) (ht : I64 job) (hm : I64 mach) (hM : I64 s.M) :
    Calls Try.prog 10 #[.agg #[.int .i64 s.O, .int .i64 s.C, .slice s.aH s.H.length s.cH, .int .i64 s.M, .slice s.aS s.S.length s.cS, .slice s.aJ s.J.length s.cJ], .int .i64 job, .int .i64 mach] w fun e w' => e = .returned (.bool true) ∧ Below w.heap.size w w' := by
  obtain ⟨ht0, ht1⟩ := ht
  obtain ⟨hm0, hm1⟩ := hm
  have HLo := Lib.hid (fun W (hW : Below w.heap.size w W) => long_sh s W (hI.below hW))
  have HRV := Lib.hid (fun W (hW : Below w.heap.size w W) => refValid_sh s W (hI.below hW))
  have HFi := Lib.hid first_sh
  have hB := ShBox.start w s 25
  by_cases hV : ShOk s
  · rw [shB_t hV] at HRV
    obtain ⟨o0, o1, o2⟩ := hV.1
    have HBd := Lib.hid (fun W (hW : Below w.heap.size w W) => bound_ok s W (hI.below hW) hV)
    have HRB := Lib.hid (fun W (hW : Below w.heap.size w W) => refBound_sh s W (hI.below hW) hV)
    have h12 := hV.2.2.2.1
    generalize boundV s = bv at *
    have hbb : (bv != bv) = false := by simp
    by_cases hj : 0 ≤ job ∧ job < s.J.length
    · obtain ⟨j, rfl⟩ : ∃ j : Nat, job = j := ⟨job.toNat, by omega⟩
      have HCh := Lib.hid (fun W (hW : Below w.heap.size w W) => chain_ok s j W (hI.below hW) hV (by omega))
      have HRC := Lib.hid (fun W (hW : Below w.heap.size w W) => refChain_sh s j W (hI.below hW) hV (by omega))
      generalize chainV s (gj s.J j) = cv at *
      have hcc : (cv != cv) = false := by simp
      obtain ⟨hj0, hj1⟩ := hj
      by_cases hm : 0 ≤ mach ∧ mach < s.M
      · obtain ⟨hm0, hm1⟩ := hm
        have HLd := Lib.hid (fun W (hW : Below w.heap.size w W) => load_ok s mach W (hI.below hW) hV hm0 hm1)
        have HRL := Lib.hid (fun W (hW : Below w.heap.size w W) => refLoad_sh s mach W (hI.below hW) hV)
        generalize loadV s mach = lv at *
        have hll : (lv == lv) = true := by simp
        clear hV hI
        go_enter Try.func10, Try.ntmps10
        go_wp2_with fail
        obtain ⟨wB, hwB⟩ : ∃ wB, w.alloc (.cells #[.int .i64 s.O, .int .i64 s.C, .slice s.aH s.H.length s.cH, .int .i64 s.M, .slice s.aS s.S.length s.cS, .slice s.aJ s.J.length s.cJ] 25) = wB := ⟨_, rfl⟩
        rw [hwB] at hB ⊢
        clear hwB
        refine (HLo.out _ hB.1).mono ?_
        rintro e w1 ⟨⟨b, rfl⟩, hb1⟩
        have HB := Lib.hid (hB.on hb1)
        obtain ⟨hb, p0, p1, p2, p3, p4, p5⟩ := hB.on hb1
        clear hb1 hB
        cases b with
        | true =>
          go_wp2_with fail
          refine (HFi.out _).mono ?_
          rintro e w9 ⟨rfl, hb9⟩
          go_wp2_with fail
          go_ret
          exact ⟨rfl, hb.trans (hb9.mono hb.size)⟩
        | false =>
          go_wp2_with fail
          refine (HRV.out _ hb).mono ?_
          rintro e w2 ⟨rfl, hb2⟩
          have HB2 := Lib.hid (HB.out.on hb2)
          obtain ⟨hb, p0, p1, p2, p3, p4, p5⟩ := HB.out.on hb2
          clear hb2 HB
          go_wp2_with fail
          refine (HCh.out _ hb).mono ?_
          rintro e x0 ⟨rfl, hc0⟩
          have HX0 := Lib.hid (HB2.out.on hc0)
          obtain ⟨hb, p0, p1, p2, p3, p4, p5⟩ := HB2.out.on hc0
          clear hc0 HB2
          go_wp2_with fail
          refine (HLd.out _ hb).mono ?_
          rintro e x1 ⟨rfl, hc1⟩
          have HX1 := Lib.hid (HX0.out.on hc1)
          obtain ⟨hb, p0, p1, p2, p3, p4, p5⟩ := HX0.out.on hc1
          clear hc1 HX0
          go_wp2_with fail
          refine (HBd.out _ hb).mono ?_
          rintro e x2 ⟨rfl, hc2⟩
          have HX2 := Lib.hid (HX1.out.on hc2)
          obtain ⟨hb, p0, p1, p2, p3, p4, p5⟩ := HX1.out.on hc2
          clear hc2 HX1
          go_wp2_with fail
          refine (HRB.out _ hb).mono ?_
          rintro e x3 ⟨rfl, hc3⟩
          have HX3 := Lib.hid (HX2.out.on hc3)
          obtain ⟨hb, p0, p1, p2, p3, p4, p5⟩ := HX2.out.on hc3
          clear hc3 HX2
          go_wp2_with fail
          refine (HRC.out _ hb).mono ?_
          rintro e x4 ⟨rfl, hc4⟩
          have HX4 := Lib.hid (HX3.out.on hc4)
          obtain ⟨hb, p0, p1, p2, p3, p4, p5⟩ := HX3.out.on hc4
          clear hc4 HX3
          go_wp2_with fail
          refine (HRL.out _ hb).mono ?_
          rintro e x5 ⟨rfl, hc5⟩
          have HX5 := Lib.hid (HX4.out.on hc5)
          obtain ⟨hb, p0, p1, p2, p3, p4, p5⟩ := HX4.out.on hc5
          clear hc5 HX4
          go_wp2_with fail
          refine (HFi.out _).mono ?_
          rintro e w9 ⟨rfl, hb9⟩
          go_wp2_with fail
          go_ret
          exact ⟨rfl, hb.trans (hb9.mono hb.size)⟩
      · have HLd := Lib.hid (fun W (hW : Below w.heap.size w W) => load_arg s mach W (hI.below hW) hV hm)
        have hm2 : mach < 0 ∨ (0 ≤ mach ∧ s.M ≤ mach) := by omega
        clear hV hI hm
        rcases hm2 with g0 | ⟨g0, g1⟩
        all_goals
          go_enter Try.func10, Try.ntmps10
          go_wp2_with fail
          obtain ⟨wB, hwB⟩ : ∃ wB, w.alloc (.cells #[.int .i64 s.O, .int .i64 s.C, .slice s.aH s.H.length s.cH, .int .i64 s.M, .slice s.aS s.S.length s.cS, .slice s.aJ s.J.length s.cJ] 25) = wB := ⟨_, rfl⟩
          rw [hwB] at hB ⊢
          clear hwB
          refine (HLo.out _ hB.1).mono ?_
          rintro e w1 ⟨⟨b, rfl⟩, hb1⟩
          have HB := Lib.hid (hB.on hb1)
          obtain ⟨hb, p0, p1, p2, p3, p4, p5⟩ := hB.on hb1
          clear hb1 hB
          cases b with
          | true =>
            go_wp2_with fail
            refine (HFi.out _).mono ?_
            rintro e w9 ⟨rfl, hb9⟩
            go_wp2_with fail
            go_ret
            exact ⟨rfl, hb.trans (hb9.mono hb.size)⟩
          | false =>
            go_wp2_with fail
            refine (HRV.out _ hb).mono ?_
            rintro e w2 ⟨rfl, hb2⟩
            have HB2 := Lib.hid (HB.out.on hb2)
            obtain ⟨hb, p0, p1, p2, p3, p4, p5⟩ := HB.out.on hb2
            clear hb2 HB
            go_wp2_with fail
            refine (HCh.out _ hb).mono ?_
            rintro e x0 ⟨rfl, hc0⟩
            have HX0 := Lib.hid (HB2.out.on hc0)
            obtain ⟨hb, p0, p1, p2, p3, p4, p5⟩ := HB2.out.on hc0
            clear hc0 HB2
            go_wp2_with fail
            refine (HLd.out _ hb).mono ?_
            rintro e x1 ⟨rfl, hc1⟩
            have HX1 := Lib.hid (HX0.out.on hc1)
            obtain ⟨hb, p0, p1, p2, p3, p4, p5⟩ := HX0.out.on hc1
            clear hc1 HX0
            go_wp2_with fail
            refine (HBd.out _ hb).mono ?_
            rintro e x2 ⟨rfl, hc2⟩
            have HX2 := Lib.hid (HX1.out.on hc2)
            obtain ⟨hb, p0, p1, p2, p3, p4, p5⟩ := HX1.out.on hc2
            clear hc2 HX1
            go_wp2_with fail
            refine (HRB.out _ hb).mono ?_
            rintro e x3 ⟨rfl, hc3⟩
            have HX3 := Lib.hid (HX2.out.on hc3)
            obtain ⟨hb, p0, p1, p2, p3, p4, p5⟩ := HX2.out.on hc3
            clear hc3 HX2
            go_wp2_with fail
            refine (HRC.out _ hb).mono ?_
            rintro e x4 ⟨rfl, hc4⟩
            have HX4 := Lib.hid (HX3.out.on hc4)
            obtain ⟨hb, p0, p1, p2, p3, p4, p5⟩ := HX3.out.on hc4
            clear hc4 HX3
            go_wp2_with fail
            refine (HFi.out _).mono ?_
            rintro e w9 ⟨rfl, hb9⟩
            go_wp2_with fail
            go_ret
            exact ⟨rfl, hb.trans (hb9.mono hb.size)⟩
    · have HCh := Lib.hid (fun W (hW : Below w.heap.size w W) => chain_arg s job W (hI.below hW) hV hj)
      have hj2 : job < 0 ∨ (0 ≤ job ∧ (s.J.length : Int) ≤ job) := by omega
      by_cases hm : 0 ≤ mach ∧ mach < s.M
      · obtain ⟨hm0, hm1⟩ := hm
        have HLd := Lib.hid (fun W (hW : Below w.heap.size w W) => load_ok s mach W (hI.below hW) hV hm0 hm1)
        have HRL := Lib.hid (fun W (hW : Below w.heap.size w W) => refLoad_sh s mach W (hI.below hW) hV)
        generalize loadV s mach = lv at *
        have hll : (lv == lv) = true := by simp
        clear hV hI hj
        rcases hj2 with k0 | ⟨k0, k1⟩
        all_goals
          go_enter Try.func10, Try.ntmps10
          go_wp2_with fail
          obtain ⟨wB, hwB⟩ : ∃ wB, w.alloc (.cells #[.int .i64 s.O, .int .i64 s.C, .slice s.aH s.H.length s.cH, .int .i64 s.M, .slice s.aS s.S.length s.cS, .slice s.aJ s.J.length s.cJ] 25) = wB := ⟨_, rfl⟩
          rw [hwB] at hB ⊢
          clear hwB
          refine (HLo.out _ hB.1).mono ?_
          rintro e w1 ⟨⟨b, rfl⟩, hb1⟩
          have HB := Lib.hid (hB.on hb1)
          obtain ⟨hb, p0, p1, p2, p3, p4, p5⟩ := hB.on hb1
          clear hb1 hB
          cases b with
          | true =>
            go_wp2_with fail
            refine (HFi.out _).mono ?_
            rintro e w9 ⟨rfl, hb9⟩
            go_wp2_with fail
            go_ret
            exact ⟨rfl, hb.trans (hb9.mono hb.size)⟩
          | false =>
            go_wp2_with fail
            refine (HRV.out _ hb).mono ?_
            rintro e w2 ⟨rfl, hb2⟩
            have HB2 := Lib.hid (HB.out.on hb2)
            obtain ⟨hb, p0, p1, p2, p3, p4, p5⟩ := HB.out.on hb2
            clear hb2 HB
            go_wp2_with fail
            refine (HCh.out _ hb).mono ?_
            rintro e x0 ⟨rfl, hc0⟩
            have HX0 := Lib.hid (HB2.out.on hc0)
            obtain ⟨hb, p0, p1, p2, p3, p4, p5⟩ := HB2.out.on hc0
            clear hc0 HB2
            go_wp2_with fail
            refine (HLd.out _ hb).mono ?_
            rintro e x1 ⟨rfl, hc1⟩
            have HX1 := Lib.hid (HX0.out.on hc1)
            obtain ⟨hb, p0, p1, p2, p3, p4, p5⟩ := HX0.out.on hc1
            clear hc1 HX0
            go_wp2_with fail
            refine (HBd.out _ hb).mono ?_
            rintro e x2 ⟨rfl, hc2⟩
            have HX2 := Lib.hid (HX1.out.on hc2)
            obtain ⟨hb, p0, p1, p2, p3, p4, p5⟩ := HX1.out.on hc2
            clear hc2 HX1
            go_wp2_with fail
            refine (HRB.out _ hb).mono ?_
            rintro e x3 ⟨rfl, hc3⟩
            have HX3 := Lib.hid (HX2.out.on hc3)
            obtain ⟨hb, p0, p1, p2, p3, p4, p5⟩ := HX2.out.on hc3
            clear hc3 HX2
            go_wp2_with fail
            refine (HRL.out _ hb).mono ?_
            rintro e x4 ⟨rfl, hc4⟩
            have HX4 := Lib.hid (HX3.out.on hc4)
            obtain ⟨hb, p0, p1, p2, p3, p4, p5⟩ := HX3.out.on hc4
            clear hc4 HX3
            go_wp2_with fail
            refine (HFi.out _).mono ?_
            rintro e w9 ⟨rfl, hb9⟩
            go_wp2_with fail
            go_ret
            exact ⟨rfl, hb.trans (hb9.mono hb.size)⟩
      · have HLd := Lib.hid (fun W (hW : Below w.heap.size w W) => load_arg s mach W (hI.below hW) hV hm)
        have hm2 : mach < 0 ∨ (0 ≤ mach ∧ s.M ≤ mach) := by omega
        clear hV hI hm hj
        rcases hm2 with g0 | ⟨g0, g1⟩ <;> rcases hj2 with k0 | ⟨k0, k1⟩
        all_goals
          go_enter Try.func10, Try.ntmps10
          go_wp2_with fail
          obtain ⟨wB, hwB⟩ : ∃ wB, w.alloc (.cells #[.int .i64 s.O, .int .i64 s.C, .slice s.aH s.H.length s.cH, .int .i64 s.M, .slice s.aS s.S.length s.cS, .slice s.aJ s.J.length s.cJ] 25) = wB := ⟨_, rfl⟩
          rw [hwB] at hB ⊢
          clear hwB
          refine (HLo.out _ hB.1).mono ?_
          rintro e w1 ⟨⟨b, rfl⟩, hb1⟩
          have HB := Lib.hid (hB.on hb1)
          obtain ⟨hb, p0, p1, p2, p3, p4, p5⟩ := hB.on hb1
          clear hb1 hB
          cases b with
          | true =>
            go_wp2_with fail
            refine (HFi.out _).mono ?_
            rintro e w9 ⟨rfl, hb9⟩
            go_wp2_with fail
            go_ret
            exact ⟨rfl, hb.trans (hb9.mono hb.size)⟩
          | false =>
            go_wp2_with fail
            refine (HRV.out _ hb).mono ?_
            rintro e w2 ⟨rfl, hb2⟩
            have HB2 := Lib.hid (HB.out.on hb2)
            obtain ⟨hb, p0, p1, p2, p3, p4, p5⟩ := HB.out.on hb2
            clear hb2 HB
            go_wp2_with fail
            refine (HCh.out _ hb).mono ?_
            rintro e x0 ⟨rfl, hc0⟩
            have HX0 := Lib.hid (HB2.out.on hc0)
            obtain ⟨hb, p0, p1, p2, p3, p4, p5⟩ := HB2.out.on hc0
            clear hc0 HB2
            go_wp2_with fail
            refine (HLd.out _ hb).mono ?_
            rintro e x1 ⟨rfl, hc1⟩
            have HX1 := Lib.hid (HX0.out.on hc1)
            obtain ⟨hb, p0, p1, p2, p3, p4, p5⟩ := HX0.out.on hc1
            clear hc1 HX0
            go_wp2_with fail
            refine (HBd.out _ hb).mono ?_
            rintro e x2 ⟨rfl, hc2⟩
            have HX2 := Lib.hid (HX1.out.on hc2)
            obtain ⟨hb, p0, p1, p2, p3, p4, p5⟩ := HX1.out.on hc2
            clear hc2 HX1
            go_wp2_with fail
            refine (HRB.out _ hb).mono ?_
            rintro e x3 ⟨rfl, hc3⟩
            have HX3 := Lib.hid (HX2.out.on hc3)
            obtain ⟨hb, p0, p1, p2, p3, p4, p5⟩ := HX2.out.on hc3
            clear hc3 HX2
            go_wp2_with fail
            refine (HFi.out _).mono ?_
            rintro e w9 ⟨rfl, hb9⟩
            go_wp2_with fail
            go_ret
            exact ⟨rfl, hb.trans (hb9.mono hb.size)⟩

  · rw [shB_f hV] at HRV
    clear hV hI
    go_enter Try.func10, Try.ntmps10
    go_wp2_with fail
    all_goals
      obtain ⟨wB, hwB⟩ : ∃ wB, w.alloc (.cells #[.int .i64 s.O, .int .i64 s.C, .slice s.aH s.H.length s.cH, .int .i64 s.M, .slice s.aS s.S.length s.cS, .slice s.aJ s.J.length s.cJ] 25) = wB := ⟨_, rfl⟩
      rw [hwB] at hB ⊢
      clear hwB
      refine (HLo.out _ hB.1).mono ?_
      rintro e w1 ⟨⟨b, rfl⟩, hb1⟩
      have HB := Lib.hid (hB.on hb1)
      obtain ⟨hb, p0, p1, p2, p3, p4, p5⟩ := hB.on hb1
      clear hb1 hB
      cases b with
      | true =>
        go_wp2_with fail
        refine (HFi.out _).mono ?_
        rintro e w9 ⟨rfl, hb9⟩
        go_wp2_with fail
        go_ret
        exact ⟨rfl, hb.trans (hb9.mono hb.size)⟩
      | false =>
        go_wp2_with fail
        refine (HRV.out _ hb).mono ?_
        rintro e w2 ⟨rfl, hb2⟩
        have HB2 := Lib.hid (HB.out.on hb2)
        obtain ⟨hb, p0, p1, p2, p3, p4, p5⟩ := HB.out.on hb2
        clear hb2 HB
        go_wp2_with fail
        refine (HFi.out _).mono ?_
        rintro e w9 ⟨rfl, hb9⟩
        go_wp2_with fail
        go_ret
        exact ⟨rfl, hb.trans (hb9.mono hb.size)⟩
end Go.Proofs.Ytmdifgkalooaoaa
