/-
  The law ShopBounds. By an AI agent.; Arguments, opened: lists of ints and of pairs, tables, scenes, structs of them, arrays. By an AI agent.; Arguments, opened: shops. By an AI agent.; Arguments, opened: plans. By an AI agent.
-/
import Derived.Test.YtgphkfonjfdifaaMgShopBounds0
import Derived.Test.YtgphkfonjfdifaaMgShopBounds1
import Derived.Test.YtgphkfonjfdifaaMgShopBounds4
import Derived.Test.YtgphkfonjfdifaaMgShopBounds5
import Derived.Test.YtgphkfonjfdifaaMgShopBounds7
import Derived.Test.YtgphkfonjfdifaaMgShopBounds10
import Derived.Deep.RegionHeld3
import Derived.BigRegion
import Derived.BigQuiet
import Derived.Lib.SmallJoins
import Derived.Deep.Slices
import Derived.OpenShut

namespace Go.Proofs.Ytgphkfonjfdifaa
set_option linter.unusedVariables false
set_option linter.unusedSimpArgs false
open Go.RowKit

set_option maxRecDepth 100000 in
set_option maxHeartbeats 4000000 in
theorem shopBounds_any (s : Sh) (ap : Option Addr) (P : List (List Int)) (cp : Nat) (w : World) (hI : ShS w s) (hP : RowsS w ap P) :
    Calls Try.prog 8 #[.agg #[.int .i64 s.O, .int .i64 s.C, .slice s.aH s.H.length s.cH, .int .i64 s.M, .slice s.aS s.S.length s.cS, .slice s.aJ s.J.length s.cJ], .slice ap P.length cp] w fun e w' => e = .returned (.bool true) ∧ Below w.heap.size w w' := by
  have HLo := Lib.hid (fun W (hW : Below w.heap.size w W) => long_sh s W (hI.below hW))
  have HRV := Lib.hid (fun W (hW : Below w.heap.size w W) => refValid_sh s W (hI.below hW))
  have HWi := Lib.hid (fun W (hW : Below w.heap.size w W) => wide_sh ap P cp W (hP.below hW))
  have HFi := Lib.hid first_sh
  have HB := Lib.hid (ShBox.start w s 25)
  by_cases hV : ShOk s
  · rw [shB_t hV] at HRV
    have HBd := Lib.hid (fun W (hW : Below w.heap.size w W) => bound_ok s W (hI.below hW) hV)
    have HCh := Lib.hid (fun (j : Nat) (hj : j < s.J.length) W (hW : Below w.heap.size w W) => chain_ok s j W (hI.below hW) hV hj)
    have HLd := Lib.hid (fun (m : Nat) (hm : (m : Int) < s.M) W (hW : Below w.heap.size w W) => load_ok s m W (hI.below hW) hV (by omega) hm)
    have HJ := Lib.hid (fun W (hW : Below w.heap.size w W) => judge_any s ap P cp W (hI.below hW) hV (hP.below hW))
    have HR := Lib.hid (fun W (hW : Below w.heap.size w W) => refJudge_any s ap P cp W (hI.below hW) hV (hP.below hW))
    have HE := Lib.hid (fun W (hW : Below w.heap.size w W) => end_any s ap P cp W (hI.below hW) hV (hP.below hW))
    have HXC : Hid (∀ k, mxC s (k + 1) = max (mxC s k) (chainV s (gj s.J k))) := Lib.hid fun _ => rfl
    have HXL : Hid (∀ k, mxL s (k + 1) = max (mxL s k) (loadV s k)) := Lib.hid fun _ => rfl
    have HX0 : Hid (mxL s 0 = mxC s s.J.length) := Lib.hid rfl
    obtain ⟨M, hM⟩ : ∃ M : Nat, s.M = M := ⟨s.M.toNat, by have := hV.2.2.1.1; omega⟩
    have HBV : Hid (boundV s = mxL s M) := Lib.hid (by unfold boundV; rw [hM, Int.toNat_natCast])
    have HM := Lib.hid hM
    have hMI : s.M ≤ 6 := hV.2.2.1.1.2
    have HBE : Hid ((judV s P).2.2 = 0 → boundV s ≤ endA s P) := Lib.hid fun h => by
      have := bound_le hV (right_of hV h)
      unfold endA
      rw [if_pos h]
      exact this
    have h12 := hV.2.2.2.1
    clear hM
    generalize judV s P = J3 at *
    generalize endA s P = EA at *
    generalize boundV s = BV at *
    clear hV hI hP
    go_enter Try.func8, Try.ntmps8
    go_wp2_with fail
    obtain ⟨wB, hwB⟩ : ∃ wB, w.alloc (.cells #[.int .i64 s.O, .int .i64 s.C, .slice s.aH s.H.length s.cH, .int .i64 s.M, .slice s.aS s.S.length s.cS, .slice s.aJ s.J.length s.cJ] 25) = wB := ⟨_, rfl⟩
    rw [hwB] at HB ⊢
    clear hwB
    obtain ⟨hb, p0, p1, p2, p3, p4, p5⟩ := HB.out
    clear HB
    refine (HLo.out _ hb).mono ?_
    rintro e w1 ⟨⟨b, rfl⟩, hb1⟩
    replace hb := hb.trans (hb1.mono hb.size)
    replace p0 := cell_below p0 hb1
    replace p1 := cell_below p1 hb1
    replace p2 := cell_below p2 hb1
    replace p3 := cell_below p3 hb1
    replace p4 := cell_below p4 hb1
    replace p5 := cell_below p5 hb1
    clear hb1
    cases b with
    | true =>
      go_wp2_with fail
      refine (HFi.out _).mono ?_
      rintro e w9 ⟨rfl, hb9⟩
      go_wp2_with fail
      go_ret
      exact ⟨rfl, hb.trans (hb9.mono hb.size)⟩
    | false =>
      go_wp2_with fail
      refine (HWi.out _ hb).mono ?_
      rintro e w2 ⟨⟨b2, rfl⟩, hb1⟩
      replace hb := hb.trans (hb1.mono hb.size)
      replace p0 := cell_below p0 hb1
      replace p1 := cell_below p1 hb1
      replace p2 := cell_below p2 hb1
      replace p3 := cell_below p3 hb1
      replace p4 := cell_below p4 hb1
      replace p5 := cell_below p5 hb1
      clear hb1
      cases b2 with
      | true =>
        go_wp2_with fail
        refine (HFi.out _).mono ?_
        rintro e w9 ⟨rfl, hb9⟩
        go_wp2_with fail
        go_ret
        exact ⟨rfl, hb.trans (hb9.mono hb.size)⟩
      | false =>
        go_wp2_with fail
        refine (HRV.out _ hb).mono ?_
        rintro e w3 ⟨rfl, hb1⟩
        replace hb := hb.trans (hb1.mono hb.size)
        replace p0 := cell_below p0 hb1
        replace p1 := cell_below p1 hb1
        replace p2 := cell_below p2 hb1
        replace p3 := cell_below p3 hb1
        replace p4 := cell_below p4 hb1
        replace p5 := cell_below p5 hb1
        clear hb1
        go_wp2_with (go_at_call 27; refine (HBd.out _ hb).mono ?_; rintro e w1 ⟨rfl, hb1⟩; replace hb := hb.trans (hb1.mono hb.size); replace p0 := cell_below p0 hb1; replace p1 := cell_below p1 hb1; replace p2 := cell_below p2 hb1; replace p3 := cell_below p3 hb1; replace p4 := cell_below p4 hb1; replace p5 := cell_below p5 hb1; clear hb1)
        have HB2 : Hid (ShBox w w1 s) := Lib.hid ⟨hb, p0, p1, p2, p3, p4, p5⟩
        clear hb p0 p1 p2 p3 p4 p5
        have hm0 : mxC s 0 = 0 := rfl
        go_loopw [7, 8] (fun u i wr => ∃ k : Nat, k ≤ s.J.length ∧ i = .int .i64 k ∧ u = .int .i64 (mxC s k) ∧ ShBox w wr s) (fun _ i _ => s.J.length - (intOf i).toNat)
        case atStart => exact ⟨0, Nat.zero_le _, rfl, by rw [hm0], HB2.out⟩
        case round =>
          clear hm0 HB2
          obtain ⟨k, hk, rfl, rfl, hB2⟩ := hrel
          have HB2 := Lib.hid hB2
          obtain ⟨hb, p0, p1, p2, p3, p4, p5⟩ := hB2
          by_cases hlt : k < s.J.length
          · have hkI : (k : Int) < s.J.length := by omega
            have HK := Lib.hid (HCh.out k hlt)
            have HX := Lib.hid (HXC.out k)
            clear HCh HLd HXC HXL HX0 HBV HBE HJ HR HE HBd HLo HRV HWi HFi HM
            generalize mxC s k = mc at *
            generalize chainV s (gj s.J k) = v at *
            rcases Int.lt_trichotomy mc v with hl | hl | hl
            · have HS := Lib.hid (HX.out.trans (show max mc v = v by omega))
              clear HX
              go_wp2_with (go_at_call 28; refine (HK.out _ hb).mono ?_; rintro e w3 ⟨rfl, hb3⟩; have HB3 := Lib.hid (HB2.out.on hb3); clear hb3)
              go_roundw
              case rel => exact ⟨k + 1, by omega, by go_num, by rw [HS.out]; try (congr 1; omega), HB3.out⟩
              case measure => first | (simp [intOf]; done) | (simp [intOf]; omega)
            · have HS := Lib.hid (HX.out.trans (show max mc v = v by omega))
              clear HX
              subst hl
              go_wp2_with (go_at_call 28; refine (HK.out _ hb).mono ?_; rintro e w3 ⟨rfl, hb3⟩; have HB3 := Lib.hid (HB2.out.on hb3); clear hb3)
              go_roundw
              case rel => exact ⟨k + 1, by omega, by go_num, by rw [HS.out]; try (congr 1; omega), HB3.out⟩
              case measure => first | (simp [intOf]; done) | (simp [intOf]; omega)
            · have HS := Lib.hid (HX.out.trans (show max mc v = mc by omega))
              have hl2 : ¬ (mc < v) := by omega
              clear HX
              go_wp2_with (go_at_call 28; refine (HK.out _ hb).mono ?_; rintro e w3 ⟨rfl, hb3⟩; have HB3 := Lib.hid (HB2.out.on hb3); clear hb3)
              go_roundw
              case rel => exact ⟨k + 1, by omega, by go_num, by rw [HS.out]; try (congr 1; omega), HB3.out⟩
              case measure => first | (simp [intOf]; done) | (simp [intOf]; omega)
          · obtain rfl : s.J.length = k := by omega
            go_wp2_with fail
            clear hb p0 p1 p2 p3 p4 p5
            have HSJ := Lib.hid HX0.out
            obtain ⟨wo, rfl⟩ : ∃ wo : World, wo = wr := ⟨_, rfl⟩
            go_loopw [7, 11] (fun u i wr => ∃ k : Nat, k ≤ M ∧ i = .int .i64 k ∧ u = .int .i64 (mxL s k) ∧ ShBox w wr s) (fun _ i _ => M - (intOf i).toNat)
            case atStart => exact ⟨0, Nat.zero_le _, rfl, by rw [HSJ.out], HB2.out⟩
            case round =>
              clear HSJ HB2
              obtain ⟨k, hk, rfl, rfl, hB2⟩ := hrel
              have HB2 := Lib.hid hB2
              obtain ⟨hb, p0, p1, p2, p3, p4, p5⟩ := hB2
              by_cases hlt : k < M
              · have hkI : (k : Int) < s.M := by have := HM.out; omega
                have HK := Lib.hid (HLd.out k hkI)
                have HX := Lib.hid (HXL.out k)
                clear HCh HLd HXC HXL HX0 HBV HBE HJ HR HE HBd HLo HRV HWi HFi HM
                generalize mxL s k = mc at *
                generalize loadV s k = v at *
                rcases Int.lt_trichotomy mc v with hl | hl | hl
                · have HS := Lib.hid (HX.out.trans (show max mc v = v by omega))
                  clear HX
                  go_wp2_with (go_at_call 29; refine (HK.out _ hb).mono ?_; rintro e w3 ⟨rfl, hb3⟩; have HB3 := Lib.hid (HB2.out.on hb3); clear hb3)
                  go_roundw
                  case rel => exact ⟨k + 1, by omega, by go_num, by rw [HS.out]; try (congr 1; omega), HB3.out⟩
                  case measure => first | (simp [intOf]; done) | (simp [intOf]; omega)
                · have HS := Lib.hid (HX.out.trans (show max mc v = v by omega))
                  clear HX
                  subst hl
                  go_wp2_with (go_at_call 29; refine (HK.out _ hb).mono ?_; rintro e w3 ⟨rfl, hb3⟩; have HB3 := Lib.hid (HB2.out.on hb3); clear hb3)
                  go_roundw
                  case rel => exact ⟨k + 1, by omega, by go_num, by rw [HS.out]; try (congr 1; omega), HB3.out⟩
                  case measure => first | (simp [intOf]; done) | (simp [intOf]; omega)
                · have HS := Lib.hid (HX.out.trans (show max mc v = mc by omega))
                  have hl2 : ¬ (mc < v) := by omega
                  clear HX
                  go_wp2_with (go_at_call 29; refine (HK.out _ hb).mono ?_; rintro e w3 ⟨rfl, hb3⟩; have HB3 := Lib.hid (HB2.out.on hb3); clear hb3)
                  go_roundw
                  case rel => exact ⟨k + 1, by omega, by go_num, by rw [HS.out]; try (congr 1; omega), HB3.out⟩
                  case measure => first | (simp [intOf]; done) | (simp [intOf]; omega)
              · obtain rfl : M = k := by omega
                have hkI : ¬ ((M : Int) < s.M) := by have := HM.out; omega
                have HBV2 := HBV.out
                obtain ⟨X, hX⟩ : ∃ X, mxL s M = X := ⟨_, rfl⟩
                rw [hX] at HBV2 ⊢
                clear hX HCh HLd HXC HXL HX0 HBV HBd HLo HRV HWi HM
                subst HBV2
                have d0 : (BV != BV) = false := by simp
                by_cases hj : J3.2.2 = 0
                · have hle := HBE.out hj
                  have d1 : (J3.2.2 != 0) = false := by simp [hj]
                  have d2 : (J3.2.2 == 0) = true := by simp [hj]
                  have d3 : decide (BV ≤ EA) = true := decide_eq_true hle
                  clear hj HBE
                  go_wp2_with (first | (go_at_call 16; refine (HR.out _ hb).mono ?_; rintro e w1 ⟨rfl, hb1⟩; replace hb := hb.trans (hb1.mono hb.size); replace p0 := cell_below p0 hb1; replace p1 := cell_below p1 hb1; replace p2 := cell_below p2 hb1; replace p3 := cell_below p3 hb1; replace p4 := cell_below p4 hb1; replace p5 := cell_below p5 hb1; clear hb1) | (go_at_call 15; refine (HJ.out _ hb).mono ?_; rintro e w1 ⟨rfl, hb1⟩; replace hb := hb.trans (hb1.mono hb.size); replace p0 := cell_below p0 hb1; replace p1 := cell_below p1 hb1; replace p2 := cell_below p2 hb1; replace p3 := cell_below p3 hb1; replace p4 := cell_below p4 hb1; replace p5 := cell_below p5 hb1; clear hb1) | (go_at_call 17; refine (HE.out _ hb).mono ?_; rintro e w1 ⟨rfl, hb1⟩; replace hb := hb.trans (hb1.mono hb.size); replace p0 := cell_below p0 hb1; replace p1 := cell_below p1 hb1; replace p2 := cell_below p2 hb1; replace p3 := cell_below p3 hb1; replace p4 := cell_below p4 hb1; replace p5 := cell_below p5 hb1; clear hb1) | (go_at_call 14; refine (HFi.out _).mono ?_; rintro e w9 ⟨rfl, hb9⟩))
                  go_ret
                  exact ⟨rfl, hb.trans (hb9.mono hb.size)⟩
                · have d1 : (J3.2.2 != 0) = true := by simp [hj]
                  clear hj HBE
                  go_wp2_with (first | (go_at_call 16; refine (HR.out _ hb).mono ?_; rintro e w1 ⟨rfl, hb1⟩; replace hb := hb.trans (hb1.mono hb.size); replace p0 := cell_below p0 hb1; replace p1 := cell_below p1 hb1; replace p2 := cell_below p2 hb1; replace p3 := cell_below p3 hb1; replace p4 := cell_below p4 hb1; replace p5 := cell_below p5 hb1; clear hb1) | (go_at_call 14; refine (HFi.out _).mono ?_; rintro e w9 ⟨rfl, hb9⟩))
                  go_ret
                  exact ⟨rfl, hb.trans (hb9.mono hb.size)⟩
  · rw [shB_f hV] at HRV
    clear hV hI hP
    go_enter Try.func8, Try.ntmps8
    go_wp2_with fail
    obtain ⟨wB, hwB⟩ : ∃ wB, w.alloc (.cells #[.int .i64 s.O, .int .i64 s.C, .slice s.aH s.H.length s.cH, .int .i64 s.M, .slice s.aS s.S.length s.cS, .slice s.aJ s.J.length s.cJ] 25) = wB := ⟨_, rfl⟩
    rw [hwB] at HB ⊢
    clear hwB
    obtain ⟨hb, p0, p1, p2, p3, p4, p5⟩ := HB.out
    clear HB
    refine (HLo.out _ hb).mono ?_
    rintro e w1 ⟨⟨b, rfl⟩, hb1⟩
    replace hb := hb.trans (hb1.mono hb.size)
    replace p0 := cell_below p0 hb1
    replace p1 := cell_below p1 hb1
    replace p2 := cell_below p2 hb1
    replace p3 := cell_below p3 hb1
    replace p4 := cell_below p4 hb1
    replace p5 := cell_below p5 hb1
    clear hb1
    cases b with
    | true =>
      go_wp2_with fail
      refine (HFi.out _).mono ?_
      rintro e w9 ⟨rfl, hb9⟩
      go_wp2_with fail
      go_ret
      exact ⟨rfl, hb.trans (hb9.mono hb.size)⟩
    | false =>
      go_wp2_with fail
      refine (HWi.out _ hb).mono ?_
      rintro e w2 ⟨⟨b2, rfl⟩, hb1⟩
      replace hb := hb.trans (hb1.mono hb.size)
      replace p0 := cell_below p0 hb1
      replace p1 := cell_below p1 hb1
      replace p2 := cell_below p2 hb1
      replace p3 := cell_below p3 hb1
      replace p4 := cell_below p4 hb1
      replace p5 := cell_below p5 hb1
      clear hb1
      cases b2 with
      | true =>
        go_wp2_with fail
        refine (HFi.out _).mono ?_
        rintro e w9 ⟨rfl, hb9⟩
        go_wp2_with fail
        go_ret
        exact ⟨rfl, hb.trans (hb9.mono hb.size)⟩
      | false =>
        go_wp2_with fail
        refine (HRV.out _ hb).mono ?_
        rintro e w3 ⟨rfl, hb1⟩
        replace hb := hb.trans (hb1.mono hb.size)
        replace p0 := cell_below p0 hb1
        replace p1 := cell_below p1 hb1
        replace p2 := cell_below p2 hb1
        replace p3 := cell_below p3 hb1
        replace p4 := cell_below p4 hb1
        replace p5 := cell_below p5 hb1
        clear hb1
        go_wp2_with fail
        refine (HFi.out _).mono ?_
        rintro e w9 ⟨rfl, hb9⟩
        go_wp2_with fail
        go_ret
        exact ⟨rfl, hb.trans (hb9.mono hb.size)⟩
end Go.Proofs.Ytgphkfonjfdifaa

namespace Go.Proofs.Ytgphkfonjfdifaa
set_option linter.unusedVariables false
set_option linter.unusedSimpArgs false
open Go.RowKit Go.ChangeShapes Go.WideShapes Go.ChangeAt
set_option maxRecDepth 100000

theorem cInt : Try.prog.cellsOf 3 = 1 := by kernel_rfl
theorem cInts : Try.prog.cellsOf 22 = 1 := by kernel_rfl
section
variable {H : Type} {enc : TypeId × Value → H} {W : World} {base : Nat} {sp : Nat → Bool} {held : Bool}

/-- A cell that reads as an int. -/
theorem part_int {n : Nat} {c : Value} {o : Option (DataW H × List MemPlace)} {y : DataW H × List MemPlace} (ho : o = some y) (h : DataW.trod enc Try.prog W base sp held n 3 [c] = o) : ∃ z : Int, c = .int .i64 z ∧ I64 z := by
  obtain ⟨z, e, _, hw⟩ := DataW.trod_int Try.underlying3 (h.trans ho)
  exact ⟨z, by simpa using e, bounds_i64 hw⟩
theorem add_at {a : Addr} (h : a.spot = none) (n : Nat) : a.add n = ⟨a.block, a.off + n, none⟩ := by
  unfold Addr.add
  split
  · rename_i h0; subst h0; cases a; simp only at h; subst h; rfl
  · rfl
theorem add_zero (a : Addr) : a.add 0 = a := by unfold Addr.add; simp
theorem spot_none {w : World} {a : Addr} {v : Value} (h : w.cell? a = some v) : a.spot = none := by
  unfold World.cell? at h
  split at h
  · split at h
    · cases h
    · rename_i hs; simpa using hs
  · cases h
theorem addr_of {a : Addr} (h : a.spot = none) : a = ⟨a.block, a.off, none⟩ := by cases a; simp only at h; subst h; rfl
theorem gi_map (f : Nat → Int) {n i : Nat} (h : i < n) : gi ((List.range n).map f) i = f i := by
  unfold gi; rw [List.getD_eq_getElem?_getD, List.getElem?_map, List.getElem?_range h]; rfl
theorem gr_map (f : Nat → List Int) {n i : Nat} (h : i < n) : gr ((List.range n).map f) i = f i := by
  unfold gr; rw [List.getD_eq_getElem?_getD, List.getElem?_map, List.getElem?_range h]; rfl
theorem ne_pos {α : Type} {f : Nat → α} {n : Nat} (h : (List.range n).map f ≠ []) : 0 < n := by
  apply Nat.pos_of_ne_zero
  rintro rfl
  exact h rfl

theorem open_ints {fuel : Nat} {v : Value} {y : DataW H × List MemPlace} (h : DataW.trod enc Try.prog W base sp held fuel 22 [v] = some y) :
    ∃ (a : Option Addr) (l : List Int) (cap : Nat), v = .slice a l.length cap ∧ IntsS W a l ∧ l.length ≤ cap := by
  rcases Go.Deep.open_slice1 Try.underlying22 cInt h with ⟨hcs, _⟩ | ⟨a, len, cap, m, n, V, D, Pl, hcs, hb, hl, hm, hmm, hx, hi⟩
  · obtain rfl : v = .slice none 0 0 := by simpa using hcs
    exact ⟨none, [], 0, rfl, ⟨by simp, fun i hi => absurd hi (Nat.not_lt_zero _), 0, 0, (fun h => absurd rfl h), fun i hi => absurd hi (Nat.not_lt_zero _)⟩, Nat.le_refl _⟩
  · obtain rfl : v = .slice (some a) len cap := by simpa using hcs
    have hlm : len ≤ m := by rw [hmm]; split <;> omega
    have key0 : ∀ i, i < len → ∃ x : Int, W.cell? (a.add i) = some (.int .i64 x) ∧ I64 x := fun i hil => by
      obtain ⟨hc, ht⟩ := hi i (by omega)
      obtain ⟨z, hz, hb⟩ := part_int rfl ht
      exact ⟨z, by rw [hc, hz], hb⟩
    have hspot : 0 < len → a.spot = none := fun h0 => by
      obtain ⟨x, hc, _⟩ := key0 0 h0
      rw [add_zero] at hc
      exact spot_none hc
    obtain ⟨f, hf⟩ := Go.Deep.choose_lt (α := Int) (n := len) (p := fun i x => W.cell? (a.add i) = some (.int .i64 x) ∧ I64 x) key0
    refine ⟨some a, (List.range len).map f, cap, by simp, ⟨by simp; unfold maxLen at hm; omega, ?_, a.block, a.off, ?_, ?_⟩, by simpa using hl⟩
    · intro i hi
      have hi : i < len := by simpa using hi
      rw [gi_map f hi]
      exact (hf i hi).2
    · intro hne
      rw [← addr_of (hspot (ne_pos hne))]
    · intro i hi
      have hi : i < len := by simpa using hi
      rw [gi_map f hi, ← add_at (hspot (by omega))]
      exact (hf i hi).1

theorem open_rows {fuel : Nat} {v : Value} {y : DataW H × List MemPlace} (h : DataW.trod enc Try.prog W base sp held fuel 26 [v] = some y) :
    ∃ (a : Option Addr) (r : List (List Int)) (cap : Nat), v = .slice a r.length cap ∧ RowsS W a r := by
  rcases Go.Deep.open_slice1 Try.underlying26 cInts h with ⟨hcs, _⟩ | ⟨a, len, cap, m, n, V, D, Pl, hcs, hb, hl, hm, hmm, hx, hi⟩
  · obtain rfl : v = .slice none 0 0 := by simpa using hcs
    exact ⟨none, [], 0, rfl, by simp, 0, 0, fun _ => none, fun _ => 0, (fun h => absurd rfl h), fun i hi => absurd hi (Nat.not_lt_zero _)⟩
  · obtain rfl : v = .slice (some a) len cap := by simpa using hcs
    have hlm : len ≤ m := by rw [hmm]; split <;> omega
    have key0 : ∀ i, i < len → ∃ x : Option Addr × List Int × Nat, W.cell? (a.add i) = some (.slice x.1 x.2.1.length x.2.2) ∧ IntsS W x.1 x.2.1 ∧ x.2.1.length ≤ x.2.2 := fun i hil => by
      obtain ⟨hc, ht⟩ := hi i (by omega)
      obtain ⟨b, l, c, hz, hI⟩ := open_ints ht
      exact ⟨(b, l, c), by rw [hc, hz], hI⟩
    have hspot : 0 < len → a.spot = none := fun h0 => by
      obtain ⟨x, hc, _⟩ := key0 0 h0
      rw [add_zero] at hc
      exact spot_none hc
    obtain ⟨f, hf⟩ := Go.Deep.choose_lt (α := Option Addr × List Int × Nat) (n := len) (p := fun i x => W.cell? (a.add i) = some (.slice x.1 x.2.1.length x.2.2) ∧ IntsS W x.1 x.2.1 ∧ x.2.1.length ≤ x.2.2) key0
    refine ⟨some a, (List.range len).map fun i => (f i).2.1, cap, by simp, by simp; unfold maxLen at hm; omega, a.block, a.off, fun i => (f i).1, fun i => (f i).2.2, ?_, ?_⟩
    · intro hne
      rw [← addr_of (hspot (ne_pos hne))]
    · intro i hi
      have hi : i < len := by simpa using hi
      rw [gr_map (fun i => (f i).2.1) hi, ← add_at (hspot (by omega))]
      exact hf i hi

end
end Go.Proofs.Ytgphkfonjfdifaa

namespace Go.Proofs.Ytgphkfonjfdifaa
set_option linter.unusedVariables false
set_option linter.unusedSimpArgs false
open Go.RowKit Go.ChangeShapes Go.WideShapes Go.ChangeAt
set_option maxRecDepth 100000

theorem cStep : Try.prog.cellsOf 57 = 4 := by kernel_rfl
theorem cWork : Try.prog.cellsOf 55 = 1 := by kernel_rfl
theorem gs_map (f : Nat → Stp) {n i : Nat} (h : i < n) : gs ((List.range n).map f) i = f i := by
  unfold gs; rw [List.getD_eq_getElem?_getD, List.getElem?_map, List.getElem?_range h]; rfl
theorem gj_map (f : Nat → List Stp) {n i : Nat} (h : i < n) : gj ((List.range n).map f) i = f i := by
  unfold gj; rw [List.getD_eq_getElem?_getD, List.getElem?_map, List.getElem?_range h]; rfl
section
variable {H : Type} {enc : TypeId × Value → H} {W : World} {base : Nat} {sp : Nat → Bool} {held : Bool}

theorem open_steps {fuel : Nat} {v : Value} {y : DataW H × List MemPlace} (h : DataW.trod enc Try.prog W base sp held fuel 53 [v] = some y) :
    ∃ (a : Option Addr) (l : List Stp) (cap : Nat), v = .slice a l.length cap ∧ StepsS W a l ∧ l.length ≤ cap := by
  rcases Go.Deep.open_slice Try.underlying53 h with ⟨hcs, _⟩ | ⟨a, len, cap, m, n, D, Pl, hcs, hb, hl, hm, hmm, hx, hi⟩
  · obtain rfl : v = .slice none 0 0 := by simpa using hcs
    exact ⟨none, [], 0, rfl, ⟨by simp, fun i hi => absurd hi (Nat.not_lt_zero _), 0, 0, (fun h => absurd rfl h), fun i hi => absurd hi (Nat.not_lt_zero _)⟩, Nat.le_refl _⟩
  · obtain rfl : v = .slice (some a) len cap := by simpa using hcs
    have hlm : len ≤ m := by rw [hmm]; split <;> omega
    rw [cStep] at hi
    have key0 : ∀ i, i < len → ∃ x : Stp, (W.cell? ((a.add (i * 4)).add 0) = some (.int .i64 x.1) ∧ W.cell? ((a.add (i * 4)).add 1) = some (.int .i64 x.2.1) ∧ W.cell? ((a.add (i * 4)).add 2) = some (.int .i64 x.2.2.1) ∧ W.cell? ((a.add (i * 4)).add 3) = some (.int .i64 x.2.2.2)) ∧ (I64 x.1 ∧ I64 x.2.1 ∧ I64 x.2.2.1 ∧ I64 x.2.2.2) := fun i hil => by
      obtain ⟨cs, hc, htr⟩ := hi i (by omega)
      obtain ⟨hcl, _, hat⟩ := World.cells?_some hc
      match cs, hcl with
      | [c0, c1, c2, c3], _ =>
        obtain ⟨y0, y1, y2, y3, n', _, _, g0, g1, g2, g3⟩ := Joins.trod_struct4 Try.underlying57 htr
        obtain ⟨z0, rfl, b0⟩ := part_int rfl (show DataW.trod enc Try.prog W base sp held n' 3 [c0] = some y0 from g0)
        obtain ⟨z1, rfl, b1⟩ := part_int rfl (show DataW.trod enc Try.prog W base sp held n' 3 [c1] = some y1 from g1)
        obtain ⟨z2, rfl, b2⟩ := part_int rfl (show DataW.trod enc Try.prog W base sp held n' 3 [c2] = some y2 from g2)
        obtain ⟨z3, rfl, b3⟩ := part_int rfl (show DataW.trod enc Try.prog W base sp held n' 3 [c3] = some y3 from g3)
        exact ⟨(z0, z1, z2, z3), ⟨hat 0 (by decide), hat 1 (by decide), hat 2 (by decide), hat 3 (by decide)⟩, b0, b1, b2, b3⟩
    have hspot : 0 < len → a.spot = none := fun h0 => by
      obtain ⟨x, ⟨hc, _⟩, _⟩ := key0 0 h0
      rw [show 0 * 4 = 0 from rfl, add_zero, add_zero] at hc
      exact spot_none hc
    obtain ⟨f, hf⟩ := Go.Deep.choose_lt (α := Stp) (n := len) (p := fun i x => (W.cell? ((a.add (i * 4)).add 0) = some (.int .i64 x.1) ∧ W.cell? ((a.add (i * 4)).add 1) = some (.int .i64 x.2.1) ∧ W.cell? ((a.add (i * 4)).add 2) = some (.int .i64 x.2.2.1) ∧ W.cell? ((a.add (i * 4)).add 3) = some (.int .i64 x.2.2.2)) ∧ (I64 x.1 ∧ I64 x.2.1 ∧ I64 x.2.2.1 ∧ I64 x.2.2.2)) key0
    refine ⟨some a, (List.range len).map f, cap, by simp, ⟨by simp; unfold maxLen at hm; omega, ?_, a.block, a.off, ?_, ?_⟩, by simpa using hl⟩
    · intro i hi
      have hi : i < len := by simpa using hi
      rw [gs_map f hi]
      exact (hf i hi).2
    · intro hne
      rw [← addr_of (hspot (ne_pos hne))]
    · intro i hi
      have hi : i < len := by simpa using hi
      have hs := hspot (by omega)
      have := (hf i hi).1
      rw [add_at hs, add_zero, add_at rfl, add_at rfl, add_at rfl] at this
      rw [gs_map f hi]
      exact this
theorem open_jobs {fuel : Nat} {v : Value} {y : DataW H × List MemPlace} (h : DataW.trod enc Try.prog W base sp held fuel 23 [v] = some y) :
    ∃ (a : Option Addr) (r : List (List Stp)) (cap : Nat), v = .slice a r.length cap ∧ JobsS W a r := by
  rcases Go.Deep.open_slice Try.underlying23 h with ⟨hcs, _⟩ | ⟨a, len, cap, m, n, D, Pl, hcs, hb, hl, hm, hmm, hx, hi⟩
  · obtain rfl : v = .slice none 0 0 := by simpa using hcs
    exact ⟨none, [], 0, rfl, by simp, 0, 0, fun _ => none, fun _ => 0, (fun h => absurd rfl h), fun i hi => absurd hi (Nat.not_lt_zero _)⟩
  · obtain rfl : v = .slice (some a) len cap := by simpa using hcs
    have hlm : len ≤ m := by rw [hmm]; split <;> omega
    rw [cWork] at hi
    have key0 : ∀ i, i < len → ∃ x : Option Addr × List Stp × Nat, W.cell? (a.add i) = some (.slice x.1 x.2.1.length x.2.2) ∧ StepsS W x.1 x.2.1 ∧ x.2.1.length ≤ x.2.2 := fun i hil => by
      obtain ⟨cs, hc, htr⟩ := hi i (by omega)
      obtain ⟨hcl, _, hat⟩ := World.cells?_some hc
      match cs, hcl with
      | [c0], _ =>
        obtain ⟨u0, n', _, _, g⟩ := trod_struct1 Try.underlying55 htr
        obtain ⟨b, l, c, rfl, hI, hle⟩ := open_steps (show DataW.trod enc Try.prog W base sp held n' 53 [c0] = some u0 from g)
        refine ⟨(b, l, c), ?_, hI, hle⟩
        have h1 := hat 0 (by decide)
        rwa [Nat.mul_one, add_zero] at h1
    have hspot : 0 < len → a.spot = none := fun h0 => by
      obtain ⟨x, hc, _⟩ := key0 0 h0
      rw [add_zero] at hc
      exact spot_none hc
    obtain ⟨f, hf⟩ := Go.Deep.choose_lt (α := Option Addr × List Stp × Nat) (n := len) (p := fun i x => W.cell? (a.add i) = some (.slice x.1 x.2.1.length x.2.2) ∧ StepsS W x.1 x.2.1 ∧ x.2.1.length ≤ x.2.2) key0
    refine ⟨some a, (List.range len).map fun i => (f i).2.1, cap, by simp, by simp; unfold maxLen at hm; omega, a.block, a.off, fun i => (f i).1, fun i => (f i).2.2, ?_, ?_⟩
    · intro hne
      rw [← addr_of (hspot (ne_pos hne))]
    · intro i hi
      have hi : i < len := by simpa using hi
      rw [gj_map (fun i => (f i).2.1) hi, ← add_at (hspot (by omega))]
      exact hf i hi

theorem open_shop {v : Value} {d : DataW H} {p : List MemPlace} (hv : Value.okWide Try.prog W .any base 25 v) (h : DataW.Trod enc Try.prog W 0 sp held 25 v d p) :
    ∃ s : Sh, v = .agg #[.int .i64 s.O, .int .i64 s.C, .slice s.aH s.H.length s.cH, .int .i64 s.M, .slice s.aS s.S.length s.cS, .slice s.aJ s.J.length s.cJ] ∧ ShS W s ∧ I64 s.O ∧ I64 s.C ∧ I64 s.M := by
  obtain ⟨⟨cs⟩, rfl, hsz⟩ := okWide_struct Try.underlying25 hv
  have hC : Try.prog.cellsOf 25 = 6 := by kernel_rfl
  match cs, hsz.trans hC with
  | [c0, c1, c2, c3, c4, c5], _ =>
    obtain ⟨fuel, hf⟩ := h
    obtain ⟨xs, n, _, _, _, hlen, hg⟩ := DataW.trod_struct Try.underlying25 hf
    match xs, hlen with
    | [u0, u1, u2, u3, u4, u5], _ =>
      have g0 := hg 0 _ rfl
      have g1 := hg 1 _ rfl
      have g2 := hg 2 _ rfl
      have g3 := hg 3 _ rfl
      have g4 := hg 4 _ rfl
      have g5 := hg 5 _ rfl
      obtain ⟨O, rfl, b0⟩ := part_int rfl (show DataW.trod enc Try.prog W 0 sp held n 3 [c0] = some u0 from g0)
      obtain ⟨C, rfl, b1⟩ := part_int rfl (show DataW.trod enc Try.prog W 0 sp held n 3 [c1] = some u1 from g1)
      obtain ⟨aH, H', cH, rfl, hH, _⟩ := open_ints (show DataW.trod enc Try.prog W 0 sp held n 22 [c2] = some u2 from g2)
      obtain ⟨M, rfl, b3⟩ := part_int rfl (show DataW.trod enc Try.prog W 0 sp held n 3 [c3] = some u3 from g3)
      obtain ⟨aS, S, cS, rfl, hS, _⟩ := open_ints (show DataW.trod enc Try.prog W 0 sp held n 22 [c4] = some u4 from g4)
      obtain ⟨aJ, J, cJ, rfl, hJ⟩ := open_jobs (show DataW.trod enc Try.prog W 0 sp held n 23 [c5] = some u5 from g5)
      exact ⟨⟨O, C, aH, H', cH, M, aS, S, cS, aJ, J, cJ⟩, rfl, ⟨hH, hS, hJ⟩, b0, b1, b3⟩
end
end Go.Proofs.Ytgphkfonjfdifaa

namespace Go.Proofs.Ytgphkfonjfdifaa
set_option linter.unusedVariables false
set_option linter.unusedSimpArgs false
open Go.RowKit Go.ChangeShapes Go.WideShapes Go.ChangeAt
set_option maxRecDepth 100000
section
variable {H : Type} {enc : TypeId × Value → H} {W : World} {base : Nat} {sp : Nat → Bool} {held : Bool}
theorem open_rowsV {v : Value} {d : DataW H} {p : List MemPlace} (hv : Value.okWide Try.prog W .any base 26 v) (h : DataW.Trod enc Try.prog W 0 sp held 26 v d p) :
    ∃ (a : Option Addr) (r : List (List Int)) (cap : Nat), v = .slice a r.length cap ∧ RowsS W a r := by
  obtain ⟨a, n, c, rfl⟩ := okWide_slice Try.underlying26 hv
  obtain ⟨fuel, hf⟩ := h
  exact open_rows hf
end
end Go.Proofs.Ytgphkfonjfdifaa
