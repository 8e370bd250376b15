/-
  The walk of the law FaceStrips: it answers true. By an AI agent.
-/
import Derived.Test.YtgpobcfbafiaaabGreatDoorStripA
import Derived.Test.YtgpobcfbafiaaabGreatDoorSeamsE
import Derived.Test.YtgpobcfbafiaaabGreatDoorPanB
import Derived.Deep.RegionHeld3
namespace Go.Proofs.YtgpobcfbafiaaabGreatDoor
open Go.RowKit

set_option maxRecDepth 100000 in
set_option maxHeartbeats 8000000 in
theorem strips_main (sh sz h wd : Int) (a : Option Addr) (cap : Nat) (its : List It) (w : World) (hT : Tabs w) (hI : ItemsAt w a its) (hlong : longB its = false) (hok : faceB sh sz h its = true) (hwd : btw wd 1 200 = true) :
    Calls Tryz.prog 7 #[.agg #[.int .i64 sh, .int .i64 sz, .int .i64 h, .slice a its.length cap], .int .i64 wd] w fun e w' => e = .returned (.bool true) ∧ Below w.heap.size w w' := by
  have HT := Lib.hid hT
  have HL : Hid (∀ W, Below w.heap.size w W → Calls Tryz.prog 23 #[.agg #[.int .i64 sh, .int .i64 sz, .int .i64 h, .slice a its.length cap]] W fun e w' => e = .returned (.bool false) ∧ Below W.heap.size W w') := Lib.hid fun W hb => by rw [← hlong]; exact long_any sh sz h a cap its W (hI.below hb)
  have HR : Hid (∀ W, Below w.heap.size w W → Calls Tryz.prog 9 #[.agg #[.int .i64 sh, .int .i64 sz, .int .i64 h, .slice a its.length cap]] W fun e w' => e = .returned (.bool true) ∧ Below W.heap.size W w') := Lib.hid fun W hb => by rw [← hok]; exact refValid_any sh sz h a cap its W (hI.below hb)
  have HS : Hid (∀ W, Below w.heap.size w W → Calls Tryz.prog 24 #[.agg #[.int .i64 sh, .int .i64 sz, .int .i64 h, .slice a its.length cap], .int .i64 wd] W (SeamsEnd W (seamsOf (forbB its) sz wd))) := Lib.hid fun W hb => seams_any sh sz h wd a cap its W (hT.below hb) (hI.below hb) hok hwd
  have hA : its.all It.ok = true := by unfold faceB at hok; simp only [Bool.and_eq_true] at hok; exact hok.2.2.2.2
  have hN : its.length ≤ 16 := by unfold faceB at hok; simp only [Bool.and_eq_true, decide_eq_true_eq] at hok; exact hok.2.2.2.1
  obtain ⟨h0, h1, s0, s1, _⟩ := faceB_bd hok
  have HX : Hid (∀ W, Calls Tryz.prog 25 #[.agg #[.int .i64 sh, .int .i64 sz, .int .i64 h, .slice a its.length cap]] W fun e w' => e = .returned (.tuple #[.int .i64 sz, .int .i64 (extH sh sz h)]) ∧ Below W.heap.size W w') := Lib.hid fun W => refExtent_any sh sz h _ W h0 h1 (by omega) (by omega)
  have HF : Hid (∀ W c, Below w.heap.size w W → Calls Tryz.prog 26 #[.agg #[.int .i64 sh, .int .i64 sz, .int .i64 h, .slice a its.length cap], .int .i64 c] W fun e w' => e = .returned (.bool (forbB its c)) ∧ Below W.heap.size W w') := Lib.hid fun W c hb => forbidden_any sh sz h a cap its c W (hI.below hb) hA hN
  have H1 : Hid (∀ W, Below w.heap.size w W → Calls Tryz.prog 10 #[] W fun e w' => e = .returned (.bool true) ∧ Below W.heap.size W w') := Lib.hid fun W hb => first_any W (hT.below hb)
  obtain ⟨w1, w2⟩ := (btw_iff _ _ _).1 hwd
  clear hwd hI hok hA hN h0 h1 hT hlong
  obtain ⟨n, rfl⟩ : ∃ n : Nat, sz = n := ⟨sz.toNat, by omega⟩
  have HM : Hid (∀ B, GoodTo (forbB its) n wd B n → match seamsOf (forbB its) n wd with | none => B n < 0 | some l => SeamOk (forbB its) n wd 0 l ∧ B n = l.length + 1) := Lib.hid fun B hB => by
    have := strips_all (fb := forbB its) (w := (n : Int)) (B := B) w1 (by omega) (by rw [Int.toNat_natCast]; exact hB)
    rwa [Int.toNat_natCast] at this
  have HLen : Hid (∀ l, seamsOf (forbB its) n wd = some l → l.length ≤ 100000) := Lib.hid fun l hl => seams_len _ _ _ _ (by omega) hl
  generalize extH sh n h = eh at *
  generalize forbB its = fb at *
  generalize its.length = len at *
  generalize seamsOf fb n wd = so at *
  obtain ⟨i0, hi, hz0, hz1, hz2⟩ := info_parts intInfo
  go_enter Tryz.func7, Tryz.ntmps7
  go_wp2_with fail
  have hb0 := Below.refl (w.alloc (.cells #[.int .i64 sh, .int .i64 n, .int .i64 h, .slice a len cap] 24)).heap.size (w.alloc (.cells #[.int .i64 sh, .int .i64 n, .int .i64 h, .slice a len cap] 24))
  refine (HL.out _ (box_below hb0)).mono ?_
  rintro e w1' ⟨rfl, hb1⟩
  obtain ⟨hc1, hf1⟩ := bcell hb1
  go_wp2_with fail
  refine (HR.out _ (box_below hb1)).mono ?_
  rintro e w2' ⟨rfl, hb2⟩
  have hb2 := hb1.trans (hb2.mono hb1.size)
  clear hc1 hf1
  obtain ⟨hc2, hf2⟩ := bcell hb2
  go_wp2_with fail
  refine (HS.out _ (box_below hb2)).mono ?_
  rintro e w3 hse
  cases so with
  | none =>
    obtain ⟨hb3, rfl⟩ := hse
    have hb3 := hb2.trans (hb3.mono hb2.size)
    clear hc2 hf2
    obtain ⟨hc3, hf3⟩ := bcell hb3
    have hlv : IntsAt w3 (.slice none 0 0) [] := ⟨none, 0, rfl, fun h => absurd rfl h⟩
    go_wp2_with fail
    refine (HX.out _).mono ?_
    rintro e w4 ⟨rfl, hb4⟩
    have hb4 := hb3.trans (hb4.mono hb3.size)
    clear hc3 hf3
    obtain ⟨hc4, hf4⟩ := bcell hb4
    have hB4 := box_below hb4
    have hz4 : w.heap.size < w4.heap.size := by have := hb4.size; simp at this; omega
    have hne : w4.heap.size ≠ w.heap.size := by omega
    have hne2 : w.heap.size ≠ w4.heap.size := by omega
    go_wp2_with (refine wpList_make_full _ rfl _ _ 40 rfl w4.heap.size 3 i0 (.int .i64 0) 1 Tryz.underlying40 hi hz0 hz1 _ _ ((n : Int) + 1) ((n : Int) + 1) (n + 1) rfl rfl (by omega) (by omega) ?c1 ?c2 ?c3 ?_)
    case c1 => rw [hz2]; omega
    case c2 => unfold maxLen; omega
    case c3 => simp
    intro w5 hown hgrow
    have hr0 : IRow w4.heap.size w5 w4.heap.size (n + 1) (fun _ => 0) := IRow.made hown
    have hb5 : Below w4.heap.size w4 w5 := (Below.refl _ _).grown hgrow (Nat.le_refl _) (fun k h => by cases h)
    have hz5 := block_lt (hr0.cell (show 0 < n + 1 by omega))
    have HR0 := Lib.hid hr0
    clear hown hgrow hi hz0 hz1 hz2 hr0
    go_wp2_with fail
    go_loopw [10] (fun i wr => ∃ (c : Nat) (B : Nat → Int), 1 ≤ c ∧ c ≤ n + 1 ∧ i = .int .i64 c ∧ Hid (IRow w4.heap.size wr w4.heap.size (n + 1) B) ∧ Hid (GoodTo fb n wd B (c - 1)) ∧ Below w4.heap.size w4 wr ∧ w4.heap.size < wr.heap.size) (fun i _ => n + 1 - (intOf i).toNat)
    case atStart => exact ⟨1, _, Nat.le_refl _, by omega, rfl, HR0, Lib.hid ⟨rfl, fun c h1 h2 => by omega⟩, hb5, hz5⟩
    case round =>
      obtain ⟨c, B, h1c, h2c, rfl, HRow, HG, hbr, hzr⟩ := hrel
      obtain ⟨hcr, hfr⟩ := bcell hbr
      by_cases hcn : c ≤ n
      · have HBd : Hid (∀ j, j < c → -1 ≤ B j ∧ B j ≤ 200) := Lib.hid fun j hj => by have := good_bd w1 HG.out j j (Nat.le_refl _) (by omega); omega
        have cc0 := HRow.out.cell (show c < n + 1 by omega)
        have fc0 := HRow.out.frozen c
        have hBs : Below w.heap.size w (wr.setCell ⟨w4.heap.size, c, none⟩ (.int .i64 (-1))) := (hB4.trans (hbr.mono (by omega))).setCell (by show w.heap.size ≤ w4.heap.size; omega) _
        have g2 : (0 : Int) ≤ (c : Int) := by omega
        have g3 : (c : Int) < ((n + 1 : Nat) : Int) := by omega
        by_cases hlt : c < n
        · by_cases hfc : fb c = true
          · have hskip : (c : Int) < n ∧ fb c = true := ⟨by omega, hfc⟩
            have HG2 : Hid (GoodTo fb n wd (upd B c (-1)) c) := Lib.hid (good_step h1c w1 HG.out (by rw [if_pos hskip]))
            have Hf := Lib.hid hfc
            clear hskip hfc HG
            go_wp2_with (first | (go_at_call 26; refine (HF.out _ _ hBs).mono ?_; rintro e w6 ⟨rfl, hb6⟩; rw [Hf.out]))
            go_roundw
            case rel => exact ⟨c + 1, _, by omega, by omega, by go_num, Lib.hid ((HRow.out.store c (-1)).below hb6), HG2, (hbr.setCell (Nat.le_refl _) _).trans (hb6.mono (by rw [World.size_setCell]; omega)), Nat.lt_of_lt_of_le hzr (by have := hb6.size; rwa [World.size_setCell] at this)⟩
            case measure => simp [intOf]; omega
          · have hfc : fb c = false := by simpa using hfc
            have hskip : ¬ ((c : Int) < n ∧ fb c = true) := by rw [hfc]; simp
            obtain ⟨lo, hlo⟩ : ∃ lo : Nat, lowc wd c = lo := ⟨_, rfl⟩
            have hlo1 : max 0 ((c : Int) - wd) = (lo : Int) := by rw [← hlo]; unfold lowc; omega
            have hlo2 : lo ≤ c := by omega
            have Hf := Lib.hid hfc
            go_wp2_with (first | (go_at_call 26; refine (HF.out _ _ hBs).mono ?_; rintro e w6 ⟨rfl, hb6⟩; rw [Hf.out]))
            have hb6' : Below w4.heap.size w4 w6 := (hbr.setCell (Nat.le_refl _) _).trans (hb6.mono (by rw [World.size_setCell]; omega))
            have hz6 : w4.heap.size < w6.heap.size := Nat.lt_of_lt_of_le hzr (by have := hb6.size; rwa [World.size_setCell] at this)
            have HRs : Hid (IRow w4.heap.size w6 w4.heap.size (n + 1) (upd B c (-1))) := Lib.hid ((HRow.out.store c (-1)).below hb6)
            clear hcr hfr cc0 fc0 HRow hb6 hbr hzr hBs
            go_loopw [11] (fun i wq => ∃ b : Nat, lo ≤ b ∧ b ≤ c ∧ i = .int .i64 b ∧ Hid (IRow w4.heap.size wq w4.heap.size (n + 1) (upd B c (mf B lo (b - lo)))) ∧ Below w4.heap.size w4 wq ∧ w4.heap.size < wq.heap.size) (fun i _ => c - (intOf i).toNat)
            case atStart => exact ⟨lo, Nat.le_refl _, hlo2, rfl, Lib.hid (by rw [Nat.sub_self]; exact HRs.out), hb6', hz6⟩
            case round =>
              obtain ⟨b, hb1, hb2, rfl, HR2, hbq, hzq⟩ := hrel
              obtain ⟨hcq, hfq⟩ := bcell hbq
              by_cases hbc : b < c
              · have cb := HR2.out.cell (show b < n + 1 by omega)
                have cc := HR2.out.cell (show c < n + 1 by omega)
                have fc := HR2.out.frozen c
                rw [upd_other _ _ _ _ (by omega)] at cb
                rw [upd_same] at cc
                have hx := HBd.out b (by omega)
                have hy := mf_bd (B := B) (lo := lo) (M := 200) (by omega) (fun _ => .inr trivial) (b - lo) (fun j hj => by have := HBd.out (lo + j) (by omega); omega)
                have HHit : Hid (0 ≤ B b ∧ (mf B lo (b - lo) < 0 ∨ B b + 1 < mf B lo (b - lo)) → IRow w4.heap.size (wr.setCell ⟨w4.heap.size, c, none⟩ (.int .i64 (B b + 1))) w4.heap.size (n + 1) (upd B c (mf B lo (b + 1 - lo)))) := Lib.hid fun hh => by
                  rw [mf_hit hb1 hh]
                  exact (HR2.out.store c (B b + 1)).congr fun j _ => by unfold upd; split <;> rfl
                have HMiss : Hid (¬ (0 ≤ B b ∧ (mf B lo (b - lo) < 0 ∨ B b + 1 < mf B lo (b - lo))) → IRow w4.heap.size wr w4.heap.size (n + 1) (upd B c (mf B lo (b + 1 - lo)))) := Lib.hid fun hh => by
                  rw [mf_miss hb1 hh]
                  exact HR2.out
                clear HR2
                generalize mf B lo (b - lo) = y at *
                generalize B b = x at *
                obtain ⟨hx0, hx1⟩ := hx
                obtain ⟨hy0, hy1⟩ := hy
                have g0 : (0 : Int) ≤ (b : Int) := by omega
                have g1 : (b : Int) < ((n + 1 : Nat) : Int) := by omega
                have g2 : (0 : Int) ≤ (c : Int) := by omega
                have g3 : (c : Int) < ((n + 1 : Nat) : Int) := by omega
                have g4 : (b : Int) < (n : Int) + 1 := by omega
                have g5 : (c : Int) < (n : Int) + 1 := by omega
                have e1 : IntKind.i64.wrap (x + 1) = x + 1 := IntWalk.i64_in _ (by omega)
                by_cases k1 : 0 ≤ x
                · by_cases k2 : y < 0
                  · have HN := Lib.hid (HHit.out ⟨k1, .inl k2⟩)
                    clear HHit HMiss
                    go_wp2_with fail
                    go_quiet (fail)
                    go_wp2_with fail
                    go_roundw
                    case rel => exact ⟨b + 1, by omega, by omega, by go_num, Lib.hid HN.out, (below_drewN hbq _).setCell (Nat.le_refl _) _, by simpa using hzq⟩
                    case measure => simp [intOf]; omega
                  · by_cases k3 : x + 1 < y
                    · have HN := Lib.hid (HHit.out ⟨k1, .inr k3⟩)
                      clear HHit HMiss
                      go_wp2_with fail
                      go_quiet (fail)
                      go_wp2_with fail
                      go_roundw
                      case rel => exact ⟨b + 1, by omega, by omega, by go_num, Lib.hid HN.out, (below_drewN hbq _).setCell (Nat.le_refl _) _, by simpa using hzq⟩
                      case measure => simp [intOf]; omega
                    · have HN := Lib.hid (HMiss.out (by omega))
                      clear HHit HMiss
                      go_wp2_with fail
                      go_quiet (fail)
                      go_wp2_with fail
                      go_roundw
                      case rel => exact ⟨b + 1, by omega, by omega, by go_num, Lib.hid HN.out, below_drewN hbq _, hzq⟩
                      case measure => simp [intOf]; omega
                · have HN := Lib.hid (HMiss.out (by omega))
                  have hdf : decide (0 ≤ x) = false := by simpa using k1
                  clear HHit HMiss
                  go_wp2_with fail
                  go_quiet (fail)
                  go_wp2_with fail
                  go_roundw
                  case rel => exact ⟨b + 1, by omega, by omega, by go_num, Lib.hid HN.out, below_drewN hbq _, hzq⟩
                  case measure => simp [intOf]; omega
              · have e : b = c := by omega
                subst e
                have HG2 : Hid (GoodTo fb n wd (upd B b (mf B lo (b - lo))) b) := Lib.hid (good_step h1c w1 HG.out (by rw [if_neg hskip, hlo]))
                clear HG
                go_wp2_with fail
                go_roundw
                case rel => exact ⟨b + 1, _, by omega, by omega, by go_num, HR2, HG2, hbq, hzq⟩
                case measure => simp [intOf]; omega
        · have hskip : ¬ ((c : Int) < n ∧ fb c = true) := fun h => hlt (by omega)
          obtain ⟨lo, hlo⟩ : ∃ lo : Nat, lowc wd c = lo := ⟨_, rfl⟩
          have hlo1 : max 0 ((c : Int) - wd) = (lo : Int) := by rw [← hlo]; unfold lowc; omega
          have hlo2 : lo ≤ c := by omega
          go_wp2_with fail
          have hb6' : Below w4.heap.size w4 (wr.setCell ⟨w4.heap.size, c, none⟩ (.int .i64 (-1))) := hbr.setCell (Nat.le_refl _) _
          have hz6 : w4.heap.size < (wr.setCell ⟨w4.heap.size, c, none⟩ (.int .i64 (-1))).heap.size := by rw [World.size_setCell]; exact hzr
          have HRs : Hid (IRow w4.heap.size (wr.setCell ⟨w4.heap.size, c, none⟩ (.int .i64 (-1))) w4.heap.size (n + 1) (upd B c (-1))) := Lib.hid (HRow.out.store c (-1))
          clear hcr hfr cc0 fc0 HRow hbr hzr hBs
          go_loopw [11] (fun i wq => ∃ b : Nat, lo ≤ b ∧ b ≤ c ∧ i = .int .i64 b ∧ Hid (IRow w4.heap.size wq w4.heap.size (n + 1) (upd B c (mf B lo (b - lo)))) ∧ Below w4.heap.size w4 wq ∧ w4.heap.size < wq.heap.size) (fun i _ => c - (intOf i).toNat)
          case atStart => exact ⟨lo, Nat.le_refl _, hlo2, rfl, Lib.hid (by rw [Nat.sub_self]; exact HRs.out), hb6', hz6⟩
          case round =>
            obtain ⟨b, hb1, hb2, rfl, HR2, hbq, hzq⟩ := hrel
            obtain ⟨hcq, hfq⟩ := bcell hbq
            by_cases hbc : b < c
            · have cb := HR2.out.cell (show b < n + 1 by omega)
              have cc := HR2.out.cell (show c < n + 1 by omega)
              have fc := HR2.out.frozen c
              rw [upd_other _ _ _ _ (by omega)] at cb
              rw [upd_same] at cc
              have hx := HBd.out b (by omega)
              have hy := mf_bd (B := B) (lo := lo) (M := 200) (by omega) (fun _ => .inr trivial) (b - lo) (fun j hj => by have := HBd.out (lo + j) (by omega); omega)
              have HHit : Hid (0 ≤ B b ∧ (mf B lo (b - lo) < 0 ∨ B b + 1 < mf B lo (b - lo)) → IRow w4.heap.size (wr.setCell ⟨w4.heap.size, c, none⟩ (.int .i64 (B b + 1))) w4.heap.size (n + 1) (upd B c (mf B lo (b + 1 - lo)))) := Lib.hid fun hh => by
                rw [mf_hit hb1 hh]
                exact (HR2.out.store c (B b + 1)).congr fun j _ => by unfold upd; split <;> rfl
              have HMiss : Hid (¬ (0 ≤ B b ∧ (mf B lo (b - lo) < 0 ∨ B b + 1 < mf B lo (b - lo))) → IRow w4.heap.size wr w4.heap.size (n + 1) (upd B c (mf B lo (b + 1 - lo)))) := Lib.hid fun hh => by
                rw [mf_miss hb1 hh]
                exact HR2.out
              clear HR2
              generalize mf B lo (b - lo) = y at *
              generalize B b = x at *
              obtain ⟨hx0, hx1⟩ := hx
              obtain ⟨hy0, hy1⟩ := hy
              have g0 : (0 : Int) ≤ (b : Int) := by omega
              have g1 : (b : Int) < ((n + 1 : Nat) : Int) := by omega
              have g2 : (0 : Int) ≤ (c : Int) := by omega
              have g3 : (c : Int) < ((n + 1 : Nat) : Int) := by omega
              have g4 : (b : Int) < (n : Int) + 1 := by omega
              have g5 : (c : Int) < (n : Int) + 1 := by omega
              have e1 : IntKind.i64.wrap (x + 1) = x + 1 := IntWalk.i64_in _ (by omega)
              by_cases k1 : 0 ≤ x
              · by_cases k2 : y < 0
                · have HN := Lib.hid (HHit.out ⟨k1, .inl k2⟩)
                  clear HHit HMiss
                  go_wp2_with fail
                  go_quiet (fail)
                  go_wp2_with fail
                  go_roundw
                  case rel => exact ⟨b + 1, by omega, by omega, by go_num, Lib.hid HN.out, (below_drewN hbq _).setCell (Nat.le_refl _) _, by simpa using hzq⟩
                  case measure => simp [intOf]; omega
                · by_cases k3 : x + 1 < y
                  · have HN := Lib.hid (HHit.out ⟨k1, .inr k3⟩)
                    clear HHit HMiss
                    go_wp2_with fail
                    go_quiet (fail)
                    go_wp2_with fail
                    go_roundw
                    case rel => exact ⟨b + 1, by omega, by omega, by go_num, Lib.hid HN.out, (below_drewN hbq _).setCell (Nat.le_refl _) _, by simpa using hzq⟩
                    case measure => simp [intOf]; omega
                  · have HN := Lib.hid (HMiss.out (by omega))
                    clear HHit HMiss
                    go_wp2_with fail
                    go_quiet (fail)
                    go_wp2_with fail
                    go_roundw
                    case rel => exact ⟨b + 1, by omega, by omega, by go_num, Lib.hid HN.out, below_drewN hbq _, hzq⟩
                    case measure => simp [intOf]; omega
              · have HN := Lib.hid (HMiss.out (by omega))
                have hdf : decide (0 ≤ x) = false := by simpa using k1
                clear HHit HMiss
                go_wp2_with fail
                go_quiet (fail)
                go_wp2_with fail
                go_roundw
                case rel => exact ⟨b + 1, by omega, by omega, by go_num, Lib.hid HN.out, below_drewN hbq _, hzq⟩
                case measure => simp [intOf]; omega
            · have e : b = c := by omega
              subst e
              have HG2 : Hid (GoodTo fb n wd (upd B b (mf B lo (b - lo))) b) := Lib.hid (good_step h1c w1 HG.out (by rw [if_neg hskip, hlo]))
              clear HG
              go_wp2_with fail
              go_roundw
              case rel => exact ⟨b + 1, _, by omega, by omega, by go_num, HR2, HG2, hbq, hzq⟩
              case measure => simp [intOf]; omega
      · have e : c = n + 1 := by omega
        subst e
        have HG3 := HG.out
        rw [Nat.add_sub_cancel] at HG3
        have HMB := HM.out B HG3
        have cN := HRow.out.cell (show n < n + 1 by omega)
        have hBN := good_bd w1 HG3 n n (Nat.le_refl _) (Nat.le_refl _)
        have HMB' : B n < 0 := HMB
        clear HMB HG HG3 HM
        have g7 : (0 : Int) ≤ (n : Int) := by omega
        have g8 : (n : Int) < ((n + 1 : Nat) : Int) := by omega
        go_wp2_with (first | (go_at_call 10; refine (H1.out _ (hB4.trans (hbr.mono (by omega)))).mono ?_; rintro e w9 ⟨rfl, hb9⟩))
        go_ret
        exact ⟨rfl, (hB4.trans (hbr.mono (by omega))).trans (hb9.mono (by have := hbr.size; omega))⟩
  | some l =>
    obtain ⟨hb3, v1, rfl, ho1⟩ := hse
    have hlv := ints_of ho1
    clear ho1
    have hb3 := hb2.trans (hb3.mono hb2.size)
    clear hc2 hf2
    obtain ⟨hc3, hf3⟩ := bcell hb3
    obtain ⟨la, lcap, rfl, hlc⟩ := hlv
    go_wp2_with fail
    refine (HX.out _).mono ?_
    rintro e w4 ⟨rfl, hb4⟩
    have hlc : l ≠ [] → ∃ g, la = some ⟨g, 0, none⟩ ∧ g < w4.heap.size ∧ ∀ j (h : j < l.length), w4.cell? ⟨g, j, none⟩ = some (.int .i64 l[j]) := fun hn => by
      obtain ⟨g, hg, hh⟩ := hlc hn
      have hl0 : 0 < l.length := List.length_pos_iff.2 hn
      exact ⟨g, hg, Nat.lt_of_lt_of_le (block_lt (hh 0 hl0)) hb4.size, fun j hj => (hb4.cell (p := ⟨g, j, none⟩) (block_lt (hh j hj))).trans (hh j hj)⟩
    have hb4 := hb3.trans (hb4.mono hb3.size)
    clear hc3 hf3
    obtain ⟨hc4, hf4⟩ := bcell hb4
    have hB4 := box_below hb4
    have hz4 : w.heap.size < w4.heap.size := by have := hb4.size; simp at this; omega
    have hne : w4.heap.size ≠ w.heap.size := by omega
    have hne2 : w.heap.size ≠ w4.heap.size := by omega
    go_wp2_with (refine wpList_make_full _ rfl _ _ 40 rfl w4.heap.size 3 i0 (.int .i64 0) 1 Tryz.underlying40 hi hz0 hz1 _ _ ((n : Int) + 1) ((n : Int) + 1) (n + 1) rfl rfl (by omega) (by omega) ?c1 ?c2 ?c3 ?_)
    case c1 => rw [hz2]; omega
    case c2 => unfold maxLen; omega
    case c3 => simp
    intro w5 hown hgrow
    have hr0 : IRow w4.heap.size w5 w4.heap.size (n + 1) (fun _ => 0) := IRow.made hown
    have hb5 : Below w4.heap.size w4 w5 := (Below.refl _ _).grown hgrow (Nat.le_refl _) (fun k h => by cases h)
    have hz5 := block_lt (hr0.cell (show 0 < n + 1 by omega))
    have HR0 := Lib.hid hr0
    clear hown hgrow hi hz0 hz1 hz2 hr0
    go_wp2_with fail
    go_loopw [10] (fun i wr => ∃ (c : Nat) (B : Nat → Int), 1 ≤ c ∧ c ≤ n + 1 ∧ i = .int .i64 c ∧ Hid (IRow w4.heap.size wr w4.heap.size (n + 1) B) ∧ Hid (GoodTo fb n wd B (c - 1)) ∧ Below w4.heap.size w4 wr ∧ w4.heap.size < wr.heap.size) (fun i _ => n + 1 - (intOf i).toNat)
    case atStart => exact ⟨1, _, Nat.le_refl _, by omega, rfl, HR0, Lib.hid ⟨rfl, fun c h1 h2 => by omega⟩, hb5, hz5⟩
    case round =>
      obtain ⟨c, B, h1c, h2c, rfl, HRow, HG, hbr, hzr⟩ := hrel
      obtain ⟨hcr, hfr⟩ := bcell hbr
      by_cases hcn : c ≤ n
      · have HBd : Hid (∀ j, j < c → -1 ≤ B j ∧ B j ≤ 200) := Lib.hid fun j hj => by have := good_bd w1 HG.out j j (Nat.le_refl _) (by omega); omega
        have cc0 := HRow.out.cell (show c < n + 1 by omega)
        have fc0 := HRow.out.frozen c
        have hBs : Below w.heap.size w (wr.setCell ⟨w4.heap.size, c, none⟩ (.int .i64 (-1))) := (hB4.trans (hbr.mono (by omega))).setCell (by show w.heap.size ≤ w4.heap.size; omega) _
        have g2 : (0 : Int) ≤ (c : Int) := by omega
        have g3 : (c : Int) < ((n + 1 : Nat) : Int) := by omega
        by_cases hlt : c < n
        · by_cases hfc : fb c = true
          · have hskip : (c : Int) < n ∧ fb c = true := ⟨by omega, hfc⟩
            have HG2 : Hid (GoodTo fb n wd (upd B c (-1)) c) := Lib.hid (good_step h1c w1 HG.out (by rw [if_pos hskip]))
            have Hf := Lib.hid hfc
            clear hskip hfc HG
            go_wp2_with (first | (go_at_call 26; refine (HF.out _ _ hBs).mono ?_; rintro e w6 ⟨rfl, hb6⟩; rw [Hf.out]))
            go_roundw
            case rel => exact ⟨c + 1, _, by omega, by omega, by go_num, Lib.hid ((HRow.out.store c (-1)).below hb6), HG2, (hbr.setCell (Nat.le_refl _) _).trans (hb6.mono (by rw [World.size_setCell]; omega)), Nat.lt_of_lt_of_le hzr (by have := hb6.size; rwa [World.size_setCell] at this)⟩
            case measure => simp [intOf]; omega
          · have hfc : fb c = false := by simpa using hfc
            have hskip : ¬ ((c : Int) < n ∧ fb c = true) := by rw [hfc]; simp
            obtain ⟨lo, hlo⟩ : ∃ lo : Nat, lowc wd c = lo := ⟨_, rfl⟩
            have hlo1 : max 0 ((c : Int) - wd) = (lo : Int) := by rw [← hlo]; unfold lowc; omega
            have hlo2 : lo ≤ c := by omega
            have Hf := Lib.hid hfc
            go_wp2_with (first | (go_at_call 26; refine (HF.out _ _ hBs).mono ?_; rintro e w6 ⟨rfl, hb6⟩; rw [Hf.out]))
            have hb6' : Below w4.heap.size w4 w6 := (hbr.setCell (Nat.le_refl _) _).trans (hb6.mono (by rw [World.size_setCell]; omega))
            have hz6 : w4.heap.size < w6.heap.size := Nat.lt_of_lt_of_le hzr (by have := hb6.size; rwa [World.size_setCell] at this)
            have HRs : Hid (IRow w4.heap.size w6 w4.heap.size (n + 1) (upd B c (-1))) := Lib.hid ((HRow.out.store c (-1)).below hb6)
            clear hcr hfr cc0 fc0 HRow hb6 hbr hzr hBs
            go_loopw [11] (fun i wq => ∃ b : Nat, lo ≤ b ∧ b ≤ c ∧ i = .int .i64 b ∧ Hid (IRow w4.heap.size wq w4.heap.size (n + 1) (upd B c (mf B lo (b - lo)))) ∧ Below w4.heap.size w4 wq ∧ w4.heap.size < wq.heap.size) (fun i _ => c - (intOf i).toNat)
            case atStart => exact ⟨lo, Nat.le_refl _, hlo2, rfl, Lib.hid (by rw [Nat.sub_self]; exact HRs.out), hb6', hz6⟩
            case round =>
              obtain ⟨b, hb1, hb2, rfl, HR2, hbq, hzq⟩ := hrel
              obtain ⟨hcq, hfq⟩ := bcell hbq
              by_cases hbc : b < c
              · have cb := HR2.out.cell (show b < n + 1 by omega)
                have cc := HR2.out.cell (show c < n + 1 by omega)
                have fc := HR2.out.frozen c
                rw [upd_other _ _ _ _ (by omega)] at cb
                rw [upd_same] at cc
                have hx := HBd.out b (by omega)
                have hy := mf_bd (B := B) (lo := lo) (M := 200) (by omega) (fun _ => .inr trivial) (b - lo) (fun j hj => by have := HBd.out (lo + j) (by omega); omega)
                have HHit : Hid (0 ≤ B b ∧ (mf B lo (b - lo) < 0 ∨ B b + 1 < mf B lo (b - lo)) → IRow w4.heap.size (wr.setCell ⟨w4.heap.size, c, none⟩ (.int .i64 (B b + 1))) w4.heap.size (n + 1) (upd B c (mf B lo (b + 1 - lo)))) := Lib.hid fun hh => by
                  rw [mf_hit hb1 hh]
                  exact (HR2.out.store c (B b + 1)).congr fun j _ => by unfold upd; split <;> rfl
                have HMiss : Hid (¬ (0 ≤ B b ∧ (mf B lo (b - lo) < 0 ∨ B b + 1 < mf B lo (b - lo))) → IRow w4.heap.size wr w4.heap.size (n + 1) (upd B c (mf B lo (b + 1 - lo)))) := Lib.hid fun hh => by
                  rw [mf_miss hb1 hh]
                  exact HR2.out
                clear HR2
                generalize mf B lo (b - lo) = y at *
                generalize B b = x at *
                obtain ⟨hx0, hx1⟩ := hx
                obtain ⟨hy0, hy1⟩ := hy
                have g0 : (0 : Int) ≤ (b : Int) := by omega
                have g1 : (b : Int) < ((n + 1 : Nat) : Int) := by omega
                have g2 : (0 : Int) ≤ (c : Int) := by omega
                have g3 : (c : Int) < ((n + 1 : Nat) : Int) := by omega
                have g4 : (b : Int) < (n : Int) + 1 := by omega
                have g5 : (c : Int) < (n : Int) + 1 := by omega
                have e1 : IntKind.i64.wrap (x + 1) = x + 1 := IntWalk.i64_in _ (by omega)
                by_cases k1 : 0 ≤ x
                · by_cases k2 : y < 0
                  · have HN := Lib.hid (HHit.out ⟨k1, .inl k2⟩)
                    clear HHit HMiss
                    go_wp2_with fail
                    go_quiet (fail)
                    go_wp2_with fail
                    go_roundw
                    case rel => exact ⟨b + 1, by omega, by omega, by go_num, Lib.hid HN.out, (below_drewN hbq _).setCell (Nat.le_refl _) _, by simpa using hzq⟩
                    case measure => simp [intOf]; omega
                  · by_cases k3 : x + 1 < y
                    · have HN := Lib.hid (HHit.out ⟨k1, .inr k3⟩)
                      clear HHit HMiss
                      go_wp2_with fail
                      go_quiet (fail)
                      go_wp2_with fail
                      go_roundw
                      case rel => exact ⟨b + 1, by omega, by omega, by go_num, Lib.hid HN.out, (below_drewN hbq _).setCell (Nat.le_refl _) _, by simpa using hzq⟩
                      case measure => simp [intOf]; omega
                    · have HN := Lib.hid (HMiss.out (by omega))
                      clear HHit HMiss
                      go_wp2_with fail
                      go_quiet (fail)
                      go_wp2_with fail
                      go_roundw
                      case rel => exact ⟨b + 1, by omega, by omega, by go_num, Lib.hid HN.out, below_drewN hbq _, hzq⟩
                      case measure => simp [intOf]; omega
                · have HN := Lib.hid (HMiss.out (by omega))
                  have hdf : decide (0 ≤ x) = false := by simpa using k1
                  clear HHit HMiss
                  go_wp2_with fail
                  go_quiet (fail)
                  go_wp2_with fail
                  go_roundw
                  case rel => exact ⟨b + 1, by omega, by omega, by go_num, Lib.hid HN.out, below_drewN hbq _, hzq⟩
                  case measure => simp [intOf]; omega
              · have e : b = c := by omega
                subst e
                have HG2 : Hid (GoodTo fb n wd (upd B b (mf B lo (b - lo))) b) := Lib.hid (good_step h1c w1 HG.out (by rw [if_neg hskip, hlo]))
                clear HG
                go_wp2_with fail
                go_roundw
                case rel => exact ⟨b + 1, _, by omega, by omega, by go_num, HR2, HG2, hbq, hzq⟩
                case measure => simp [intOf]; omega
        · have hskip : ¬ ((c : Int) < n ∧ fb c = true) := fun h => hlt (by omega)
          obtain ⟨lo, hlo⟩ : ∃ lo : Nat, lowc wd c = lo := ⟨_, rfl⟩
          have hlo1 : max 0 ((c : Int) - wd) = (lo : Int) := by rw [← hlo]; unfold lowc; omega
          have hlo2 : lo ≤ c := by omega
          go_wp2_with fail
          have hb6' : Below w4.heap.size w4 (wr.setCell ⟨w4.heap.size, c, none⟩ (.int .i64 (-1))) := hbr.setCell (Nat.le_refl _) _
          have hz6 : w4.heap.size < (wr.setCell ⟨w4.heap.size, c, none⟩ (.int .i64 (-1))).heap.size := by rw [World.size_setCell]; exact hzr
          have HRs : Hid (IRow w4.heap.size (wr.setCell ⟨w4.heap.size, c, none⟩ (.int .i64 (-1))) w4.heap.size (n + 1) (upd B c (-1))) := Lib.hid (HRow.out.store c (-1))
          clear hcr hfr cc0 fc0 HRow hbr hzr hBs
          go_loopw [11] (fun i wq => ∃ b : Nat, lo ≤ b ∧ b ≤ c ∧ i = .int .i64 b ∧ Hid (IRow w4.heap.size wq w4.heap.size (n + 1) (upd B c (mf B lo (b - lo)))) ∧ Below w4.heap.size w4 wq ∧ w4.heap.size < wq.heap.size) (fun i _ => c - (intOf i).toNat)
          case atStart => exact ⟨lo, Nat.le_refl _, hlo2, rfl, Lib.hid (by rw [Nat.sub_self]; exact HRs.out), hb6', hz6⟩
          case round =>
            obtain ⟨b, hb1, hb2, rfl, HR2, hbq, hzq⟩ := hrel
            obtain ⟨hcq, hfq⟩ := bcell hbq
            by_cases hbc : b < c
            · have cb := HR2.out.cell (show b < n + 1 by omega)
              have cc := HR2.out.cell (show c < n + 1 by omega)
              have fc := HR2.out.frozen c
              rw [upd_other _ _ _ _ (by omega)] at cb
              rw [upd_same] at cc
              have hx := HBd.out b (by omega)
              have hy := mf_bd (B := B) (lo := lo) (M := 200) (by omega) (fun _ => .inr trivial) (b - lo) (fun j hj => by have := HBd.out (lo + j) (by omega); omega)
              have HHit : Hid (0 ≤ B b ∧ (mf B lo (b - lo) < 0 ∨ B b + 1 < mf B lo (b - lo)) → IRow w4.heap.size (wr.setCell ⟨w4.heap.size, c, none⟩ (.int .i64 (B b + 1))) w4.heap.size (n + 1) (upd B c (mf B lo (b + 1 - lo)))) := Lib.hid fun hh => by
                rw [mf_hit hb1 hh]
                exact (HR2.out.store c (B b + 1)).congr fun j _ => by unfold upd; split <;> rfl
              have HMiss : Hid (¬ (0 ≤ B b ∧ (mf B lo (b - lo) < 0 ∨ B b + 1 < mf B lo (b - lo))) → IRow w4.heap.size wr w4.heap.size (n + 1) (upd B c (mf B lo (b + 1 - lo)))) := Lib.hid fun hh => by
                rw [mf_miss hb1 hh]
                exact HR2.out
              clear HR2
              generalize mf B lo (b - lo) = y at *
              generalize B b = x at *
              obtain ⟨hx0, hx1⟩ := hx
              obtain ⟨hy0, hy1⟩ := hy
              have g0 : (0 : Int) ≤ (b : Int) := by omega
              have g1 : (b : Int) < ((n + 1 : Nat) : Int) := by omega
              have g2 : (0 : Int) ≤ (c : Int) := by omega
              have g3 : (c : Int) < ((n + 1 : Nat) : Int) := by omega
              have g4 : (b : Int) < (n : Int) + 1 := by omega
              have g5 : (c : Int) < (n : Int) + 1 := by omega
              have e1 : IntKind.i64.wrap (x + 1) = x + 1 := IntWalk.i64_in _ (by omega)
              by_cases k1 : 0 ≤ x
              · by_cases k2 : y < 0
                · have HN := Lib.hid (HHit.out ⟨k1, .inl k2⟩)
                  clear HHit HMiss
                  go_wp2_with fail
                  go_quiet (fail)
                  go_wp2_with fail
                  go_roundw
                  case rel => exact ⟨b + 1, by omega, by omega, by go_num, Lib.hid HN.out, (below_drewN hbq _).setCell (Nat.le_refl _) _, by simpa using hzq⟩
                  case measure => simp [intOf]; omega
                · by_cases k3 : x + 1 < y
                  · have HN := Lib.hid (HHit.out ⟨k1, .inr k3⟩)
                    clear HHit HMiss
                    go_wp2_with fail
                    go_quiet (fail)
                    go_wp2_with fail
                    go_roundw
                    case rel => exact ⟨b + 1, by omega, by omega, by go_num, Lib.hid HN.out, (below_drewN hbq _).setCell (Nat.le_refl _) _, by simpa using hzq⟩
                    case measure => simp [intOf]; omega
                  · have HN := Lib.hid (HMiss.out (by omega))
                    clear HHit HMiss
                    go_wp2_with fail
                    go_quiet (fail)
                    go_wp2_with fail
                    go_roundw
                    case rel => exact ⟨b + 1, by omega, by omega, by go_num, Lib.hid HN.out, below_drewN hbq _, hzq⟩
                    case measure => simp [intOf]; omega
              · have HN := Lib.hid (HMiss.out (by omega))
                have hdf : decide (0 ≤ x) = false := by simpa using k1
                clear HHit HMiss
                go_wp2_with fail
                go_quiet (fail)
                go_wp2_with fail
                go_roundw
                case rel => exact ⟨b + 1, by omega, by omega, by go_num, Lib.hid HN.out, below_drewN hbq _, hzq⟩
                case measure => simp [intOf]; omega
            · have e : b = c := by omega
              subst e
              have HG2 : Hid (GoodTo fb n wd (upd B b (mf B lo (b - lo))) b) := Lib.hid (good_step h1c w1 HG.out (by rw [if_neg hskip, hlo]))
              clear HG
              go_wp2_with fail
              go_roundw
              case rel => exact ⟨b + 1, _, by omega, by omega, by go_num, HR2, HG2, hbq, hzq⟩
              case measure => simp [intOf]; omega
      · have e : c = n + 1 := by omega
        subst e
        have HG3 := HG.out
        rw [Nat.add_sub_cancel] at HG3
        have HMB := HM.out B HG3
        have cN := HRow.out.cell (show n < n + 1 by omega)
        have hBN := good_bd w1 HG3 n n (Nat.le_refl _) (Nat.le_refl _)
        obtain ⟨HSO, HMB⟩ := HMB
        have HSO := Lib.hid HSO
        have HMB2 := Lib.hid HMB
        have g7 : (0 : Int) ≤ (n : Int) := by omega
        have g8 : (n : Int) < ((n + 1 : Nat) : Int) := by omega
        have hbn0 : ¬ B n < 0 := by omega
        clear HMB HG HG3 HM
        rw [HMB2.out] at cN
        clear hbn0 hBN
        have hll := HLen.out l (by first | rfl | trivial)
        have hbw0 : ¬ ((l.length : Int) + 1 < 0) := by omega
        obtain ⟨wo, rfl⟩ : ∃ wo : World, wo = wr := ⟨_, rfl⟩
        go_wp2_with fail
        have hBo : Below w.heap.size w wo := hB4.trans (hbr.mono (by omega))
        have r0 : wo.cell? ⟨w.heap.size, 0, none⟩ = some (.int .i64 sh) := by rw [hcr _ _ hz4, hc4 _ _ (by simp)]; simp [go_sem]
        have r1 : wo.cell? ⟨w.heap.size, 1, none⟩ = some (.int .i64 n) := by rw [hcr _ _ hz4, hc4 _ _ (by simp)]; simp [go_sem]
        have r2 : wo.cell? ⟨w.heap.size, 2, none⟩ = some (.int .i64 h) := by rw [hcr _ _ hz4, hc4 _ _ (by simp)]; simp [go_sem]
        have r3 : wo.cell? ⟨w.heap.size, 3, none⟩ = some (.slice a len cap) := by rw [hcr _ _ hz4, hc4 _ _ (by simp)]; simp [go_sem]
        have hzo : w.heap.size < wo.heap.size := by omega
        clear hcr hfr hc4 hf4
        go_loopw [12, 13] (fun L i wr => ∃ (k : Nat) (last : Int), k ≤ l.length ∧ i = .int .i64 k ∧ L = .int .i64 last ∧ 0 ≤ last ∧ last ≤ n ∧ Hid (SeamOk fb n wd last (l.drop k)) ∧ Below wo.heap.size wo wr) (fun _ i _ => l.length - (intOf i).toNat)
        case atStart => exact ⟨0, 0, Nat.zero_le _, rfl, rfl, by omega, by omega, HSO, Below.refl _ _⟩
        case round =>
          obtain ⟨k, last, hk, rfl, rfl, t0, t1, HSk, hbi⟩ := hrel
          have hBw : Below w.heap.size w wr := hBo.trans (hbi.mono (by omega))
          have his := hbi.size
          by_cases hkl : k < l.length
          · obtain ⟨g, rfl, hgl, hcell⟩ := hlc (fun h => by rw [h] at hkl; simp at hkl)
            obtain ⟨u1, u2, u3, u4, u5⟩ := seamOk_cons hkl HSk.out
            have q4 : wr.cell? ⟨g, k, none⟩ = some (.int .i64 l[k]) := (hbi.cell (p := ⟨g, k, none⟩) (by show g < wo.heap.size; omega)).trans ((hbr.cell (p := ⟨g, k, none⟩) hgl).trans (hcell k hkl))
            have q0 := (hbi.cell (p := ⟨w.heap.size, 0, none⟩) hzo).trans r0
            have q1 := (hbi.cell (p := ⟨w.heap.size, 1, none⟩) hzo).trans r1
            have q2 := (hbi.cell (p := ⟨w.heap.size, 2, none⟩) hzo).trans r2
            have q3 := (hbi.cell (p := ⟨w.heap.size, 3, none⟩) hzo).trans r3
            have Hf := Lib.hid u4
            have HS5 := Lib.hid u5
            have hgw : g < wr.heap.size := by omega
            have hww : w.heap.size < wr.heap.size := by omega
            clear hlc hcell u4 u5 HSO HSk r0 r1 r2 r3 cN
            generalize l[k] = c at *
            have d1 : decide (c ≤ last) = false := by simp; omega
            have d2 : decide ((n : Int) ≤ c) = false := by simp; omega
            have d3 : decide (wd < c - last) = false := by simp; omega
            have d4 : IntKind.i64.wrap (c - last) = c - last := IntWalk.i64_in _ (by omega)
            have g0 : (0 : Int) ≤ (k : Int) := by omega
            have g1 : (k : Int) < (l.length : Int) := by omega
            go_wp2_with fail
            go_region_held3 (fun w' => w'.cell? ⟨w.heap.size, 0, none⟩ = some (.int .i64 sh) ∧ w'.cell? ⟨w.heap.size, 1, none⟩ = some (.int .i64 n) ∧ w'.cell? ⟨w.heap.size, 2, none⟩ = some (.int .i64 h) ∧ w'.cell? ⟨w.heap.size, 3, none⟩ = some (.slice a len cap) ∧ w'.cell? ⟨g, k, none⟩ = some (.int .i64 c)) (go_keep)
              (first
                | (go_at_call 26
                   refine (HF.out _ _ hBw.drew).mono ?_
                   rintro e w6 ⟨rfl, hb6⟩
                   rw [Hf.out]
                   have p0 := (hb6.cell (p := ⟨w.heap.size, 0, none⟩) hww).trans q0
                   have p1 := (hb6.cell (p := ⟨w.heap.size, 1, none⟩) hww).trans q1
                   have p2 := (hb6.cell (p := ⟨w.heap.size, 2, none⟩) hww).trans q2
                   have p3 := (hb6.cell (p := ⟨w.heap.size, 3, none⟩) hww).trans q3
                   have p4 := (hb6.cell (p := ⟨g, k, none⟩) hgw).trans q4))
            all_goals
              go_wp2_with fail
              go_roundw
              case rel => exact ⟨k + 1, c, by omega, by go_num, rfl, by omega, by omega, HS5, (hbi.drew).trans (hb6.mono his)⟩
              case measure => simp [intOf]; omega
          · have e : k = l.length := by omega
            subst e
            have hle := seamOk_end HSk.out
            have cN2 := (hbi.cell (p := ⟨w4.heap.size, n, none⟩) hzr).trans cN
            have HBx := Lib.hid hBw
            clear hlc HSO HSk r0 r1 r2 r3 cN
            go_wp2_with (first | (go_at_call 10; refine (H1.out _ HBx.out).mono ?_; rintro e w9 ⟨rfl, hb9⟩))
            go_ret
            exact ⟨rfl, hBw.trans (hb9.mono hBw.size)⟩
end Go.Proofs.YtgpobcfbafiaaabGreatDoor
