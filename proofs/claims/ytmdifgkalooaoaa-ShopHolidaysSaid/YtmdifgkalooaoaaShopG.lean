/-
  The walks of the reference's Worked and After. By an AI agent.
-/
import Derived.Test.YtmdifgkalooaoaaShopF
namespace Go.Proofs.Ytmdifgkalooaoaa
set_option linter.unusedVariables false
set_option linter.unusedSimpArgs false
open Go.RowKit

set_option maxRecDepth 100000 in
set_option maxHeartbeats 2000000 in
theorem refWorked_sh (s : Sh) (a b : Int) (w : World) (hI : IntsS w s.aH s.H) (hH : HolOk s.H) (o0 : 0 ≤ s.O) (o1 : s.O < s.C) (o2 : s.C ≤ 1440) (a0 : 0 ≤ a) (hab : a ≤ b) (b1 : b ≤ 1000000000) :
    Calls Try.prog 35 #[.agg #[.int .i64 s.O, .int .i64 s.C, .slice s.aH s.H.length s.cH, .int .i64 s.M, .slice s.aS s.S.length s.cS, .slice s.aJ s.J.length s.cJ], .int .i64 a, .int .i64 b] w fun e w' => e = .returned (.int .i64 (opnB s.O s.C s.H b - opnB s.O s.C s.H a)) ∧ Below w.heap.size w w' := by
  have HS := Lib.hid (fun W (hW : Below w.heap.size w W) d d0 d1 => opened_sh s d a b W (hI.below hW) hH.1 o0 o1 o2 d0 d1 a0 (by omega) (by omega) (by omega))
  have hB := ShBox.start w s 25
  have HD : Hid (∀ d, a < 1440 * (d + 1) → 1440 * d < b → dayB s.O s.C s.H d a b = opnB s.O s.C s.H (max a (min b (1440 * (d + 1)))) - opnB s.O s.C s.H (max a (min b (1440 * d)))) := Lib.hid fun d h1 h2 => by
    rw [dayB_eq hH.asc o0 o1 o2 h1 h2 hab, show max a (min b (1440 * (d + 1))) = min b (1440 * (d + 1)) by omega, show max a (min b (1440 * d)) = max a (1440 * d) by omega]
  have HBd : Hid (∀ d, 0 ≤ opnB s.O s.C s.H (max a (min b (1440 * d))) - opnB s.O s.C s.H a ∧ opnB s.O s.C s.H (max a (min b (1440 * d))) - opnB s.O s.C s.H a ≤ 1000001440) := Lib.hid fun d => by
    have h1 := opnB_mono (O := s.O) (C := s.C) hH.asc o0 o1 o2 (show a ≤ max a (min b (1440 * d)) by omega)
    have h2 := opnB_bd (O := s.O) (C := s.C) hH.asc hH.pos o0 o1 o2 (show 0 ≤ max a (min b (1440 * d)) by omega)
    have h3 := opnB_bd (O := s.O) (C := s.C) hH.asc hH.pos o0 o1 o2 a0
    omega
  clear hI hH
  obtain ⟨f, hf⟩ : ∃ f : Int → Int, (fun x => opnB s.O s.C s.H x) = f := ⟨_, rfl⟩
  have hf' : ∀ x, opnB s.O s.C s.H x = f x := fun x => by rw [← hf]
  simp only [hf'] at HD HBd ⊢
  clear hf hf'
  have hd0 : 0 ≤ a / 1440 := by omega
  go_enter Try.func35, Try.ntmps35
  go_wp2_with fail
  obtain ⟨wB, hwB⟩ : ∃ wB, w.alloc (.cells #[.int .i64 s.O, .int .i64 s.C, .slice s.aH s.H.length s.cH, .int .i64 s.M, .slice s.aS s.S.length s.cS, .slice s.aJ s.J.length s.cJ] 25) = wB := ⟨_, rfl⟩
  rw [hwB] at hB ⊢
  clear hwB
  go_loopw [7, 8] (fun n i wr => ∃ d : Int, a / 1440 ≤ d ∧ d ≤ 1000001 ∧ i = .int .i64 d ∧ n = .int .i64 (f (max a (min b (1440 * d))) - f a) ∧ ShBox w wr s) (fun _ i _ => (1000002 - intOf i).toNat)
  case atStart => exact ⟨a / 1440, by omega, by omega, rfl, by rw [show max a (min b (1440 * (a / 1440))) = a by omega, Int.sub_self], hB⟩
  case round =>
    obtain ⟨d, hd1, hd2, rfl, rfl, hB1⟩ := hrel
    have HB3 := Lib.hid hB1
    obtain ⟨hb, p0, p1, p2, p3, p4, p5⟩ := hB1
    have hn := HBd.out d
    have hn' := HBd.out (d + 1)
    by_cases hlt : 1440 * d < b
    · have hD := HD.out d (by omega) hlt
      have HQ := Lib.hid hD
      clear HD HBd hD hB
      obtain ⟨n, hN⟩ : ∃ n, f (max a (min b (1440 * d))) - f a = n := ⟨_, rfl⟩
      obtain ⟨n', hN'⟩ : ∃ n, f (max a (min b (1440 * (d + 1)))) - f a = n := ⟨_, rfl⟩
      rw [hN] at hn ⊢
      rw [hN'] at hn'
      have HV : Hid (dayB s.O s.C s.H d a b = n' - n) := Lib.hid (by rw [HQ.out]; omega)
      have HN' := Lib.hid hN'
      clear hN hN' HQ
      go_wp2_with fail
      refine (HS.out _ hb d (by omega) (by omega)).mono ?_
      rintro e w1 ⟨rfl, hb1⟩
      rw [HV.out]
      go_wp2_with fail
      go_roundw
      case rel => exact ⟨d + 1, by omega, by omega, rfl, by rw [HN'.out]; first | rfl | go_num, HB3.out.on hb1⟩
      case measure => simp [intOf]; omega
    · have hV : max a (min b (1440 * d)) = b := by omega
      rw [hV] at hn ⊢
      clear HD HBd hn' hB hV
      go_wp2_with fail
      go_ret
      exact ⟨rfl, hb⟩

set_option maxRecDepth 100000 in
set_option maxHeartbeats 2000000 in
theorem refAfter_sh (s : Sh) (t : Int) (m : Nat) (w : World) (hI : IntsS w s.aH s.H) (hH : HolOk s.H) (o0 : 0 ≤ s.O) (o1 : s.O < s.C) (o2 : s.C ≤ 1440) (t0 : 0 ≤ t) (t1 : t ≤ 1000000000) (m1 : m ≤ 1000000) :
    Calls Try.prog 36 #[.agg #[.int .i64 s.O, .int .i64 s.C, .slice s.aH s.H.length s.cH, .int .i64 s.M, .slice s.aS s.S.length s.cS, .slice s.aJ s.J.length s.cJ], .int .i64 t, .int .i64 m] w fun e w' => e = .returned (.int .i64 (aftV s.O s.C s.H t m)) ∧ Below w.heap.size w w' := by
  have HS := Lib.hid (fun W (hW : Below w.heap.size w W) d b d0 d1 b0 b1 => opened_sh s d t b W (hI.below hW) hH.1 o0 o1 o2 d0 d1 t0 (by omega) b0 b1)
  have hB := ShBox.start w s 25
  have h4 := hH.1
  have HV : Hid (∀ x, IsAft s.O s.C s.H t m x → aftV s.O s.C s.H t m = x) := Lib.hid fun x h => aftV_eq h
  obtain ⟨k, hk, hk2⟩ := aft_exists (O := s.O) (C := s.C) hH.asc o0 o1 o2 t m
  have HLt : Hid (∀ y, opnB s.O s.C s.H y < opnB s.O s.C s.H t + m → y < t + k) := Lib.hid fun y hy => by
    by_cases g : y < t + k
    · exact g
    · have := opnB_mono (O := s.O) (C := s.C) hH.asc o0 o1 o2 (show t + (k : Int) ≤ y by omega)
      have := hk.2.1
      omega
  have HD : Hid (∀ d, t < 1440 * (d + 1) → dayB s.O s.C s.H d t (1440 * (d + 1)) = opnB s.O s.C s.H (max t (1440 * (d + 1))) - opnB s.O s.C s.H (max t (1440 * d))) := Lib.hid fun d h1 => by
    rw [dayB_eq hH.asc o0 o1 o2 h1 (by omega) (by omega), show min (1440 * (d + 1)) (1440 * (d + 1)) = 1440 * (d + 1) by omega, show max t (1440 * (d + 1)) = 1440 * (d + 1) by omega]
  have HH : Hid (∀ r d : Int, t < 1440 * (d + 1) → 0 < r → opnB s.O s.C s.H (max t (1440 * d)) + r = opnB s.O s.C s.H t + m → r ≤ dayB s.O s.C s.H d t (1440 * (d + 1)) → IsAft s.O s.C s.H t m (max t (1440 * d + s.O) + r)) := Lib.hid fun r d h0 hr hm hd => aft_hit hH.asc o0 o1 o2 h0 hr hm hd
  have HG : Hid (∀ d a b, 0 ≤ dayB s.O s.C s.H d a b) := Lib.hid fun d a b => by unfold dayB; split <;> omega
  have HZ : Hid (m = 0 → aftV s.O s.C s.H t m = t) := Lib.hid fun h => by
    refine HV.out t ⟨by omega, by omega, fun y h1 h2 => by omega⟩
  generalize aftV s.O s.C s.H t m = R at *
  clear hI hH hk
  have hd0 : 0 ≤ t / 1440 := by omega
  by_cases hm : m = 0
  · have HR := Lib.hid (HZ.out hm)
    have hm1 : ((m : Int) == 0) = true := by simp; omega
    clear hm HZ HG HH HD HLt HV hk2
    go_enter Try.func36, Try.ntmps36
    go_wp2_with fail
    go_ret
    rw [HR.out]
    exact ⟨rfl, hB.1⟩
  · have hm1 : ((m : Int) == 0) = false := by simp; omega
    have hm2 : 0 < (m : Int) := by omega
    clear hm HZ
    go_enter Try.func36, Try.ntmps36
    go_wp2_with fail
    obtain ⟨wB, hwB⟩ : ∃ wB, w.alloc (.cells #[.int .i64 s.O, .int .i64 s.C, .slice s.aH s.H.length s.cH, .int .i64 s.M, .slice s.aS s.S.length s.cS, .slice s.aJ s.J.length s.cJ] 25) = wB := ⟨_, rfl⟩
    rw [hwB] at hB ⊢
    clear hwB
    go_loopw [2, 7] (fun n i wr => ∃ d r : Int, t / 1440 ≤ d ∧ 1440 * d < t + k + 1440 ∧ i = .int .i64 d ∧ n = .int .i64 r ∧ 0 < r ∧ r ≤ m ∧ Hid (opnB s.O s.C s.H (max t (1440 * d)) + r = opnB s.O s.C s.H t + m) ∧ ShBox w wr s) (fun _ i _ => (t + k + 2880 - 1440 * intOf i).toNat)
    case atStart => exact ⟨t / 1440, m, by omega, by omega, rfl, rfl, by omega, by omega, Lib.hid (by rw [show max t (1440 * (t / 1440)) = t by omega]), hB⟩
    case round =>
      obtain ⟨d, r, hd1, hd2, rfl, rfl, hr0, hr1, HE, hB1⟩ := hrel
      have HB3 := Lib.hid hB1
      obtain ⟨hb, p0, p1, p2, p3, p4, p5⟩ := hB1
      have hl := HLt.out (max t (1440 * d)) (by have := HE.out; omega)
      have hD := HD.out d (by omega)
      have hG := HG.out d t (1440 * (d + 1))
      have HHd := Lib.hid (HH.out r d (by omega) hr0 HE.out)
      have HQ := Lib.hid hD
      clear hD HD HH HG HLt hB
      have e3 : 0 ≤ 1440 * (d + 1) := by omega
      have e4 : 1440 * (d + 1) ≤ 1000000000000 := by omega
      have HSd := Lib.hid (fun W hW => HS.out W hW d (1440 * (d + 1)) (by omega) (by omega) e3 e4)
      clear HS
      generalize dayB s.O s.C s.H d t (1440 * (d + 1)) = v at *
      by_cases hc : r ≤ v
      · have HR := Lib.hid (HV.out _ (HHd.out hc))
        clear HV HHd HQ HE
        rcases Int.lt_trichotomy t (1440 * d + s.O) with h1 | h1 | h1
        · have hX : max t (1440 * d + s.O) = 1440 * d + s.O := by omega
          rw [hX] at HR
          clear hX
          go_wp2_with fail
          refine (HSd.out _ hb).mono ?_
          rintro e w1 ⟨rfl, hb1⟩
          obtain ⟨hb, p0, p1, p2, p3, p4, p5⟩ := HB3.out.on hb1
          clear HSd hb1
          go_wp2_with fail
          go_ret
          rw [HR.out]
          exact ⟨rfl, hb⟩
        · have h2 : t ≤ 1440 * d + s.O := by omega
          have h3 : 1440 * d + s.O ≤ t := by omega
          have hX : max t (1440 * d + s.O) = t := by omega
          rw [hX] at HR
          clear hX h1
          go_wp2_with fail
          refine (HSd.out _ hb).mono ?_
          rintro e w1 ⟨rfl, hb1⟩
          obtain ⟨hb, p0, p1, p2, p3, p4, p5⟩ := HB3.out.on hb1
          clear HSd hb1
          go_wp2_with fail
          go_ret
          rw [HR.out]
          exact ⟨ret_i (by omega), hb⟩
        · have hX : max t (1440 * d + s.O) = t := by omega
          rw [hX] at HR
          clear hX
          go_wp2_with fail
          refine (HSd.out _ hb).mono ?_
          rintro e w1 ⟨rfl, hb1⟩
          obtain ⟨hb, p0, p1, p2, p3, p4, p5⟩ := HB3.out.on hb1
          clear HSd hb1
          go_wp2_with fail
          go_ret
          rw [HR.out]
          exact ⟨rfl, hb⟩
      · clear HHd HV
        have HE2 : Hid (opnB s.O s.C s.H (max t (1440 * (d + 1))) + (r - v) = opnB s.O s.C s.H t + m) := Lib.hid (by have := HE.out; have := HQ.out; omega)
        clear HE HQ
        go_wp2_with fail
        refine (HSd.out _ hb).mono ?_
        rintro e w1 ⟨rfl, hb1⟩
        clear HSd
        go_wp2_with fail
        go_roundw
        case rel => exact ⟨d + 1, r - v, by omega, by omega, rfl, rfl, by omega, by omega, HE2, HB3.out.on hb1⟩
        case measure => simp [intOf]; omega
end Go.Proofs.Ytmdifgkalooaoaa
