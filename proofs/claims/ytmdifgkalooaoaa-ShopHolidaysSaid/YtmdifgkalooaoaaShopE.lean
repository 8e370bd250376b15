/-
  The walks of the reference's free, Shift, Next and opened. By an AI agent.
-/
import Derived.Test.YtmdifgkalooaoaaShopD
namespace Go.Proofs.Ytmdifgkalooaoaa
set_option linter.unusedVariables false
set_option linter.unusedSimpArgs false
open Go.RowKit

set_option maxRecDepth 100000 in
set_option maxHeartbeats 1000000 in
theorem free_sh (s : Sh) (d : Int) (w : World) (hI : IntsS w s.aH s.H) (h4 : s.H.length ≤ 400) :
    Calls Try.prog 103 #[.agg #[.int .i64 s.O, .int .i64 s.C, .slice s.aH s.H.length s.cH, .int .i64 s.M, .slice s.aS s.S.length s.cS, .slice s.aJ s.J.length s.cJ], .int .i64 d] w fun e w' => e = .returned (.bool (hol s.H d)) ∧ Below w.heap.size w w' := by
  obtain ⟨hlen, hbd, blk, off, hadr, hc⟩ := hI
  have HC := Lib.hid hc
  have HL : Hid (0 < s.H.length → s.aH = some ⟨blk, off, none⟩) := Lib.hid fun h => hadr (fun e => by rw [e] at h; simp at h)
  have HT : Hid (∀ k, k < s.H.length → gi s.H k = d → hol s.H d = true) := Lib.hid fun k hk h => hol_iff.2 ⟨k, hk, h⟩
  have HF : Hid ((∀ j, j < s.H.length → gi s.H j ≠ d) → hol s.H d = false) := Lib.hid fun h => hol_false.2 h
  have hB := ShBox.start w s 25
  generalize hol s.H d = R at *
  clear hc hbd hadr
  go_enter Try.func103, Try.ntmps103
  go_wp2_with fail
  obtain ⟨wB, hwB⟩ : ∃ wB, w.alloc (.cells #[.int .i64 s.O, .int .i64 s.C, .slice s.aH s.H.length s.cH, .int .i64 s.M, .slice s.aS s.S.length s.cS, .slice s.aJ s.J.length s.cJ] 25) = wB := ⟨_, rfl⟩
  rw [hwB] at hB ⊢
  clear hwB
  go_loopw [5] (fun i wr => ∃ k : Nat, k ≤ s.H.length ∧ i = .int .i64 k ∧ ShBox w wr s ∧ Hid (∀ j, j < k → gi s.H j ≠ d)) (fun i _ => s.H.length - (intOf i).toNat)
  case atStart => exact ⟨0, Nat.zero_le _, rfl, hB, Lib.hid fun j hj => absurd hj (Nat.not_lt_zero _)⟩
  case round =>
    obtain ⟨k, hk, rfl, hB1, HA⟩ := hrel
    have HB := Lib.hid hB1
    obtain ⟨hb, p0, p1, p2, p3, p4, p5⟩ := hB1
    by_cases hlt : k < s.H.length
    · have ha := HL.out (by omega)
      have c0 := cell_below (HC.out k hlt) hb
      have HK : Hid (gi s.H k ≠ d → ∀ j, j < k + 1 → gi s.H j ≠ d) := Lib.hid fun h j hj => by
        by_cases e : j = k
        · subst e; exact h
        · exact HA.out j (by omega)
      have HTk := Lib.hid (HT.out k hlt)
      rw [ha] at p2
      clear HC HL HT HF ha
      generalize gi s.H k = x at *
      have n3 : (k : Int) < s.H.length := by omega
      by_cases hx : x = d
      · have HR := Lib.hid (HTk.out hx)
        have hx' : (x == d) = true := by simpa using hx
        clear HK HTk hx
        go_wp2_with fail
        go_ret
        rw [HR.out]
        exact ⟨rfl, hb⟩
      · have HR := Lib.hid (HK.out hx)
        have hx' : (x == d) = false := by simpa using hx
        clear HK HTk hx
        go_wp2_with fail
        go_roundw
        case rel => exact ⟨k + 1, by omega, by go_num, HB.out, HR⟩
        case measure => simp [intOf]; omega
    · obtain rfl : k = s.H.length := by omega
      have HR := Lib.hid (HF.out HA.out)
      clear HC HL HT HF hlt
      go_wp2_with fail
      go_ret
      rw [HR.out]
      exact ⟨rfl, hb⟩

set_option maxRecDepth 100000 in
set_option maxHeartbeats 1000000 in
theorem shift_sh (s : Sh) (t m : Int) (w : World) (hI : IntsS w s.aH s.H) (h4 : s.H.length ≤ 400) (o0 : 0 ≤ s.O) (o1 : s.O < s.C) (o2 : s.C ≤ 1440) (t0 : 0 ≤ t) (t1 : t ≤ 100000000000) (m0 : -100000 ≤ m) (m1 : m ≤ 100000) :
    Calls Try.prog 79 #[.agg #[.int .i64 s.O, .int .i64 s.C, .slice s.aH s.H.length s.cH, .int .i64 s.M, .slice s.aS s.S.length s.cS, .slice s.aJ s.J.length s.cJ], .int .i64 t, .int .i64 m] w fun e w' => e = .returned (.bool (inShB s.O s.C s.H t m)) ∧ Below w.heap.size w w' := by
  have HS := Lib.hid (fun W (hW : Below w.heap.size w W) => free_sh s (t / 1440) W (hI.below hW) h4)
  have hB := ShBox.start w s 25
  have hd0 : 0 ≤ t / 1440 := by omega
  have r0 : 0 ≤ t - 1440 * (t / 1440) := by omega
  have r1 : t - 1440 * (t / 1440) < 1440 := by omega
  have HT : Hid (inShB s.O s.C s.H t m = (!(hol s.H (t / 1440)) && (decide (s.O ≤ t - 1440 * (t / 1440)) && decide (t + m - 1440 * (t / 1440) ≤ s.C)))) := Lib.hid (by
    rw [Bool.eq_iff_iff, inShB_iff]; unfold InSh; simp only [Bool.and_eq_true, Bool.not_eq_true', decide_eq_true_iff]
    have : t % 1440 = t - 1440 * (t / 1440) := by omega
    rw [this]
    constructor
    · rintro ⟨h1, h2, h3⟩; exact ⟨h1, h2, by omega⟩
    · rintro ⟨h1, h2, h3⟩; exact ⟨h1, h2, by omega⟩)
  generalize inShB s.O s.C s.H t m = R at *
  generalize hol s.H (t / 1440) = hh at *
  clear hI
  go_enter Try.func79, Try.ntmps79
  go_wp2_with fail
  obtain ⟨wB, hwB⟩ : ∃ wB, w.alloc (.cells #[.int .i64 s.O, .int .i64 s.C, .slice s.aH s.H.length s.cH, .int .i64 s.M, .slice s.aS s.S.length s.cS, .slice s.aJ s.J.length s.cJ] 25) = wB := ⟨_, rfl⟩
  rw [hwB] at hB ⊢
  clear hwB
  refine (HS.out _ hB.1).mono ?_
  rintro e w1 ⟨rfl, hb1⟩
  have hB1 := hB.on hb1
  obtain ⟨hb, p0, p1, p2, p3, p4, p5⟩ := hB1
  clear hB hb1 HS
  go_wp2_with fail
  all_goals
    go_ret
    exact ⟨by rw [HT.out]; simp_all <;> omega, hb⟩

set_option maxRecDepth 100000 in
set_option maxHeartbeats 1000000 in
theorem refNext_sh (s : Sh) (t m : Int) (w : World) (hI : IntsS w s.aH s.H) (hH : HolOk s.H) (o0 : 0 ≤ s.O) (o1 : s.O < s.C) (o2 : s.C ≤ 1440) (t0 : 0 ≤ t) (t1 : t ≤ 10000000000) (m0 : -100000 ≤ m) (m1 : m ≤ s.C - s.O) :
    Calls Try.prog 34 #[.agg #[.int .i64 s.O, .int .i64 s.C, .slice s.aH s.H.length s.cH, .int .i64 s.M, .slice s.aS s.S.length s.cS, .slice s.aJ s.J.length s.cJ], .int .i64 t, .int .i64 m] w fun e w' => e = .returned (.int .i64 (nextV s.O s.C s.H t m)) ∧ Below w.heap.size w w' := by
  have HW := Lib.hid (fun W (hW : Below w.heap.size w W) u u0 u1 => shift_sh s u m W (hI.below hW) hH.1 o0 o1 o2 u0 u1 m0 (by omega))
  have hB := ShBox.start w s 25
  have HV : Hid (∀ x, IsNext s.O s.C s.H t m x → nextV s.O s.C s.H t m = x) := Lib.hid fun x h => nextV_eq h
  have HE : Hid (∀ d, 10000 < d → hol s.H d = false) := Lib.hid fun d hd => hol_late hH.late hd
  generalize nextV s.O s.C s.H t m = R at *
  have hd0 : 0 ≤ t / 1440 := by omega
  clear hI hH
  by_cases hs0 : InSh s.O s.C s.H t m
  · have HR : Hid (R = t) := Lib.hid (HV.out t ⟨by omega, hs0, fun y h1 h2 => by omega⟩)
    have HI := Lib.hid (inShB_t hs0)
    clear HV HE hs0
    go_enter Try.func34, Try.ntmps34
    go_wp2_with fail
    obtain ⟨wB, hwB⟩ : ∃ wB, w.alloc (.cells #[.int .i64 s.O, .int .i64 s.C, .slice s.aH s.H.length s.cH, .int .i64 s.M, .slice s.aS s.S.length s.cS, .slice s.aJ s.J.length s.cJ] 25) = wB := ⟨_, rfl⟩
    rw [hwB] at hB ⊢
    clear hwB
    refine (HW.out _ hB.1 _ t0 (by omega)).mono ?_
    rintro e w1 ⟨rfl, hb1⟩
    rw [HI.out]
    go_wp2_with fail
    go_ret
    rw [HR.out]
    exact ⟨rfl, hB.1.trans (hb1.mono hB.1.size)⟩
  · have HI := Lib.hid (inShB_f hs0)
    have HS0 := Lib.hid hs0
    clear hs0
    go_enter Try.func34, Try.ntmps34
    go_wp2_with fail
    obtain ⟨wB, hwB⟩ : ∃ wB, w.alloc (.cells #[.int .i64 s.O, .int .i64 s.C, .slice s.aH s.H.length s.cH, .int .i64 s.M, .slice s.aS s.S.length s.cS, .slice s.aJ s.J.length s.cJ] 25) = wB := ⟨_, rfl⟩
    rw [hwB] at hB ⊢
    clear hwB
    refine (HW.out _ hB.1 _ t0 (by omega)).mono ?_
    rintro e w1 ⟨rfl, hb1⟩
    rw [HI.out]
    have hB1 := hB.on hb1
    have HB1 := Lib.hid hB1
    obtain ⟨hb, p0, p1, p2, p3, p4, p5⟩ := hB1
    clear hb1 hB HI
    go_wp2_with fail
    go_loopw [8] (fun i wr => ∃ d : Int, t / 1440 ≤ d ∧ d ≤ max (t / 1440 + 1) 10001 ∧ i = .int .i64 (1440 * d + s.O) ∧ ShBox w wr s ∧ Hid (NoSh s.O s.C s.H t m (1440 * d))) (fun i _ => (1440 * (max (t / 1440 + 1) 10001) + s.O + 1 - intOf i).toNat)
    case atStart => exact ⟨t / 1440, by omega, by omega, rfl, HB1.out, Lib.hid fun y h1 h2 => by omega⟩
    case round =>
      clear hb p0 p1 p2 p3 p4 p5
      obtain ⟨d, hd1, hd2, rfl, hB1, HN⟩ := hrel
      have HB3 := Lib.hid hB1
      obtain ⟨hb, p0, p1, p2, p3, p4, p5⟩ := hB1
      have HHit : Hid (InSh s.O s.C s.H (stDay s.O t d) m → R = stDay s.O t d) := Lib.hid fun h => HV.out _ (next_hit o0 (by omega) (by omega) HN.out h)
      have HMiss : Hid (¬ InSh s.O s.C s.H (stDay s.O t d) m → NoSh s.O s.C s.H t m (1440 * (d + 1)) ∧ d + 1 ≤ max (t / 1440 + 1) 10001) := Lib.hid fun h => ⟨next_miss o0 (by omega) (by omega) HN.out h, by
        by_cases g : d + 1 ≤ max (t / 1440 + 1) 10001
        · exact g
        · exact absurd (next_late o0 o1 o2 m1 (HE.out d (by omega)) (by omega)) h⟩
      have d0 : 0 ≤ d := by omega
      have d9 : d ≤ 10000001 := by omega
      clear HV HE HN HB1
      by_cases hlt : 1440 * d + s.O < t
      · have hX : stDay s.O t d = t := by unfold stDay; omega
        rw [hX] at HMiss
        obtain ⟨hn1, hn2⟩ := HMiss.out HS0.out
        have HR := Lib.hid hn1
        clear HHit HMiss hn1 hX HS0
        go_wp2_with fail
        go_roundw
        case rel => exact ⟨d + 1, by omega, hn2, by go_num, HB3.out, HR⟩
        case measure => simp [intOf]; omega
      · have hX : stDay s.O t d = 1440 * d + s.O := by unfold stDay; omega
        rw [hX] at HMiss HHit
        by_cases hs : InSh s.O s.C s.H (1440 * d + s.O) m
        · have HR := Lib.hid (HHit.out hs)
          have HI := Lib.hid (inShB_t hs)
          clear HHit HMiss hs hX HS0
          go_wp2_with fail
          refine (HW.out _ hb _ (by omega) (by omega)).mono ?_
          rintro e w2 ⟨rfl, hb2⟩
          rw [HI.out]
          go_wp2_with fail
          go_ret
          rw [HR.out]
          exact ⟨rfl, hb.trans (hb2.mono hb.size)⟩
        · obtain ⟨hn1, hn2⟩ := HMiss.out hs
          have HR := Lib.hid hn1
          have HI := Lib.hid (inShB_f hs)
          clear HHit HMiss hs hX HS0 hn1
          go_wp2_with fail
          refine (HW.out _ hb _ (by omega) (by omega)).mono ?_
          rintro e w2 ⟨rfl, hb2⟩
          rw [HI.out]
          go_wp2_with fail
          go_roundw
          case rel => exact ⟨d + 1, by omega, hn2, by go_num, HB3.out.on hb2, HR⟩
          case measure => simp [intOf]; omega
end Go.Proofs.Ytmdifgkalooaoaa
