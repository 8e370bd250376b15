/-
  The walks of the functions of package shop for a shop that is not valid, and of Next, Worked and After for one that is. By an AI agent.; The walk of chain of package shop. By an AI agent.; The walks of the reference's free, Shift, Next and opened. By an AI agent.; The walks of the reference's opened, Worked and After. By an AI agent.
-/
import Derived.Test.YtgphkfonjfdifaaMgShopOrders2
import Derived.Deep.RegionHeld3

namespace Go.Proofs.Ytgphkfonjfdifaa
set_option linter.unusedVariables false
set_option linter.unusedSimpArgs false
open Go.RowKit

theorem next_ok (s : Sh) (t m : Int) (w : World) (hI : ShS w s) (hV : ShOk s) (t0 : 0 ≤ t) (t1 : t ≤ 100000000) (m0 : 1 ≤ m) (m1 : m ≤ s.C - s.O) :
    Calls Try.prog 33 #[.agg #[.int .i64 s.O, .int .i64 s.C, .slice s.aH s.H.length s.cH, .int .i64 s.M, .slice s.aS s.S.length s.cS, .slice s.aJ s.J.length s.cJ], .int .i64 t, .int .i64 m] w fun e w' => e = .returned (.tuple #[.int .i64 (nextV s.O s.C s.H t m), .int .i64 0]) ∧ Below w.heap.size w w' := by
  have HV := Lib.hid (fun W (hW : Below w.heap.size w W) => Valid_sh s W (hI.below hW))
  have HN := Lib.hid (fun W (hW : Below w.heap.size w W) => next_sh s t m W (hI.below hW).1 hV.2.1 hV.1.1 hV.1.2.1 hV.1.2.2 t0 (by omega) (by omega) m1)
  have hB := ShBox.start w s 25
  have hf := shB_t hV
  rw [hf] at HV
  have HB1 := Lib.hid (btw_t t0 t1)
  have HB2 := Lib.hid (btw_t m0 m1)
  obtain ⟨o0, o1, o2⟩ := hV.1
  clear hf hI hV
  generalize nextV s.O s.C s.H t m = R at *
  go_enter Try.func33, Try.ntmps33
  go_wp2_with fail
  obtain ⟨wB, hwB⟩ : ∃ wB, w.alloc (.cells #[.int .i64 s.O, .int .i64 s.C, .slice s.aH s.H.length s.cH, .int .i64 s.M, .slice s.aS s.S.length s.cS, .slice s.aJ s.J.length s.cJ] 25) = wB := ⟨_, rfl⟩
  rw [hwB] at hB ⊢
  clear hwB
  refine (HV.out _ hB.1).mono ?_
  rintro e w1 ⟨rfl, hb1⟩
  obtain ⟨hb, p0, p1, p2, p3, p4, p5⟩ := hB.on hb1
  clear hb1 hB HV
  go_wp2_with (go_at_call 53; refine (sbt_any _ _ _ _).mono ?_; rintro e w' ⟨rfl, rfl⟩; first | rw [HB1.out] | rw [HB2.out])
  refine (HN.out _ hb).mono ?_
  rintro e w2 ⟨rfl, hb2⟩
  go_wp2_with fail
  go_returns
  exact ⟨rfl, hb.trans (hb2.mono hb.size)⟩
theorem after_ok (s : Sh) (t : Int) (m : Nat) (w : World) (hI : ShS w s) (hV : ShOk s) (t0 : 0 ≤ t) (t1 : t ≤ 100000000) (m1 : m ≤ 1000000) :
    Calls Try.prog 34 #[.agg #[.int .i64 s.O, .int .i64 s.C, .slice s.aH s.H.length s.cH, .int .i64 s.M, .slice s.aS s.S.length s.cS, .slice s.aJ s.J.length s.cJ], .int .i64 t, .int .i64 m] w fun e w' => e = .returned (.tuple #[.int .i64 (aftV s.O s.C s.H t m), .int .i64 0]) ∧ Below w.heap.size w w' := by
  have HV := Lib.hid (fun W (hW : Below w.heap.size w W) => Valid_sh s W (hI.below hW))
  have HN := Lib.hid (fun W (hW : Below w.heap.size w W) => after_sh s t m W (hI.below hW).1 hV.2.1 hV.1.1 hV.1.2.1 hV.1.2.2 t0 (by omega) m1)
  have hB := ShBox.start w s 25
  have hf := shB_t hV
  rw [hf] at HV
  have HB1 := Lib.hid (btw_t t0 t1)
  have HB2 := Lib.hid (btw_t (show (0 : Int) ≤ m by omega) (show (m : Int) ≤ 1000000 by omega))
  clear hf hI hV
  generalize aftV s.O s.C s.H t m = R at *
  go_enter Try.func34, Try.ntmps34
  go_wp2_with fail
  obtain ⟨wB, hwB⟩ : ∃ wB, w.alloc (.cells #[.int .i64 s.O, .int .i64 s.C, .slice s.aH s.H.length s.cH, .int .i64 s.M, .slice s.aS s.S.length s.cS, .slice s.aJ s.J.length s.cJ] 25) = wB := ⟨_, rfl⟩
  rw [hwB] at hB ⊢
  clear hwB
  refine (HV.out _ hB.1).mono ?_
  rintro e w1 ⟨rfl, hb1⟩
  obtain ⟨hb, p0, p1, p2, p3, p4, p5⟩ := hB.on hb1
  clear hb1 hB HV
  go_wp2_with (go_at_call 53; refine (sbt_any _ _ _ _).mono ?_; rintro e w' ⟨rfl, rfl⟩; first | rw [HB1.out] | rw [HB2.out])
  refine (HN.out _ hb).mono ?_
  rintro e w2 ⟨rfl, hb2⟩
  go_wp2_with fail
  go_returns
  exact ⟨rfl, hb.trans (hb2.mono hb.size)⟩
end Go.Proofs.Ytgphkfonjfdifaa

namespace Go.Proofs.Ytgphkfonjfdifaa
set_option linter.unusedVariables false
set_option linter.unusedSimpArgs false
open Go.RowKit

/-- When the first k steps of a job that has the shop for itself are done and dry. -/
noncomputable def dryK (O C : Int) (H : List Int) (l : List Stp) : Nat → Int
  | 0 => 0
  | k + 1 => nextV O C H (dryK O C H l k) (gs l k).2.1 + (gs l k).2.1 + (gs l k).2.2.2
/-- When the last of them ends. -/
noncomputable def endK (O C : Int) (H : List Int) (l : List Stp) : Nat → Int
  | 0 => 0
  | k + 1 => nextV O C H (dryK O C H l k) (gs l k).2.1 + (gs l k).2.1
noncomputable def chainV (s : Sh) (l : List Stp) : Int := endK s.O s.C s.H l l.length
end Go.Proofs.Ytgphkfonjfdifaa

namespace Go.Proofs.Ytgphkfonjfdifaa
set_option linter.unusedVariables false
set_option linter.unusedSimpArgs false
open Go.RowKit

set_option maxRecDepth 100000 in
set_option maxHeartbeats 1000000 in
theorem free_sh (s : Sh) (d : Int) (w : World) (hI : IntsS w s.aH s.H) (h4 : s.H.length ≤ 400) :
    Calls Try.prog 78 #[.agg #[.int .i64 s.O, .int .i64 s.C, .slice s.aH s.H.length s.cH, .int .i64 s.M, .slice s.aS s.S.length s.cS, .slice s.aJ s.J.length s.cJ], .int .i64 d] w fun e w' => e = .returned (.bool (hol s.H d)) ∧ Below w.heap.size w w' := by
  obtain ⟨hlen, hbd, blk, off, hadr, hc⟩ := hI
  have HC := Lib.hid hc
  have HL : Hid (0 < s.H.length → s.aH = some ⟨blk, off, none⟩) := Lib.hid fun h => hadr (fun e => by rw [e] at h; simp at h)
  have HT : Hid (∀ k, k < s.H.length → gi s.H k = d → hol s.H d = true) := Lib.hid fun k hk h => hol_iff.2 ⟨k, hk, h⟩
  have HF : Hid ((∀ j, j < s.H.length → gi s.H j ≠ d) → hol s.H d = false) := Lib.hid fun h => hol_false.2 h
  have hB := ShBox.start w s 25
  generalize hol s.H d = R at *
  clear hc hbd hadr
  go_enter Try.func78, Try.ntmps78
  go_wp2_with fail
  obtain ⟨wB, hwB⟩ : ∃ wB, w.alloc (.cells #[.int .i64 s.O, .int .i64 s.C, .slice s.aH s.H.length s.cH, .int .i64 s.M, .slice s.aS s.S.length s.cS, .slice s.aJ s.J.length s.cJ] 25) = wB := ⟨_, rfl⟩
  rw [hwB] at hB ⊢
  clear hwB
  go_loopw [5] (fun i wr => ∃ k : Nat, k ≤ s.H.length ∧ i = .int .i64 k ∧ ShBox w wr s ∧ Hid (∀ j, j < k → gi s.H j ≠ d)) (fun i _ => s.H.length - (intOf i).toNat)
  case atStart => exact ⟨0, Nat.zero_le _, rfl, hB, Lib.hid fun j hj => absurd hj (Nat.not_lt_zero _)⟩
  case round =>
    obtain ⟨k, hk, rfl, hB1, HA⟩ := hrel
    have HB := Lib.hid hB1
    obtain ⟨hb, p0, p1, p2, p3, p4, p5⟩ := hB1
    by_cases hlt : k < s.H.length
    · have ha := HL.out (by omega)
      have c0 := cell_below (HC.out k hlt) hb
      have HK : Hid (gi s.H k ≠ d → ∀ j, j < k + 1 → gi s.H j ≠ d) := Lib.hid fun h j hj => by
        by_cases e : j = k
        · subst e; exact h
        · exact HA.out j (by omega)
      have HTk := Lib.hid (HT.out k hlt)
      rw [ha] at p2
      clear HC HL HT HF ha
      generalize gi s.H k = x at *
      have n3 : (k : Int) < s.H.length := by omega
      by_cases hx : x = d
      · have HR := Lib.hid (HTk.out hx)
        have hx' : (x == d) = true := by simpa using hx
        clear HK HTk hx
        go_wp2_with fail
        go_ret
        rw [HR.out]
        exact ⟨rfl, hb⟩
      · have HR := Lib.hid (HK.out hx)
        have hx' : (x == d) = false := by simpa using hx
        clear HK HTk hx
        go_wp2_with fail
        go_roundw
        case rel => exact ⟨k + 1, by omega, by go_num, HB.out, HR⟩
        case measure => simp [intOf]; omega
    · obtain rfl : k = s.H.length := by omega
      have HR := Lib.hid (HF.out HA.out)
      clear HC HL HT HF hlt
      go_wp2_with fail
      go_ret
      rw [HR.out]
      exact ⟨rfl, hb⟩

set_option maxRecDepth 100000 in
set_option maxHeartbeats 1000000 in
theorem shift_sh (s : Sh) (t m : Int) (w : World) (hI : IntsS w s.aH s.H) (h4 : s.H.length ≤ 400) (o0 : 0 ≤ s.O) (o1 : s.O < s.C) (o2 : s.C ≤ 1440) (t0 : 0 ≤ t) (t1 : t ≤ 100000000000) (m0 : -100000 ≤ m) (m1 : m ≤ 100000) :
    Calls Try.prog 48 #[.agg #[.int .i64 s.O, .int .i64 s.C, .slice s.aH s.H.length s.cH, .int .i64 s.M, .slice s.aS s.S.length s.cS, .slice s.aJ s.J.length s.cJ], .int .i64 t, .int .i64 m] w fun e w' => e = .returned (.bool (inShB s.O s.C s.H t m)) ∧ Below w.heap.size w w' := by
  have HS := Lib.hid (fun W (hW : Below w.heap.size w W) => free_sh s (t / 1440) W (hI.below hW) h4)
  have hB := ShBox.start w s 25
  have hd0 : 0 ≤ t / 1440 := by omega
  have r0 : 0 ≤ t - 1440 * (t / 1440) := by omega
  have r1 : t - 1440 * (t / 1440) < 1440 := by omega
  have HT : Hid (inShB s.O s.C s.H t m = (!(hol s.H (t / 1440)) && (decide (s.O ≤ t - 1440 * (t / 1440)) && decide (t + m - 1440 * (t / 1440) ≤ s.C)))) := Lib.hid (by
    rw [Bool.eq_iff_iff, inShB_iff]; unfold InSh; simp only [Bool.and_eq_true, Bool.not_eq_true', decide_eq_true_iff]
    have : t % 1440 = t - 1440 * (t / 1440) := by omega
    rw [this]
    constructor
    · rintro ⟨h1, h2, h3⟩; exact ⟨h1, h2, by omega⟩
    · rintro ⟨h1, h2, h3⟩; exact ⟨h1, h2, by omega⟩)
  generalize inShB s.O s.C s.H t m = R at *
  generalize hol s.H (t / 1440) = hh at *
  clear hI
  go_enter Try.func48, Try.ntmps48
  go_wp2_with fail
  obtain ⟨wB, hwB⟩ : ∃ wB, w.alloc (.cells #[.int .i64 s.O, .int .i64 s.C, .slice s.aH s.H.length s.cH, .int .i64 s.M, .slice s.aS s.S.length s.cS, .slice s.aJ s.J.length s.cJ] 25) = wB := ⟨_, rfl⟩
  rw [hwB] at hB ⊢
  clear hwB
  refine (HS.out _ hB.1).mono ?_
  rintro e w1 ⟨rfl, hb1⟩
  have hB1 := hB.on hb1
  obtain ⟨hb, p0, p1, p2, p3, p4, p5⟩ := hB1
  clear hB hb1 HS
  go_wp2_with fail
  all_goals
    go_ret
    exact ⟨by rw [HT.out]; simp_all <;> omega, hb⟩

end Go.Proofs.Ytgphkfonjfdifaa

namespace Go.Proofs.Ytgphkfonjfdifaa
set_option linter.unusedVariables false
set_option linter.unusedSimpArgs false
open Go.RowKit

end Go.Proofs.Ytgphkfonjfdifaa
