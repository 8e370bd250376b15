/-
  wrong and Valid of the reference of package night. By an AI agent.
-/
import Derived.Test.YtghlhjiomebmhaaNiRa
import Derived.Deep.RegionHeld3
import Derived.BigQuiet
namespace Go.Proofs.Ytghlhjiomebmhaa
set_option linter.unusedVariables false
set_option linter.unusedSimpArgs false
open Go.RowKit

theorem jobs_cells {w : World} {a : Option Addr} {l : List Jo} (h : JobsS w a l) : ∃ blk off, Hid (0 < l.length → a = some ⟨blk, off, none⟩) ∧ Hid (∀ i, i < l.length → w.cell? ⟨blk, off + i * 8, none⟩ = some (.int .i64 (gj l i).n) ∧ w.cell? ⟨blk, off + i * 8 + 1, none⟩ = some (.int .i64 (gj l i).r) ∧ w.cell? ⟨blk, off + i * 8 + 2, none⟩ = some (.int .i64 (gj l i).c) ∧ w.cell? ⟨blk, off + i * 8 + 3, none⟩ = some (.int .i64 (gj l i).f) ∧ w.cell? ⟨blk, off + i * 8 + 4, none⟩ = some (.int .i64 (gj l i).l) ∧ w.cell? ⟨blk, off + i * 8 + 5, none⟩ = some (.int .i64 (gj l i).w) ∧ w.cell? ⟨blk, off + i * 8 + 6, none⟩ = some (.bool (gj l i).dy) ∧ w.cell? ⟨blk, off + i * 8 + 7, none⟩ = some (.bool (gj l i).wm)) := by
  obtain ⟨h0, blk, off, h1, h2⟩ := h
  exact ⟨blk, off, Lib.hid fun hp => h1 (pos_ne (n := 0) hp), Lib.hid h2⟩
theorem nights_cells {w : World} {a : Option Addr} {l : List Ni} (h : NightsS w a l) : ∃ blk off, Hid (0 < l.length → a = some ⟨blk, off, none⟩) ∧ Hid (∀ i, i < l.length → w.cell? ⟨blk, off + i * 8, none⟩ = some (.int .i64 (gn l i).d) ∧ w.cell? ⟨blk, off + i * 8 + 1, none⟩ = some (.int .i64 (gn l i).r) ∧ w.cell? ⟨blk, off + i * 8 + 2, none⟩ = some (.int .i64 (gn l i).f) ∧ w.cell? ⟨blk, off + i * 8 + 3, none⟩ = some (.int .i64 (gn l i).t) ∧ w.cell? ⟨blk, off + i * 8 + 4, none⟩ = some (.int .i64 (gn l i).w) ∧ w.cell? ⟨blk, off + i * 8 + 5, none⟩ = some (.int .i64 (gn l i).p) ∧ w.cell? ⟨blk, off + i * 8 + 6, none⟩ = some (.bool (gn l i).rn) ∧ w.cell? ⟨blk, off + i * 8 + 7, none⟩ = some (.bool (gn l i).fr)) := by
  obtain ⟨h0, blk, off, h1, h2⟩ := h
  exact ⟨blk, off, Lib.hid fun hp => h1 (pos_ne (n := 0) hp), Lib.hid h2⟩
theorem errL_job {js : List Jo} {ns : List Ni} (h : jobsB js = false) : errL js ns = 80 := by unfold errL; rw [h]; rfl
theorem errL_night {js : List Jo} {ns : List Ni} (h : jobsB js = true) (h2 : nightsB ns = false) : errL js ns = 81 := by unfold errL; rw [h, h2]; rfl
theorem errL_zero {js : List Jo} {ns : List Ni} (h : jobsB js = true) (h2 : nightsB ns = true) : errL js ns = 0 := by unfold errL; rw [h, h2]; rfl
set_option maxRecDepth 100000 in
set_option maxHeartbeats 4000000 in
theorem wrong_r (a : Option Addr) (js : List Jo) (ca : Nat) (b : Option Addr) (ns : List Ni) (cb : Nat) (w : World) (hA : JobsS w a js) (hB : NightsS w b ns) :
    Calls Try.prog 28 #[.slice a js.length ca, .slice b ns.length cb] w fun e w' => e = .returned (.int .i64 (errL js ns)) ∧ Below w.heap.size w w' := by
  have hl1 := hA.1
  have hl2 := hB.1
  obtain ⟨jb, jo, HJa, HJc⟩ := jobs_cells hA
  obtain ⟨nb, no, HNa, HNc⟩ := nights_cells hB
  clear hA hB
  have E80 := Lib.hid (fun h => errL_job (js := js) (ns := ns) h)
  have E81 := Lib.hid (fun h h2 => errL_night (js := js) (ns := ns) h h2)
  have E0 := Lib.hid (fun h h2 => errL_zero (js := js) (ns := ns) h h2)
  have HJB : Hid (jobsB js = (decide (js.length ≤ 60) && jokK js js.length)) := Lib.hid rfl
  have HNB : Hid (nightsB ns = (decide (ns.length ≤ 60) && !(anyK (fun k => !(nightB (gn ns k))) ns.length))) := Lib.hid rfl
  by_cases h60 : js.length ≤ 60
  · have d60 : decide ((60 : Int) < js.length) = false := decide_eq_false (by omega)
    have HJB : Hid (jobsB js = jokK js js.length) := Lib.hid (by rw [HJB.out, decide_eq_true h60]; rfl)
    have HBad : Hid (∀ k, k < js.length → jokK js (k + 1) = false → errL js ns = 80) := Lib.hid fun k hk h => E80.out (by rw [HJB.out]; exact jokK_false h _ hk)
    have HGood : Hid (jokK js js.length = true → jobsB js = true) := Lib.hid fun h => HJB.out.trans h
    have HSt : Hid (∀ k, jokK js k = true → jokK js (k + 1) = (jobB (gj js k) && !(anyK (fun m => (gj js m).n == (gj js k).n) k))) := Lib.hid fun k h => by
      show (jokK js k && _) = _
      rw [h]; rfl
    clear E80 HJB
    go_enter Try.func28, Try.ntmps28
    go_wp2_with fail
    go_loopw [5] (fun i wr => ∃ k : Nat, k ≤ js.length ∧ i = .int .i64 k ∧ Below w.heap.size w wr ∧ Hid (jokK js k = true)) (fun i _ => js.length - (intOf i).toNat)
    case atStart => exact ⟨0, Nat.zero_le _, rfl, Below.refl _ _, Lib.hid rfl⟩
    case round =>
      obtain ⟨k, hk, rfl, hb, hJ⟩ := hrel
      by_cases hlt : k < js.length
      · obtain rfl := HJa.out (by omega)
        obtain ⟨c0, c1, c2, c3, c4, c5, c6, c7⟩ := HJc.out k hlt
        have c0 := cell_below c0 hb
        have c1 := cell_below c1 hb
        have c2 := cell_below c2 hb
        have c3 := cell_below c3 hb
        have c4 := cell_below c4 hb
        have c5 := cell_below c5 hb
        have c6 := cell_below c6 hb
        have c7 := cell_below c7 hb
        have HBk := Lib.hid (HBad.out k hlt)
        have hStk := Lib.hid (HSt.out k hJ.out)
        have HIn : Hid (∀ m, m < k → w.cell? ⟨jb, jo + m * 8, none⟩ = some (.int .i64 (gj js m).n)) := Lib.hid fun m hm => (HJc.out m (by omega)).1
        have HA1 : Hid (∀ m, m < k → ((gj js m).n == (gj js k).n) = true → anyK (fun m => (gj js m).n == (gj js k).n) k = true) := Lib.hid fun m hm h => anyK_true h _ hm
        have HA2 : Hid (∀ m, anyK (fun m => (gj js m).n == (gj js k).n) (m + 1) = (anyK (fun m => (gj js m).n == (gj js k).n) m || ((gj js m).n == (gj js k).n))) := Lib.hid fun m => rfl
        have HA0 : Hid (anyK (fun m => (gj js m).n == (gj js k).n) 0 = false) := Lib.hid rfl
        clear HBad HSt HNa HNc HGood E0 E81 HNB HJa HJc hJ
        have HV := Lib.hid (fun W => refJob_r (gj js k) W)
        generalize hsk : gj js k = s at *
        clear hsk
        generalize hq : (fun m => (gj js m).n == s.n) = q at *
        have hq := Lib.hid hq
        have hqm : Hid (∀ m, q m = ((gj js m).n == s.n)) := Lib.hid fun m => by rw [← hq.out]
        clear hq
        cases hjb : jobB s with
        | false =>
          rw [hjb] at HV hStk
          have hR := Lib.hid (HBk.out (by rw [hStk.out]; rfl))
          clear hStk HBk hjb HIn HA1 HA2 HA0 hqm
          go_wp2_with fail
          refine (HV.out _).mono ?_
          rintro e w1 ⟨rfl, hb1⟩
          go_wp2_with fail
          go_ret
          exact ⟨by rw [hR.out]; rfl, below_onN hb hb1 hb.size⟩
        | true =>
          rw [hjb] at HV hStk
          clear hjb
          go_wp2_with fail
          refine (HV.out _).mono ?_
          rintro e w1 ⟨rfl, hb1⟩
          have hb := below_onN hb hb1 hb.size
          clear c1 c2 c3 c4 c5 c6 c7
          have c0 := cell_below c0 hb1
          clear hb1 HV
          go_wp2_with fail
          obtain ⟨wo, rfl⟩ : ∃ wo : World, wo = w1 := ⟨_, rfl⟩
          go_loopw [6] (fun i wr => ∃ m : Nat, m ≤ k ∧ i = .int .i64 m ∧ Below w.heap.size w wr ∧ wr.cell? ⟨jb, jo + k * 8, none⟩ = some (.int .i64 s.n) ∧ Hid (anyK q m = false)) (fun i _ => k - (intOf i).toNat)
          case atStart => exact ⟨0, Nat.zero_le _, rfl, hb, c0, HA0⟩
          case round =>
            obtain ⟨m, hm, rfl, hb, c0, hN⟩ := hrel
            by_cases hmk : m < k
            · have d0 := cell_below (HIn.out m hmk) hb
              have HA1m := Lib.hid (HA1.out m hmk)
              have HA2m := Lib.hid (HA2.out m)
              have hqm' := Lib.hid (hqm.out m)
              clear HIn HA1 HA2 HA0 hqm
              generalize (gj js m).n = x at *
              have k1 : decide ((0 : Int) ≤ m) = true := decide_eq_true (by omega)
              have k2 : decide ((m : Int) < js.length) = true := decide_eq_true (by omega)
              have k3 : decide ((0 : Int) ≤ k) = true := decide_eq_true (by omega)
              have k4 : decide ((k : Int) < js.length) = true := decide_eq_true (by omega)
              cases hx : (x == s.n) with
              | true =>
                have hR := Lib.hid (HBk.out (by rw [hStk.out, HA1m.out (by rw [hx])]; rfl))
                clear HBk hStk HA1m HA2m hqm'
                go_wp2_with fail
                go_quiet (fail)
                go_wp2_with fail
                go_ret
                exact ⟨by rw [hR.out]; rfl, below_drewN hb _⟩
              | false =>
                have hN1 : Hid (anyK q (m + 1) = false) := Lib.hid (by rw [HA2m.out, hN.out, hx]; rfl)
                clear HA1m HA2m hqm' HBk hStk hN
                go_wp2_with fail
                go_quiet (fail)
                go_wp2_with fail
                go_roundw
                case rel => exact ⟨m + 1, by omega, by go_num, below_drewN hb _, c0, hN1⟩
                case measure => simp [intOf]; omega
            · obtain rfl : m = k := by omega
              have hJ1 : Hid (jokK js (m + 1) = true) := Lib.hid (by rw [hStk.out, hN.out]; rfl)
              clear HIn HA1 HA2 HA0 hqm HBk hStk
              go_wp2_with fail
              go_roundw
              case rel => exact ⟨m + 1, by omega, by go_num, hb, hJ1⟩
              case measure => simp [intOf]; omega
      · obtain rfl : k = js.length := by omega
        have hJB := Lib.hid (HGood.out hJ.out)
        clear HBad HSt HJa HJc HGood
        by_cases h60n : ns.length ≤ 60
        · have d60n : decide ((60 : Int) < ns.length) = false := decide_eq_false (by omega)
          have HNB : Hid (nightsB ns = !(anyK (fun k => !(nightB (gn ns k))) ns.length)) := Lib.hid (by rw [HNB.out, decide_eq_true h60n]; rfl)
          have HBad : Hid (∀ k, k < ns.length → nightB (gn ns k) = false → errL js ns = 81) := Lib.hid fun k hk h => E81.out hJB.out (by rw [HNB.out, anyK_true (j := k) (by simp [h]) _ hk]; rfl)
          have HGood : Hid (anyK (fun k => !(nightB (gn ns k))) ns.length = false → errL js ns = 0) := Lib.hid fun h => E0.out hJB.out (by rw [HNB.out, h]; rfl)
          have HA0 : Hid (anyK (fun k => !(nightB (gn ns k))) 0 = false) := Lib.hid rfl
          have HA2 : Hid (∀ m, anyK (fun k => !(nightB (gn ns k))) (m + 1) = (anyK (fun k => !(nightB (gn ns k))) m || !(nightB (gn ns m)))) := Lib.hid fun m => rfl
          clear E0 E81 HNB hJB hJ
          generalize anyK (fun k => !(nightB (gn ns k))) = A at *
          go_wp2_with fail
          obtain ⟨wo, rfl⟩ : ∃ wo : World, wo = wr := ⟨_, rfl⟩
          go_loopw [7] (fun i wr => ∃ k : Nat, k ≤ ns.length ∧ i = .int .i64 k ∧ Below w.heap.size w wr ∧ Hid (A k = false)) (fun i _ => ns.length - (intOf i).toNat)
          case atStart => exact ⟨0, Nat.zero_le _, rfl, hb, HA0⟩
          case round =>
            obtain ⟨k, hk, rfl, hb, hN⟩ := hrel
            by_cases hlt : k < ns.length
            · obtain rfl := HNa.out (by omega)
              obtain ⟨c0, c1, c2, c3, c4, c5, c6, c7⟩ := HNc.out k hlt
              have c0 := cell_below c0 hb
              have c1 := cell_below c1 hb
              have c2 := cell_below c2 hb
              have c3 := cell_below c3 hb
              have c4 := cell_below c4 hb
              have c5 := cell_below c5 hb
              have c6 := cell_below c6 hb
              have c7 := cell_below c7 hb
              have HBk := Lib.hid (HBad.out k hlt)
              have HAk := Lib.hid (HA2.out k)
              clear HBad HGood HA0 HA2 HNa HNc
              generalize gn ns k = s at *
              have HV := Lib.hid (fun W => refNight_r s W)
              cases hnb : nightB s with
              | false =>
                rw [hnb] at HV
                have hR := Lib.hid (HBk.out hnb)
                clear HBk HAk hnb
                go_wp2_with fail
                refine (HV.out _).mono ?_
                rintro e w1 ⟨rfl, hb1⟩
                go_wp2_with fail
                go_ret
                exact ⟨by rw [hR.out]; rfl, below_onN hb hb1 hb.size⟩
              | true =>
                rw [hnb] at HV HAk
                have hN1 : Hid (A (k + 1) = false) := Lib.hid (by rw [HAk.out, hN.out]; rfl)
                clear HBk HAk hnb hN
                go_wp2_with fail
                refine (HV.out _).mono ?_
                rintro e w1 ⟨rfl, hb1⟩
                go_wp2_with fail
                go_roundw
                case rel => exact ⟨k + 1, by omega, by go_num, below_onN hb hb1 hb.size, hN1⟩
                case measure => simp [intOf]; omega
            · obtain rfl : k = ns.length := by omega
              have hR := Lib.hid (HGood.out hN.out)
              clear HBad HGood HA0 HA2 HNa HNc
              go_wp2_with fail
              go_ret
              exact ⟨by rw [hR.out]; rfl, hb⟩
        · have d60n : decide ((60 : Int) < ns.length) = true := decide_eq_true (by omega)
          have hR := Lib.hid (E81.out hJB.out (by rw [HNB.out, decide_eq_false h60n]; rfl))
          clear E0 E81 HNB hJB hJ
          go_wp2_with fail
          go_ret
          exact ⟨by rw [hR.out]; rfl, hb⟩
  · have d60 : decide ((60 : Int) < js.length) = true := decide_eq_true (by omega)
    have hR := Lib.hid (E80.out (by rw [HJB.out, decide_eq_false h60]; rfl))
    go_enter Try.func28, Try.ntmps28
    go_wp2_with fail
    go_ret
    exact ⟨by rw [hR.out]; rfl, Below.refl _ _⟩
theorem refValid_r (a : Option Addr) (js : List Jo) (ca : Nat) (b : Option Addr) (ns : List Ni) (cb : Nat) (w : World) (hA : JobsS w a js) (hB : NightsS w b ns) {v : Bool} (hv : (errL js ns == 0) = v) :
    Calls Try.prog 18 #[.slice a js.length ca, .slice b ns.length cb] w fun e w' => e = .returned (.bool v) ∧ Below w.heap.size w w' := by
  have H1 := Lib.hid (wrong_r a js ca b ns cb w hA hB)
  clear hA hB
  generalize errL js ns = E at *
  cases v with
  | true =>
    obtain rfl : E = 0 := by simpa using hv
    clear hv
    go_enter Try.func18, Try.ntmps18
    go_wp2_with fail
    refine H1.out.mono ?_
    rintro e w1 ⟨rfl, hb1⟩
    go_wp2_with fail
    go_ret
    exact ⟨rfl, hb1⟩
  | false =>
    go_enter Try.func18, Try.ntmps18
    go_wp2_with fail
    refine H1.out.mono ?_
    rintro e w1 ⟨rfl, hb1⟩
    go_wp2_with fail
    go_ret
    exact ⟨rfl, hb1⟩
end Go.Proofs.Ytghlhjiomebmhaa
