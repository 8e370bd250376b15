/-
  wrong and Valid of the reference of package night. By an AI agent.; fits of the reference of package night. By an AI agent.; Indexes and Places of the reference of package night; Wide of the laws. By an AI agent.; IsShortage of package night and of its reference. By an AI agent.
-/
import Derived.Test.YtghlhjiomebmhaaMgNightTours11
import Derived.Deep.RegionHeld3
import Derived.BigQuiet
import Derived.StillTailTactics

namespace Go.Proofs.Ytghlhjiomebmhaa
set_option linter.unusedVariables false
set_option linter.unusedSimpArgs false
open Go.RowKit

theorem jobs_cells {w : World} {a : Option Addr} {l : List Jo} (h : JobsS w a l) : ∃ blk off, Hid (0 < l.length → a = some ⟨blk, off, none⟩) ∧ Hid (∀ i, i < l.length → w.cell? ⟨blk, off + i * 8, none⟩ = some (.int .i64 (gj l i).n) ∧ w.cell? ⟨blk, off + i * 8 + 1, none⟩ = some (.int .i64 (gj l i).r) ∧ w.cell? ⟨blk, off + i * 8 + 2, none⟩ = some (.int .i64 (gj l i).c) ∧ w.cell? ⟨blk, off + i * 8 + 3, none⟩ = some (.int .i64 (gj l i).f) ∧ w.cell? ⟨blk, off + i * 8 + 4, none⟩ = some (.int .i64 (gj l i).l) ∧ w.cell? ⟨blk, off + i * 8 + 5, none⟩ = some (.int .i64 (gj l i).w) ∧ w.cell? ⟨blk, off + i * 8 + 6, none⟩ = some (.bool (gj l i).dy) ∧ w.cell? ⟨blk, off + i * 8 + 7, none⟩ = some (.bool (gj l i).wm)) := by
  obtain ⟨h0, blk, off, h1, h2⟩ := h
  exact ⟨blk, off, Lib.hid fun hp => h1 (pos_ne (n := 0) hp), Lib.hid h2⟩
theorem nights_cells {w : World} {a : Option Addr} {l : List Ni} (h : NightsS w a l) : ∃ blk off, Hid (0 < l.length → a = some ⟨blk, off, none⟩) ∧ Hid (∀ i, i < l.length → w.cell? ⟨blk, off + i * 8, none⟩ = some (.int .i64 (gn l i).d) ∧ w.cell? ⟨blk, off + i * 8 + 1, none⟩ = some (.int .i64 (gn l i).r) ∧ w.cell? ⟨blk, off + i * 8 + 2, none⟩ = some (.int .i64 (gn l i).f) ∧ w.cell? ⟨blk, off + i * 8 + 3, none⟩ = some (.int .i64 (gn l i).t) ∧ w.cell? ⟨blk, off + i * 8 + 4, none⟩ = some (.int .i64 (gn l i).w) ∧ w.cell? ⟨blk, off + i * 8 + 5, none⟩ = some (.int .i64 (gn l i).p) ∧ w.cell? ⟨blk, off + i * 8 + 6, none⟩ = some (.bool (gn l i).rn) ∧ w.cell? ⟨blk, off + i * 8 + 7, none⟩ = some (.bool (gn l i).fr)) := by
  obtain ⟨h0, blk, off, h1, h2⟩ := h
  exact ⟨blk, off, Lib.hid fun hp => h1 (pos_ne (n := 0) hp), Lib.hid h2⟩
theorem errL_job {js : List Jo} {ns : List Ni} (h : jobsB js = false) : errL js ns = 80 := by unfold errL; rw [h]; rfl
theorem errL_night {js : List Jo} {ns : List Ni} (h : jobsB js = true) (h2 : nightsB ns = false) : errL js ns = 81 := by unfold errL; rw [h, h2]; rfl
theorem errL_zero {js : List Jo} {ns : List Ni} (h : jobsB js = true) (h2 : nightsB ns = true) : errL js ns = 0 := by unfold errL; rw [h, h2]; rfl
set_option maxRecDepth 100000 in
set_option maxHeartbeats 4000000 in
theorem wrong_r (a : Option Addr) (js : List Jo) (ca : Nat) (b : Option Addr) (ns : List Ni) (cb : Nat) (w : World) (hA : JobsS w a js) (hB : NightsS w b ns) :
    Calls Try.prog 28 #[.slice a js.length ca, .slice b ns.length cb] w fun e w' => e = .returned (.int .i64 (errL js ns)) ∧ Below w.heap.size w w' := by
  have hl1 := hA.1
  have hl2 := hB.1
  obtain ⟨jb, jo, HJa, HJc⟩ := jobs_cells hA
  obtain ⟨nb, no, HNa, HNc⟩ := nights_cells hB
  clear hA hB
  have E80 := Lib.hid (fun h => errL_job (js := js) (ns := ns) h)
  have E81 := Lib.hid (fun h h2 => errL_night (js := js) (ns := ns) h h2)
  have E0 := Lib.hid (fun h h2 => errL_zero (js := js) (ns := ns) h h2)
  have HJB : Hid (jobsB js = (decide (js.length ≤ 60) && jokK js js.length)) := Lib.hid rfl
  have HNB : Hid (nightsB ns = (decide (ns.length ≤ 60) && !(anyK (fun k => !(nightB (gn ns k))) ns.length))) := Lib.hid rfl
  by_cases h60 : js.length ≤ 60
  · have d60 : decide ((60 : Int) < js.length) = false := decide_eq_false (by omega)
    have HJB : Hid (jobsB js = jokK js js.length) := Lib.hid (by rw [HJB.out, decide_eq_true h60]; rfl)
    have HBad : Hid (∀ k, k < js.length → jokK js (k + 1) = false → errL js ns = 80) := Lib.hid fun k hk h => E80.out (by rw [HJB.out]; exact jokK_false h _ hk)
    have HGood : Hid (jokK js js.length = true → jobsB js = true) := Lib.hid fun h => HJB.out.trans h
    have HSt : Hid (∀ k, jokK js k = true → jokK js (k + 1) = (jobB (gj js k) && !(anyK (fun m => (gj js m).n == (gj js k).n) k))) := Lib.hid fun k h => by
      show (jokK js k && _) = _
      rw [h]; rfl
    clear E80 HJB
    go_enter Try.func28, Try.ntmps28
    go_wp2_with fail
    go_loopw [5] (fun i wr => ∃ k : Nat, k ≤ js.length ∧ i = .int .i64 k ∧ Below w.heap.size w wr ∧ Hid (jokK js k = true)) (fun i _ => js.length - (intOf i).toNat)
    case atStart => exact ⟨0, Nat.zero_le _, rfl, Below.refl _ _, Lib.hid rfl⟩
    case round =>
      obtain ⟨k, hk, rfl, hb, hJ⟩ := hrel
      by_cases hlt : k < js.length
      · obtain rfl := HJa.out (by omega)
        obtain ⟨c0, c1, c2, c3, c4, c5, c6, c7⟩ := HJc.out k hlt
        have c0 := cell_below c0 hb
        have c1 := cell_below c1 hb
        have c2 := cell_below c2 hb
        have c3 := cell_below c3 hb
        have c4 := cell_below c4 hb
        have c5 := cell_below c5 hb
        have c6 := cell_below c6 hb
        have c7 := cell_below c7 hb
        have HBk := Lib.hid (HBad.out k hlt)
        have hStk := Lib.hid (HSt.out k hJ.out)
        have HIn : Hid (∀ m, m < k → w.cell? ⟨jb, jo + m * 8, none⟩ = some (.int .i64 (gj js m).n)) := Lib.hid fun m hm => (HJc.out m (by omega)).1
        have HA1 : Hid (∀ m, m < k → ((gj js m).n == (gj js k).n) = true → anyK (fun m => (gj js m).n == (gj js k).n) k = true) := Lib.hid fun m hm h => anyK_true h _ hm
        have HA2 : Hid (∀ m, anyK (fun m => (gj js m).n == (gj js k).n) (m + 1) = (anyK (fun m => (gj js m).n == (gj js k).n) m || ((gj js m).n == (gj js k).n))) := Lib.hid fun m => rfl
        have HA0 : Hid (anyK (fun m => (gj js m).n == (gj js k).n) 0 = false) := Lib.hid rfl
        clear HBad HSt HNa HNc HGood E0 E81 HNB HJa HJc hJ
        have HV := Lib.hid (fun W => refJob_r (gj js k) W)
        generalize hsk : gj js k = s at *
        clear hsk
        generalize hq : (fun m => (gj js m).n == s.n) = q at *
        have hq := Lib.hid hq
        have hqm : Hid (∀ m, q m = ((gj js m).n == s.n)) := Lib.hid fun m => by rw [← hq.out]
        clear hq
        cases hjb : jobB s with
        | false =>
          rw [hjb] at HV hStk
          have hR := Lib.hid (HBk.out (by rw [hStk.out]; rfl))
          clear hStk HBk hjb HIn HA1 HA2 HA0 hqm
          go_wp2_with fail
          refine (HV.out _).mono ?_
          rintro e w1 ⟨rfl, hb1⟩
          go_wp2_with fail
          go_ret
          exact ⟨by rw [hR.out]; rfl, below_onN hb hb1 hb.size⟩
        | true =>
          rw [hjb] at HV hStk
          clear hjb
          go_wp2_with fail
          refine (HV.out _).mono ?_
          rintro e w1 ⟨rfl, hb1⟩
          have hb := below_onN hb hb1 hb.size
          clear c1 c2 c3 c4 c5 c6 c7
          have c0 := cell_below c0 hb1
          clear hb1 HV
          go_wp2_with fail
          obtain ⟨wo, rfl⟩ : ∃ wo : World, wo = w1 := ⟨_, rfl⟩
          go_loopw [6] (fun i wr => ∃ m : Nat, m ≤ k ∧ i = .int .i64 m ∧ Below w.heap.size w wr ∧ wr.cell? ⟨jb, jo + k * 8, none⟩ = some (.int .i64 s.n) ∧ Hid (anyK q m = false)) (fun i _ => k - (intOf i).toNat)
          case atStart => exact ⟨0, Nat.zero_le _, rfl, hb, c0, HA0⟩
          case round =>
            obtain ⟨m, hm, rfl, hb, c0, hN⟩ := hrel
            by_cases hmk : m < k
            · have d0 := cell_below (HIn.out m hmk) hb
              have HA1m := Lib.hid (HA1.out m hmk)
              have HA2m := Lib.hid (HA2.out m)
              have hqm' := Lib.hid (hqm.out m)
              clear HIn HA1 HA2 HA0 hqm
              generalize (gj js m).n = x at *
              have k1 : decide ((0 : Int) ≤ m) = true := decide_eq_true (by omega)
              have k2 : decide ((m : Int) < js.length) = true := decide_eq_true (by omega)
              have k3 : decide ((0 : Int) ≤ k) = true := decide_eq_true (by omega)
              have k4 : decide ((k : Int) < js.length) = true := decide_eq_true (by omega)
              cases hx : (x == s.n) with
              | true =>
                have hR := Lib.hid (HBk.out (by rw [hStk.out, HA1m.out (by rw [hx])]; rfl))
                clear HBk hStk HA1m HA2m hqm'
                go_wp2_with fail
                go_quiet (fail)
                go_wp2_with fail
                go_ret
                exact ⟨by rw [hR.out]; rfl, below_drewN hb _⟩
              | false =>
                have hN1 : Hid (anyK q (m + 1) = false) := Lib.hid (by rw [HA2m.out, hN.out, hx]; rfl)
                clear HA1m HA2m hqm' HBk hStk hN
                go_wp2_with fail
                go_quiet (fail)
                go_wp2_with fail
                go_roundw
                case rel => exact ⟨m + 1, by omega, by go_num, below_drewN hb _, c0, hN1⟩
                case measure => simp [intOf]; omega
            · obtain rfl : m = k := by omega
              have hJ1 : Hid (jokK js (m + 1) = true) := Lib.hid (by rw [hStk.out, hN.out]; rfl)
              clear HIn HA1 HA2 HA0 hqm HBk hStk
              go_wp2_with fail
              go_roundw
              case rel => exact ⟨m + 1, by omega, by go_num, hb, hJ1⟩
              case measure => simp [intOf]; omega
      · obtain rfl : k = js.length := by omega
        have hJB := Lib.hid (HGood.out hJ.out)
        clear HBad HSt HJa HJc HGood
        by_cases h60n : ns.length ≤ 60
        · have d60n : decide ((60 : Int) < ns.length) = false := decide_eq_false (by omega)
          have HNB : Hid (nightsB ns = !(anyK (fun k => !(nightB (gn ns k))) ns.length)) := Lib.hid (by rw [HNB.out, decide_eq_true h60n]; rfl)
          have HBad : Hid (∀ k, k < ns.length → nightB (gn ns k) = false → errL js ns = 81) := Lib.hid fun k hk h => E81.out hJB.out (by rw [HNB.out, anyK_true (j := k) (by simp [h]) _ hk]; rfl)
          have HGood : Hid (anyK (fun k => !(nightB (gn ns k))) ns.length = false → errL js ns = 0) := Lib.hid fun h => E0.out hJB.out (by rw [HNB.out, h]; rfl)
          have HA0 : Hid (anyK (fun k => !(nightB (gn ns k))) 0 = false) := Lib.hid rfl
          have HA2 : Hid (∀ m, anyK (fun k => !(nightB (gn ns k))) (m + 1) = (anyK (fun k => !(nightB (gn ns k))) m || !(nightB (gn ns m)))) := Lib.hid fun m => rfl
          clear E0 E81 HNB hJB hJ
          generalize anyK (fun k => !(nightB (gn ns k))) = A at *
          go_wp2_with fail
          obtain ⟨wo, rfl⟩ : ∃ wo : World, wo = wr := ⟨_, rfl⟩
          go_loopw [7] (fun i wr => ∃ k : Nat, k ≤ ns.length ∧ i = .int .i64 k ∧ Below w.heap.size w wr ∧ Hid (A k = false)) (fun i _ => ns.length - (intOf i).toNat)
          case atStart => exact ⟨0, Nat.zero_le _, rfl, hb, HA0⟩
          case round =>
            obtain ⟨k, hk, rfl, hb, hN⟩ := hrel
            by_cases hlt : k < ns.length
            · obtain rfl := HNa.out (by omega)
              obtain ⟨c0, c1, c2, c3, c4, c5, c6, c7⟩ := HNc.out k hlt
              have c0 := cell_below c0 hb
              have c1 := cell_below c1 hb
              have c2 := cell_below c2 hb
              have c3 := cell_below c3 hb
              have c4 := cell_below c4 hb
              have c5 := cell_below c5 hb
              have c6 := cell_below c6 hb
              have c7 := cell_below c7 hb
              have HBk := Lib.hid (HBad.out k hlt)
              have HAk := Lib.hid (HA2.out k)
              clear HBad HGood HA0 HA2 HNa HNc
              generalize gn ns k = s at *
              have HV := Lib.hid (fun W => refNight_r s W)
              cases hnb : nightB s with
              | false =>
                rw [hnb] at HV
                have hR := Lib.hid (HBk.out hnb)
                clear HBk HAk hnb
                go_wp2_with fail
                refine (HV.out _).mono ?_
                rintro e w1 ⟨rfl, hb1⟩
                go_wp2_with fail
                go_ret
                exact ⟨by rw [hR.out]; rfl, below_onN hb hb1 hb.size⟩
              | true =>
                rw [hnb] at HV HAk
                have hN1 : Hid (A (k + 1) = false) := Lib.hid (by rw [HAk.out, hN.out]; rfl)
                clear HBk HAk hnb hN
                go_wp2_with fail
                refine (HV.out _).mono ?_
                rintro e w1 ⟨rfl, hb1⟩
                go_wp2_with fail
                go_roundw
                case rel => exact ⟨k + 1, by omega, by go_num, below_onN hb hb1 hb.size, hN1⟩
                case measure => simp [intOf]; omega
            · obtain rfl : k = ns.length := by omega
              have hR := Lib.hid (HGood.out hN.out)
              clear HBad HGood HA0 HA2 HNa HNc
              go_wp2_with fail
              go_ret
              exact ⟨by rw [hR.out]; rfl, hb⟩
        · have d60n : decide ((60 : Int) < ns.length) = true := decide_eq_true (by omega)
          have hR := Lib.hid (E81.out hJB.out (by rw [HNB.out, decide_eq_false h60n]; rfl))
          clear E0 E81 HNB hJB hJ
          go_wp2_with fail
          go_ret
          exact ⟨by rw [hR.out]; rfl, hb⟩
  · have d60 : decide ((60 : Int) < js.length) = true := decide_eq_true (by omega)
    have hR := Lib.hid (E80.out (by rw [HJB.out, decide_eq_false h60]; rfl))
    go_enter Try.func28, Try.ntmps28
    go_wp2_with fail
    go_ret
    exact ⟨by rw [hR.out]; rfl, Below.refl _ _⟩
theorem refValid_r (a : Option Addr) (js : List Jo) (ca : Nat) (b : Option Addr) (ns : List Ni) (cb : Nat) (w : World) (hA : JobsS w a js) (hB : NightsS w b ns) {v : Bool} (hv : (errL js ns == 0) = v) :
    Calls Try.prog 18 #[.slice a js.length ca, .slice b ns.length cb] w fun e w' => e = .returned (.bool v) ∧ Below w.heap.size w w' := by
  have H1 := Lib.hid (wrong_r a js ca b ns cb w hA hB)
  clear hA hB
  generalize errL js ns = E at *
  cases v with
  | true =>
    obtain rfl : E = 0 := by simpa using hv
    clear hv
    go_enter Try.func18, Try.ntmps18
    go_wp2_with fail
    refine H1.out.mono ?_
    rintro e w1 ⟨rfl, hb1⟩
    go_wp2_with fail
    go_ret
    exact ⟨rfl, hb1⟩
  | false =>
    go_enter Try.func18, Try.ntmps18
    go_wp2_with fail
    refine H1.out.mono ?_
    rintro e w1 ⟨rfl, hb1⟩
    go_wp2_with fail
    go_ret
    exact ⟨rfl, hb1⟩
end Go.Proofs.Ytghlhjiomebmhaa

namespace Go.Proofs.Ytghlhjiomebmhaa
set_option linter.unusedVariables false
set_option linter.unusedSimpArgs false
open Go.RowKit

set_option maxHeartbeats 1000000 in
theorem refFits_0 (j : Jo) (s : Ni) (w : World) (h0 : (j.r == s.r) = false) :
    Calls Try.prog 56 #[.agg #[.int .i64 j.n, .int .i64 j.r, .int .i64 j.c, .int .i64 j.f, .int .i64 j.l, .int .i64 j.w, .bool j.dy, .bool j.wm], .agg #[.int .i64 s.d, .int .i64 s.r, .int .i64 s.f, .int .i64 s.t, .int .i64 s.w, .int .i64 s.p, .bool s.rn, .bool s.fr]] w fun e w' => e = .returned (.bool (false)) ∧ Below w.heap.size w w' := by

  go_enter Try.func56, Try.ntmps56
  go_wp2_with fail
  go_ret
  exact ⟨rfl, ((Below.refl _ _).alloc (by simp) _).alloc (by simp) _⟩
set_option maxHeartbeats 1000000 in
theorem refFits_1 (j : Jo) (s : Ni) (w : World) (h0 : (j.r == s.r) = true) (h1 : (j.w == s.w) = false) :
    Calls Try.prog 56 #[.agg #[.int .i64 j.n, .int .i64 j.r, .int .i64 j.c, .int .i64 j.f, .int .i64 j.l, .int .i64 j.w, .bool j.dy, .bool j.wm], .agg #[.int .i64 s.d, .int .i64 s.r, .int .i64 s.f, .int .i64 s.t, .int .i64 s.w, .int .i64 s.p, .bool s.rn, .bool s.fr]] w fun e w' => e = .returned (.bool (false)) ∧ Below w.heap.size w w' := by

  go_enter Try.func56, Try.ntmps56
  go_wp2_with fail
  go_ret
  exact ⟨rfl, ((Below.refl _ _).alloc (by simp) _).alloc (by simp) _⟩
set_option maxHeartbeats 1000000 in
theorem refFits_2 (j : Jo) (s : Ni) (w : World) (h0 : (j.r == s.r) = true) (h1 : (j.w == s.w) = true) (h2 : btw s.d j.f j.l = false) :
    Calls Try.prog 56 #[.agg #[.int .i64 j.n, .int .i64 j.r, .int .i64 j.c, .int .i64 j.f, .int .i64 j.l, .int .i64 j.w, .bool j.dy, .bool j.wm], .agg #[.int .i64 s.d, .int .i64 s.r, .int .i64 s.f, .int .i64 s.t, .int .i64 s.w, .int .i64 s.p, .bool s.rn, .bool s.fr]] w fun e w' => e = .returned (.bool (false)) ∧ Below w.heap.size w w' := by
  have H0 := Lib.hid (fun W => refFrom_v h2 W)
  clear h2
  go_enter Try.func56, Try.ntmps56
  go_wp2_with fail
  refine (H0.out _).mono ?_
  rintro e w0 ⟨rfl, rfl⟩
  go_wp2_with fail
  go_ret
  exact ⟨rfl, ((Below.refl _ _).alloc (by simp) _).alloc (by simp) _⟩
set_option maxHeartbeats 1000000 in
theorem refFits_3 (j : Jo) (s : Ni) (w : World) (h0 : (j.r == s.r) = true) (h1 : (j.w == s.w) = true) (h2 : btw s.d j.f j.l = true) (h3 : btw j.c s.f s.t = false) :
    Calls Try.prog 56 #[.agg #[.int .i64 j.n, .int .i64 j.r, .int .i64 j.c, .int .i64 j.f, .int .i64 j.l, .int .i64 j.w, .bool j.dy, .bool j.wm], .agg #[.int .i64 s.d, .int .i64 s.r, .int .i64 s.f, .int .i64 s.t, .int .i64 s.w, .int .i64 s.p, .bool s.rn, .bool s.fr]] w fun e w' => e = .returned (.bool (false)) ∧ Below w.heap.size w w' := by
  have H0 := Lib.hid (fun W => refFrom_v h2 W)
  have H1 := Lib.hid (fun W => refFrom_v h3 W)
  clear h2 h3
  go_enter Try.func56, Try.ntmps56
  go_wp2_with fail
  refine (H0.out _).mono ?_
  rintro e w0 ⟨rfl, rfl⟩
  go_wp2_with fail
  refine (H1.out _).mono ?_
  rintro e w1 ⟨rfl, rfl⟩
  go_wp2_with fail
  go_ret
  exact ⟨rfl, ((Below.refl _ _).alloc (by simp) _).alloc (by simp) _⟩
set_option maxHeartbeats 1000000 in
theorem refFits_5truetruetruetrue (j : Jo) (s : Ni) (w : World) (h0 : (j.r == s.r) = true) (h1 : (j.w == s.w) = true) (h2 : btw s.d j.f j.l = true) (h3 : btw j.c s.f s.t = true) (g0 : j.dy = true) (g1 : s.rn = true) (g2 : j.wm = true) (g3 : s.fr = true) :
    Calls Try.prog 56 #[.agg #[.int .i64 j.n, .int .i64 j.r, .int .i64 j.c, .int .i64 j.f, .int .i64 j.l, .int .i64 j.w, .bool j.dy, .bool j.wm], .agg #[.int .i64 s.d, .int .i64 s.r, .int .i64 s.f, .int .i64 s.t, .int .i64 s.w, .int .i64 s.p, .bool s.rn, .bool s.fr]] w fun e w' => e = .returned (.bool (false)) ∧ Below w.heap.size w w' := by
  have H0 := Lib.hid (fun W => refFrom_v h2 W)
  have H1 := Lib.hid (fun W => refFrom_v h3 W)
  clear h2 h3
  rw [g0, g1, g2, g3]
  clear g0 g1 g2 g3
  go_enter Try.func56, Try.ntmps56
  go_wp2_with fail
  refine (H0.out _).mono ?_
  rintro e w0 ⟨rfl, rfl⟩
  go_wp2_with fail
  refine (H1.out _).mono ?_
  rintro e w1 ⟨rfl, rfl⟩
  go_wp2_with fail
  go_ret
  exact ⟨rfl, ((Below.refl _ _).alloc (by simp) _).alloc (by simp) _⟩
set_option maxHeartbeats 1000000 in
theorem refFits_5truetruetruefalse (j : Jo) (s : Ni) (w : World) (h0 : (j.r == s.r) = true) (h1 : (j.w == s.w) = true) (h2 : btw s.d j.f j.l = true) (h3 : btw j.c s.f s.t = true) (g0 : j.dy = true) (g1 : s.rn = true) (g2 : j.wm = true) (g3 : s.fr = false) :
    Calls Try.prog 56 #[.agg #[.int .i64 j.n, .int .i64 j.r, .int .i64 j.c, .int .i64 j.f, .int .i64 j.l, .int .i64 j.w, .bool j.dy, .bool j.wm], .agg #[.int .i64 s.d, .int .i64 s.r, .int .i64 s.f, .int .i64 s.t, .int .i64 s.w, .int .i64 s.p, .bool s.rn, .bool s.fr]] w fun e w' => e = .returned (.bool (false)) ∧ Below w.heap.size w w' := by
  have H0 := Lib.hid (fun W => refFrom_v h2 W)
  have H1 := Lib.hid (fun W => refFrom_v h3 W)
  clear h2 h3
  rw [g0, g1, g2, g3]
  clear g0 g1 g2 g3
  go_enter Try.func56, Try.ntmps56
  go_wp2_with fail
  refine (H0.out _).mono ?_
  rintro e w0 ⟨rfl, rfl⟩
  go_wp2_with fail
  refine (H1.out _).mono ?_
  rintro e w1 ⟨rfl, rfl⟩
  go_wp2_with fail
  go_ret
  exact ⟨rfl, ((Below.refl _ _).alloc (by simp) _).alloc (by simp) _⟩
set_option maxHeartbeats 1000000 in
theorem refFits_5truetruefalsetrue (j : Jo) (s : Ni) (w : World) (h0 : (j.r == s.r) = true) (h1 : (j.w == s.w) = true) (h2 : btw s.d j.f j.l = true) (h3 : btw j.c s.f s.t = true) (g0 : j.dy = true) (g1 : s.rn = true) (g2 : j.wm = false) (g3 : s.fr = true) :
    Calls Try.prog 56 #[.agg #[.int .i64 j.n, .int .i64 j.r, .int .i64 j.c, .int .i64 j.f, .int .i64 j.l, .int .i64 j.w, .bool j.dy, .bool j.wm], .agg #[.int .i64 s.d, .int .i64 s.r, .int .i64 s.f, .int .i64 s.t, .int .i64 s.w, .int .i64 s.p, .bool s.rn, .bool s.fr]] w fun e w' => e = .returned (.bool (false)) ∧ Below w.heap.size w w' := by
  have H0 := Lib.hid (fun W => refFrom_v h2 W)
  have H1 := Lib.hid (fun W => refFrom_v h3 W)
  clear h2 h3
  rw [g0, g1, g2, g3]
  clear g0 g1 g2 g3
  go_enter Try.func56, Try.ntmps56
  go_wp2_with fail
  refine (H0.out _).mono ?_
  rintro e w0 ⟨rfl, rfl⟩
  go_wp2_with fail
  refine (H1.out _).mono ?_
  rintro e w1 ⟨rfl, rfl⟩
  go_wp2_with fail
  go_ret
  exact ⟨rfl, ((Below.refl _ _).alloc (by simp) _).alloc (by simp) _⟩
set_option maxHeartbeats 1000000 in
theorem refFits_5truetruefalsefalse (j : Jo) (s : Ni) (w : World) (h0 : (j.r == s.r) = true) (h1 : (j.w == s.w) = true) (h2 : btw s.d j.f j.l = true) (h3 : btw j.c s.f s.t = true) (g0 : j.dy = true) (g1 : s.rn = true) (g2 : j.wm = false) (g3 : s.fr = false) :
    Calls Try.prog 56 #[.agg #[.int .i64 j.n, .int .i64 j.r, .int .i64 j.c, .int .i64 j.f, .int .i64 j.l, .int .i64 j.w, .bool j.dy, .bool j.wm], .agg #[.int .i64 s.d, .int .i64 s.r, .int .i64 s.f, .int .i64 s.t, .int .i64 s.w, .int .i64 s.p, .bool s.rn, .bool s.fr]] w fun e w' => e = .returned (.bool (false)) ∧ Below w.heap.size w w' := by
  have H0 := Lib.hid (fun W => refFrom_v h2 W)
  have H1 := Lib.hid (fun W => refFrom_v h3 W)
  clear h2 h3
  rw [g0, g1, g2, g3]
  clear g0 g1 g2 g3
  go_enter Try.func56, Try.ntmps56
  go_wp2_with fail
  refine (H0.out _).mono ?_
  rintro e w0 ⟨rfl, rfl⟩
  go_wp2_with fail
  refine (H1.out _).mono ?_
  rintro e w1 ⟨rfl, rfl⟩
  go_wp2_with fail
  go_ret
  exact ⟨rfl, ((Below.refl _ _).alloc (by simp) _).alloc (by simp) _⟩
set_option maxHeartbeats 1000000 in
theorem refFits_5truefalsetruetrue (j : Jo) (s : Ni) (w : World) (h0 : (j.r == s.r) = true) (h1 : (j.w == s.w) = true) (h2 : btw s.d j.f j.l = true) (h3 : btw j.c s.f s.t = true) (g0 : j.dy = true) (g1 : s.rn = false) (g2 : j.wm = true) (g3 : s.fr = true) :
    Calls Try.prog 56 #[.agg #[.int .i64 j.n, .int .i64 j.r, .int .i64 j.c, .int .i64 j.f, .int .i64 j.l, .int .i64 j.w, .bool j.dy, .bool j.wm], .agg #[.int .i64 s.d, .int .i64 s.r, .int .i64 s.f, .int .i64 s.t, .int .i64 s.w, .int .i64 s.p, .bool s.rn, .bool s.fr]] w fun e w' => e = .returned (.bool (false)) ∧ Below w.heap.size w w' := by
  have H0 := Lib.hid (fun W => refFrom_v h2 W)
  have H1 := Lib.hid (fun W => refFrom_v h3 W)
  clear h2 h3
  rw [g0, g1, g2, g3]
  clear g0 g1 g2 g3
  go_enter Try.func56, Try.ntmps56
  go_wp2_with fail
  refine (H0.out _).mono ?_
  rintro e w0 ⟨rfl, rfl⟩
  go_wp2_with fail
  refine (H1.out _).mono ?_
  rintro e w1 ⟨rfl, rfl⟩
  go_wp2_with fail
  go_ret
  exact ⟨rfl, ((Below.refl _ _).alloc (by simp) _).alloc (by simp) _⟩
set_option maxHeartbeats 1000000 in
theorem refFits_5truefalsetruefalse (j : Jo) (s : Ni) (w : World) (h0 : (j.r == s.r) = true) (h1 : (j.w == s.w) = true) (h2 : btw s.d j.f j.l = true) (h3 : btw j.c s.f s.t = true) (g0 : j.dy = true) (g1 : s.rn = false) (g2 : j.wm = true) (g3 : s.fr = false) :
    Calls Try.prog 56 #[.agg #[.int .i64 j.n, .int .i64 j.r, .int .i64 j.c, .int .i64 j.f, .int .i64 j.l, .int .i64 j.w, .bool j.dy, .bool j.wm], .agg #[.int .i64 s.d, .int .i64 s.r, .int .i64 s.f, .int .i64 s.t, .int .i64 s.w, .int .i64 s.p, .bool s.rn, .bool s.fr]] w fun e w' => e = .returned (.bool (true)) ∧ Below w.heap.size w w' := by
  have H0 := Lib.hid (fun W => refFrom_v h2 W)
  have H1 := Lib.hid (fun W => refFrom_v h3 W)
  clear h2 h3
  rw [g0, g1, g2, g3]
  clear g0 g1 g2 g3
  go_enter Try.func56, Try.ntmps56
  go_wp2_with fail
  refine (H0.out _).mono ?_
  rintro e w0 ⟨rfl, rfl⟩
  go_wp2_with fail
  refine (H1.out _).mono ?_
  rintro e w1 ⟨rfl, rfl⟩
  go_wp2_with fail
  go_ret
  exact ⟨rfl, ((Below.refl _ _).alloc (by simp) _).alloc (by simp) _⟩
set_option maxHeartbeats 1000000 in
theorem refFits_5truefalsefalsetrue (j : Jo) (s : Ni) (w : World) (h0 : (j.r == s.r) = true) (h1 : (j.w == s.w) = true) (h2 : btw s.d j.f j.l = true) (h3 : btw j.c s.f s.t = true) (g0 : j.dy = true) (g1 : s.rn = false) (g2 : j.wm = false) (g3 : s.fr = true) :
    Calls Try.prog 56 #[.agg #[.int .i64 j.n, .int .i64 j.r, .int .i64 j.c, .int .i64 j.f, .int .i64 j.l, .int .i64 j.w, .bool j.dy, .bool j.wm], .agg #[.int .i64 s.d, .int .i64 s.r, .int .i64 s.f, .int .i64 s.t, .int .i64 s.w, .int .i64 s.p, .bool s.rn, .bool s.fr]] w fun e w' => e = .returned (.bool (true)) ∧ Below w.heap.size w w' := by
  have H0 := Lib.hid (fun W => refFrom_v h2 W)
  have H1 := Lib.hid (fun W => refFrom_v h3 W)
  clear h2 h3
  rw [g0, g1, g2, g3]
  clear g0 g1 g2 g3
  go_enter Try.func56, Try.ntmps56
  go_wp2_with fail
  refine (H0.out _).mono ?_
  rintro e w0 ⟨rfl, rfl⟩
  go_wp2_with fail
  refine (H1.out _).mono ?_
  rintro e w1 ⟨rfl, rfl⟩
  go_wp2_with fail
  go_ret
  exact ⟨rfl, ((Below.refl _ _).alloc (by simp) _).alloc (by simp) _⟩
set_option maxHeartbeats 1000000 in
theorem refFits_5truefalsefalsefalse (j : Jo) (s : Ni) (w : World) (h0 : (j.r == s.r) = true) (h1 : (j.w == s.w) = true) (h2 : btw s.d j.f j.l = true) (h3 : btw j.c s.f s.t = true) (g0 : j.dy = true) (g1 : s.rn = false) (g2 : j.wm = false) (g3 : s.fr = false) :
    Calls Try.prog 56 #[.agg #[.int .i64 j.n, .int .i64 j.r, .int .i64 j.c, .int .i64 j.f, .int .i64 j.l, .int .i64 j.w, .bool j.dy, .bool j.wm], .agg #[.int .i64 s.d, .int .i64 s.r, .int .i64 s.f, .int .i64 s.t, .int .i64 s.w, .int .i64 s.p, .bool s.rn, .bool s.fr]] w fun e w' => e = .returned (.bool (true)) ∧ Below w.heap.size w w' := by
  have H0 := Lib.hid (fun W => refFrom_v h2 W)
  have H1 := Lib.hid (fun W => refFrom_v h3 W)
  clear h2 h3
  rw [g0, g1, g2, g3]
  clear g0 g1 g2 g3
  go_enter Try.func56, Try.ntmps56
  go_wp2_with fail
  refine (H0.out _).mono ?_
  rintro e w0 ⟨rfl, rfl⟩
  go_wp2_with fail
  refine (H1.out _).mono ?_
  rintro e w1 ⟨rfl, rfl⟩
  go_wp2_with fail
  go_ret
  exact ⟨rfl, ((Below.refl _ _).alloc (by simp) _).alloc (by simp) _⟩
set_option maxHeartbeats 1000000 in
theorem refFits_5falsetruetruetrue (j : Jo) (s : Ni) (w : World) (h0 : (j.r == s.r) = true) (h1 : (j.w == s.w) = true) (h2 : btw s.d j.f j.l = true) (h3 : btw j.c s.f s.t = true) (g0 : j.dy = false) (g1 : s.rn = true) (g2 : j.wm = true) (g3 : s.fr = true) :
    Calls Try.prog 56 #[.agg #[.int .i64 j.n, .int .i64 j.r, .int .i64 j.c, .int .i64 j.f, .int .i64 j.l, .int .i64 j.w, .bool j.dy, .bool j.wm], .agg #[.int .i64 s.d, .int .i64 s.r, .int .i64 s.f, .int .i64 s.t, .int .i64 s.w, .int .i64 s.p, .bool s.rn, .bool s.fr]] w fun e w' => e = .returned (.bool (false)) ∧ Below w.heap.size w w' := by
  have H0 := Lib.hid (fun W => refFrom_v h2 W)
  have H1 := Lib.hid (fun W => refFrom_v h3 W)
  clear h2 h3
  rw [g0, g1, g2, g3]
  clear g0 g1 g2 g3
  go_enter Try.func56, Try.ntmps56
  go_wp2_with fail
  refine (H0.out _).mono ?_
  rintro e w0 ⟨rfl, rfl⟩
  go_wp2_with fail
  refine (H1.out _).mono ?_
  rintro e w1 ⟨rfl, rfl⟩
  go_wp2_with fail
  go_ret
  exact ⟨rfl, ((Below.refl _ _).alloc (by simp) _).alloc (by simp) _⟩
set_option maxHeartbeats 1000000 in
theorem refFits_5falsetruetruefalse (j : Jo) (s : Ni) (w : World) (h0 : (j.r == s.r) = true) (h1 : (j.w == s.w) = true) (h2 : btw s.d j.f j.l = true) (h3 : btw j.c s.f s.t = true) (g0 : j.dy = false) (g1 : s.rn = true) (g2 : j.wm = true) (g3 : s.fr = false) :
    Calls Try.prog 56 #[.agg #[.int .i64 j.n, .int .i64 j.r, .int .i64 j.c, .int .i64 j.f, .int .i64 j.l, .int .i64 j.w, .bool j.dy, .bool j.wm], .agg #[.int .i64 s.d, .int .i64 s.r, .int .i64 s.f, .int .i64 s.t, .int .i64 s.w, .int .i64 s.p, .bool s.rn, .bool s.fr]] w fun e w' => e = .returned (.bool (true)) ∧ Below w.heap.size w w' := by
  have H0 := Lib.hid (fun W => refFrom_v h2 W)
  have H1 := Lib.hid (fun W => refFrom_v h3 W)
  clear h2 h3
  rw [g0, g1, g2, g3]
  clear g0 g1 g2 g3
  go_enter Try.func56, Try.ntmps56
  go_wp2_with fail
  refine (H0.out _).mono ?_
  rintro e w0 ⟨rfl, rfl⟩
  go_wp2_with fail
  refine (H1.out _).mono ?_
  rintro e w1 ⟨rfl, rfl⟩
  go_wp2_with fail
  go_ret
  exact ⟨rfl, ((Below.refl _ _).alloc (by simp) _).alloc (by simp) _⟩
set_option maxHeartbeats 1000000 in
theorem refFits_5falsetruefalsetrue (j : Jo) (s : Ni) (w : World) (h0 : (j.r == s.r) = true) (h1 : (j.w == s.w) = true) (h2 : btw s.d j.f j.l = true) (h3 : btw j.c s.f s.t = true) (g0 : j.dy = false) (g1 : s.rn = true) (g2 : j.wm = false) (g3 : s.fr = true) :
    Calls Try.prog 56 #[.agg #[.int .i64 j.n, .int .i64 j.r, .int .i64 j.c, .int .i64 j.f, .int .i64 j.l, .int .i64 j.w, .bool j.dy, .bool j.wm], .agg #[.int .i64 s.d, .int .i64 s.r, .int .i64 s.f, .int .i64 s.t, .int .i64 s.w, .int .i64 s.p, .bool s.rn, .bool s.fr]] w fun e w' => e = .returned (.bool (true)) ∧ Below w.heap.size w w' := by
  have H0 := Lib.hid (fun W => refFrom_v h2 W)
  have H1 := Lib.hid (fun W => refFrom_v h3 W)
  clear h2 h3
  rw [g0, g1, g2, g3]
  clear g0 g1 g2 g3
  go_enter Try.func56, Try.ntmps56
  go_wp2_with fail
  refine (H0.out _).mono ?_
  rintro e w0 ⟨rfl, rfl⟩
  go_wp2_with fail
  refine (H1.out _).mono ?_
  rintro e w1 ⟨rfl, rfl⟩
  go_wp2_with fail
  go_ret
  exact ⟨rfl, ((Below.refl _ _).alloc (by simp) _).alloc (by simp) _⟩
set_option maxHeartbeats 1000000 in
theorem refFits_5falsetruefalsefalse (j : Jo) (s : Ni) (w : World) (h0 : (j.r == s.r) = true) (h1 : (j.w == s.w) = true) (h2 : btw s.d j.f j.l = true) (h3 : btw j.c s.f s.t = true) (g0 : j.dy = false) (g1 : s.rn = true) (g2 : j.wm = false) (g3 : s.fr = false) :
    Calls Try.prog 56 #[.agg #[.int .i64 j.n, .int .i64 j.r, .int .i64 j.c, .int .i64 j.f, .int .i64 j.l, .int .i64 j.w, .bool j.dy, .bool j.wm], .agg #[.int .i64 s.d, .int .i64 s.r, .int .i64 s.f, .int .i64 s.t, .int .i64 s.w, .int .i64 s.p, .bool s.rn, .bool s.fr]] w fun e w' => e = .returned (.bool (true)) ∧ Below w.heap.size w w' := by
  have H0 := Lib.hid (fun W => refFrom_v h2 W)
  have H1 := Lib.hid (fun W => refFrom_v h3 W)
  clear h2 h3
  rw [g0, g1, g2, g3]
  clear g0 g1 g2 g3
  go_enter Try.func56, Try.ntmps56
  go_wp2_with fail
  refine (H0.out _).mono ?_
  rintro e w0 ⟨rfl, rfl⟩
  go_wp2_with fail
  refine (H1.out _).mono ?_
  rintro e w1 ⟨rfl, rfl⟩
  go_wp2_with fail
  go_ret
  exact ⟨rfl, ((Below.refl _ _).alloc (by simp) _).alloc (by simp) _⟩
set_option maxHeartbeats 1000000 in
theorem refFits_5falsefalsetruetrue (j : Jo) (s : Ni) (w : World) (h0 : (j.r == s.r) = true) (h1 : (j.w == s.w) = true) (h2 : btw s.d j.f j.l = true) (h3 : btw j.c s.f s.t = true) (g0 : j.dy = false) (g1 : s.rn = false) (g2 : j.wm = true) (g3 : s.fr = true) :
    Calls Try.prog 56 #[.agg #[.int .i64 j.n, .int .i64 j.r, .int .i64 j.c, .int .i64 j.f, .int .i64 j.l, .int .i64 j.w, .bool j.dy, .bool j.wm], .agg #[.int .i64 s.d, .int .i64 s.r, .int .i64 s.f, .int .i64 s.t, .int .i64 s.w, .int .i64 s.p, .bool s.rn, .bool s.fr]] w fun e w' => e = .returned (.bool (false)) ∧ Below w.heap.size w w' := by
  have H0 := Lib.hid (fun W => refFrom_v h2 W)
  have H1 := Lib.hid (fun W => refFrom_v h3 W)
  clear h2 h3
  rw [g0, g1, g2, g3]
  clear g0 g1 g2 g3
  go_enter Try.func56, Try.ntmps56
  go_wp2_with fail
  refine (H0.out _).mono ?_
  rintro e w0 ⟨rfl, rfl⟩
  go_wp2_with fail
  refine (H1.out _).mono ?_
  rintro e w1 ⟨rfl, rfl⟩
  go_wp2_with fail
  go_ret
  exact ⟨rfl, ((Below.refl _ _).alloc (by simp) _).alloc (by simp) _⟩
set_option maxHeartbeats 1000000 in
theorem refFits_5falsefalsetruefalse (j : Jo) (s : Ni) (w : World) (h0 : (j.r == s.r) = true) (h1 : (j.w == s.w) = true) (h2 : btw s.d j.f j.l = true) (h3 : btw j.c s.f s.t = true) (g0 : j.dy = false) (g1 : s.rn = false) (g2 : j.wm = true) (g3 : s.fr = false) :
    Calls Try.prog 56 #[.agg #[.int .i64 j.n, .int .i64 j.r, .int .i64 j.c, .int .i64 j.f, .int .i64 j.l, .int .i64 j.w, .bool j.dy, .bool j.wm], .agg #[.int .i64 s.d, .int .i64 s.r, .int .i64 s.f, .int .i64 s.t, .int .i64 s.w, .int .i64 s.p, .bool s.rn, .bool s.fr]] w fun e w' => e = .returned (.bool (true)) ∧ Below w.heap.size w w' := by
  have H0 := Lib.hid (fun W => refFrom_v h2 W)
  have H1 := Lib.hid (fun W => refFrom_v h3 W)
  clear h2 h3
  rw [g0, g1, g2, g3]
  clear g0 g1 g2 g3
  go_enter Try.func56, Try.ntmps56
  go_wp2_with fail
  refine (H0.out _).mono ?_
  rintro e w0 ⟨rfl, rfl⟩
  go_wp2_with fail
  refine (H1.out _).mono ?_
  rintro e w1 ⟨rfl, rfl⟩
  go_wp2_with fail
  go_ret
  exact ⟨rfl, ((Below.refl _ _).alloc (by simp) _).alloc (by simp) _⟩
set_option maxHeartbeats 1000000 in
theorem refFits_5falsefalsefalsetrue (j : Jo) (s : Ni) (w : World) (h0 : (j.r == s.r) = true) (h1 : (j.w == s.w) = true) (h2 : btw s.d j.f j.l = true) (h3 : btw j.c s.f s.t = true) (g0 : j.dy = false) (g1 : s.rn = false) (g2 : j.wm = false) (g3 : s.fr = true) :
    Calls Try.prog 56 #[.agg #[.int .i64 j.n, .int .i64 j.r, .int .i64 j.c, .int .i64 j.f, .int .i64 j.l, .int .i64 j.w, .bool j.dy, .bool j.wm], .agg #[.int .i64 s.d, .int .i64 s.r, .int .i64 s.f, .int .i64 s.t, .int .i64 s.w, .int .i64 s.p, .bool s.rn, .bool s.fr]] w fun e w' => e = .returned (.bool (true)) ∧ Below w.heap.size w w' := by
  have H0 := Lib.hid (fun W => refFrom_v h2 W)
  have H1 := Lib.hid (fun W => refFrom_v h3 W)
  clear h2 h3
  rw [g0, g1, g2, g3]
  clear g0 g1 g2 g3
  go_enter Try.func56, Try.ntmps56
  go_wp2_with fail
  refine (H0.out _).mono ?_
  rintro e w0 ⟨rfl, rfl⟩
  go_wp2_with fail
  refine (H1.out _).mono ?_
  rintro e w1 ⟨rfl, rfl⟩
  go_wp2_with fail
  go_ret
  exact ⟨rfl, ((Below.refl _ _).alloc (by simp) _).alloc (by simp) _⟩
set_option maxHeartbeats 1000000 in
theorem refFits_5falsefalsefalsefalse (j : Jo) (s : Ni) (w : World) (h0 : (j.r == s.r) = true) (h1 : (j.w == s.w) = true) (h2 : btw s.d j.f j.l = true) (h3 : btw j.c s.f s.t = true) (g0 : j.dy = false) (g1 : s.rn = false) (g2 : j.wm = false) (g3 : s.fr = false) :
    Calls Try.prog 56 #[.agg #[.int .i64 j.n, .int .i64 j.r, .int .i64 j.c, .int .i64 j.f, .int .i64 j.l, .int .i64 j.w, .bool j.dy, .bool j.wm], .agg #[.int .i64 s.d, .int .i64 s.r, .int .i64 s.f, .int .i64 s.t, .int .i64 s.w, .int .i64 s.p, .bool s.rn, .bool s.fr]] w fun e w' => e = .returned (.bool (true)) ∧ Below w.heap.size w w' := by
  have H0 := Lib.hid (fun W => refFrom_v h2 W)
  have H1 := Lib.hid (fun W => refFrom_v h3 W)
  clear h2 h3
  rw [g0, g1, g2, g3]
  clear g0 g1 g2 g3
  go_enter Try.func56, Try.ntmps56
  go_wp2_with fail
  refine (H0.out _).mono ?_
  rintro e w0 ⟨rfl, rfl⟩
  go_wp2_with fail
  refine (H1.out _).mono ?_
  rintro e w1 ⟨rfl, rfl⟩
  go_wp2_with fail
  go_ret
  exact ⟨rfl, ((Below.refl _ _).alloc (by simp) _).alloc (by simp) _⟩
theorem refFits_r (j : Jo) (s : Ni) (w : World) :
    Calls Try.prog 56 #[.agg #[.int .i64 j.n, .int .i64 j.r, .int .i64 j.c, .int .i64 j.f, .int .i64 j.l, .int .i64 j.w, .bool j.dy, .bool j.wm], .agg #[.int .i64 s.d, .int .i64 s.r, .int .i64 s.f, .int .i64 s.t, .int .i64 s.w, .int .i64 s.p, .bool s.rn, .bool s.fr]] w fun e w' => e = .returned (.bool (fitB j s)) ∧ Below w.heap.size w w' := by
  unfold fitB
  cases h0 : (j.r == s.r) with
  | false => exact refFits_0 j s w h0
  | true =>
    cases h1 : (j.w == s.w) with
    | false => exact refFits_1 j s w h0 h1
    | true =>
      cases h2 : btw s.d j.f j.l with
      | false => exact refFits_2 j s w h0 h1 h2
      | true =>
        cases h3 : btw j.c s.f s.t with
        | false => exact refFits_3 j s w h0 h1 h2 h3
        | true =>
          cases g0 : j.dy <;> cases g1 : s.rn <;> cases g2 : j.wm <;> cases g3 : s.fr
          · have := refFits_5falsefalsefalsefalse j s w h0 h1 h2 h3 g0 g1 g2 g3
            rw [g0, g1, g2, g3] at this
            exact this
          · have := refFits_5falsefalsefalsetrue j s w h0 h1 h2 h3 g0 g1 g2 g3
            rw [g0, g1, g2, g3] at this
            exact this
          · have := refFits_5falsefalsetruefalse j s w h0 h1 h2 h3 g0 g1 g2 g3
            rw [g0, g1, g2, g3] at this
            exact this
          · have := refFits_5falsefalsetruetrue j s w h0 h1 h2 h3 g0 g1 g2 g3
            rw [g0, g1, g2, g3] at this
            exact this
          · have := refFits_5falsetruefalsefalse j s w h0 h1 h2 h3 g0 g1 g2 g3
            rw [g0, g1, g2, g3] at this
            exact this
          · have := refFits_5falsetruefalsetrue j s w h0 h1 h2 h3 g0 g1 g2 g3
            rw [g0, g1, g2, g3] at this
            exact this
          · have := refFits_5falsetruetruefalse j s w h0 h1 h2 h3 g0 g1 g2 g3
            rw [g0, g1, g2, g3] at this
            exact this
          · have := refFits_5falsetruetruetrue j s w h0 h1 h2 h3 g0 g1 g2 g3
            rw [g0, g1, g2, g3] at this
            exact this
          · have := refFits_5truefalsefalsefalse j s w h0 h1 h2 h3 g0 g1 g2 g3
            rw [g0, g1, g2, g3] at this
            exact this
          · have := refFits_5truefalsefalsetrue j s w h0 h1 h2 h3 g0 g1 g2 g3
            rw [g0, g1, g2, g3] at this
            exact this
          · have := refFits_5truefalsetruefalse j s w h0 h1 h2 h3 g0 g1 g2 g3
            rw [g0, g1, g2, g3] at this
            exact this
          · have := refFits_5truefalsetruetrue j s w h0 h1 h2 h3 g0 g1 g2 g3
            rw [g0, g1, g2, g3] at this
            exact this
          · have := refFits_5truetruefalsefalse j s w h0 h1 h2 h3 g0 g1 g2 g3
            rw [g0, g1, g2, g3] at this
            exact this
          · have := refFits_5truetruefalsetrue j s w h0 h1 h2 h3 g0 g1 g2 g3
            rw [g0, g1, g2, g3] at this
            exact this
          · have := refFits_5truetruetruefalse j s w h0 h1 h2 h3 g0 g1 g2 g3
            rw [g0, g1, g2, g3] at this
            exact this
          · have := refFits_5truetruetruetrue j s w h0 h1 h2 h3 g0 g1 g2 g3
            rw [g0, g1, g2, g3] at this
            exact this
end Go.Proofs.Ytghlhjiomebmhaa

namespace Go.Proofs.Ytghlhjiomebmhaa
set_option linter.unusedVariables false
set_option linter.unusedSimpArgs false
open Go.RowKit

/-- What stands ahead of place k, or -1. -/
def prvI (l : List Int) : Nat → Int
  | 0 => -1
  | k + 1 => gi l k
/-- Is place k of a list no index above the one ahead of it? -/
def badI (L : Nat) (l : List Int) (k : Nat) : Bool := decide (gi l k ≤ prvI l k) || decide ((L : Int) ≤ gi l k)
/-- Are these indexes in ascending order? -/
def indB (L : Nat) (l : List Int) : Bool := !(anyK (badI L l) l.length)
/-- Does one of the first q jobs of a list fit a night? -/
def oneB (js : List Jo) (l : List Int) (n : Ni) (q : Nat) : Bool := anyK (fun i => fitB (gj js (gi l i).toNat) n) q
/-- The places of those of the first k nights that one of some jobs fits. -/
def pS (js : List Jo) (ns : List Ni) (l : List Int) : Nat → Int
  | 0 => 0
  | k + 1 => if oneB js l (gn ns k) l.length = true then pS js ns l k + (gn ns k).p else pS js ns l k
theorem pS_b (js : List Jo) (ns : List Ni) (l : List Int) (hp : ∀ i, i < ns.length → 0 ≤ (gn ns i).p ∧ (gn ns i).p ≤ 100) : ∀ k, k ≤ ns.length → 0 ≤ pS js ns l k ∧ pS js ns l k ≤ 100 * k
  | 0, _ => by simp [pS]
  | k + 1, hk => by
    have h1 := pS_b js ns l hp k (by omega)
    have h2 := hp k (by omega)
    unfold pS
    split <;> constructor <;> omega
/-- Are there more jobs or nights? -/
def wideB (L N : Nat) (j n : Int) : Bool := decide (j < L) || decide (n < N)
theorem wide_v (ja : Option Addr) (L jc : Nat) (na : Option Addr) (N nc : Nat) (j n : Int) (w : World) {v : Bool} (h : wideB L N j n = v) :
    Calls Try.prog 7 #[.agg #[.slice ja L jc, .slice na N nc], .int .i64 j, .int .i64 n] w fun e w' => e = .returned (.bool v) ∧ Below w.heap.size w w' := by
  subst h
  have hb := (Below.refl w.heap.size w).alloc (Nat.le_refl _) (.cells #[.slice ja L jc, .slice na N nc] 25)
  unfold wideB
  by_cases h1 : j < L
  · rw [decide_eq_true h1]
    have d1 : decide (j < (L : Int)) = true := decide_eq_true h1
    go_enter Try.func7, Try.ntmps7
    go_wp2_with fail
    go_ret
    exact ⟨rfl, hb⟩
  · rw [decide_eq_false h1]
    have d1 : decide (j < (L : Int)) = false := decide_eq_false h1
    by_cases h2 : n < N
    · rw [decide_eq_true h2]
      have d2 : decide (n < (N : Int)) = true := decide_eq_true h2
      go_enter Try.func7, Try.ntmps7
      go_wp2_with fail
      go_ret
      exact ⟨rfl, hb⟩
    · rw [decide_eq_false h2]
      have d2 : decide (n < (N : Int)) = false := decide_eq_false h2
      go_enter Try.func7, Try.ntmps7
      go_wp2_with fail
      go_ret
      exact ⟨rfl, hb⟩
end Go.Proofs.Ytghlhjiomebmhaa

namespace Go.Proofs.Ytghlhjiomebmhaa
set_option linter.unusedVariables false
set_option linter.unusedSimpArgs false
open Go.RowKit

/-- Is a list a shortage? -/
def isB (js : List Jo) (ns : List Ni) (l : List Int) : Bool := indB js.length l && decide (pS js ns l ns.length < l.length)
def isV (js : List Jo) (ns : List Ni) (l : List Int) : Bool := if errL js ns = 0 then isB js ns l else false
theorem indB_nat2 {L : Nat} {l : List Int} (h : indB L l = true) : ∀ k, k < l.length → ∃ m : Nat, gi l k = m ∧ m < L := by
  have hget : ∀ k, k < l.length → prvI l k < gi l k ∧ gi l k < L := fun k hk => by
    have h0 := h
    unfold indB at h0
    rw [Bool.not_eq_true', anyK_iff] at h0
    have h1 := h0 k hk
    unfold badI at h1
    rw [Bool.or_eq_false_iff, decide_eq_false_iff_not, decide_eq_false_iff_not] at h1
    omega
  have hlo : ∀ k, k < l.length → 0 ≤ gi l k := fun k => by
    induction k with
    | zero => intro hk; have := (hget 0 hk).1; simp only [prvI] at this; omega
    | succ k ih => intro hk; have h1 := ih (by omega); have h2 := (hget (k + 1) hk).1; simp only [prvI] at h2; omega
  intro k hk
  have h1 := hlo k hk
  have h2 := (hget k hk).2
  exact ⟨(gi l k).toNat, by omega, by omega⟩
end Go.Proofs.Ytghlhjiomebmhaa
