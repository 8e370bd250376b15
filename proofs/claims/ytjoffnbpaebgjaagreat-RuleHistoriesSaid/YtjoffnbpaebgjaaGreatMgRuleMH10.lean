/-
  The reference's ValidEdicts. By an AI agent.; why, hour and way of package rule's laws. By an AI agent.; Row of both, as the laws ask it. By an AI agent.; The reference's Holding. By an AI agent.
-/
import Derived.Test.YtjoffnbpaebgjaaGreatMgRuleMH7
import Derived.Test.YtjoffnbpaebgjaaGreatMgRuleMH8
import Derived.Test.YtjoffnbpaebgjaaGreatMgRuleMH9
import Derived.BigQuiet
import Derived.BigRegion
import Derived.Deep.RegionHeld3

namespace Go.Proofs.YtjoffnbpaebgjaaGreat
set_option linter.unusedVariables false
set_option linter.unusedSimpArgs false
open Go.RowKit

set_option maxRecDepth 100000 in
set_option maxHeartbeats 2000000 in
theorem refValidEdicts_r (L : Int) (a : Option Addr) (js : List Int) (ca : Nat) (aa : Option Addr) (l : List Edc) (cl : Nat) (w : World) (hI : IntsS w a js) (hA : EdS w aa l) :
    Calls Tryz.prog 37 #[.agg #[.int .i64 L, .slice a js.length ca], .slice aa l.length cl] w fun e w' => e = .returned (.bool (edcsB L js l)) ∧ Below w.heap.size w w' := by
  have HV := Lib.hid (fun W (hW : Below w.heap.size w W) => refValidLine_r L a js ca W (hI.below hW))
  have hlen := hA.1
  cases h0 : lineB L js with
  | false =>
    rw [e_bad0 h0]
    rw [h0] at HV
    clear hI hA h0
    go_enter Tryz.func37, Tryz.ntmps37
    go_wp2_with fail
    obtain ⟨wB, hwB⟩ : ∃ wB, w.alloc (.cells #[.int .i64 L, .slice a js.length ca] 24) = wB := ⟨_, rfl⟩
    have hb : Below w.heap.size w wB := by rw [← hwB]; exact (Below.refl _ _).alloc (Nat.le_refl _) _
    have p0 : wB.cell? ⟨w.heap.size, 0, none⟩ = some (.int .i64 L) := by rw [← hwB]; simp [go_sem]
    have p1 : wB.cell? ⟨w.heap.size, 1, none⟩ = some (.slice a js.length ca) := by rw [← hwB]; simp [go_sem]
    rw [hwB]
    clear hwB
    go_wp2_with (go_at_call 24; refine (HV.out _ hb).mono ?_; rintro e w1 ⟨rfl, hb1⟩)
    go_ret
    exact ⟨rfl, hb.trans (hb1.mono hb.size)⟩
  | true =>
    rw [h0] at HV
    by_cases h9 : 50 < l.length
    · rw [e_bad9 h9]
      have h9i : (50 : Int) < (l.length : Int) := by omega
      clear hI hA h0
      go_enter Tryz.func37, Tryz.ntmps37
      go_wp2_with fail
      obtain ⟨wB, hwB⟩ : ∃ wB, w.alloc (.cells #[.int .i64 L, .slice a js.length ca] 24) = wB := ⟨_, rfl⟩
      have hb : Below w.heap.size w wB := by rw [← hwB]; exact (Below.refl _ _).alloc (Nat.le_refl _) _
      have p0 : wB.cell? ⟨w.heap.size, 0, none⟩ = some (.int .i64 L) := by rw [← hwB]; simp [go_sem]
      have p1 : wB.cell? ⟨w.heap.size, 1, none⟩ = some (.slice a js.length ca) := by rw [← hwB]; simp [go_sem]
      rw [hwB]
      clear hwB
      go_wp2_with (go_at_call 24; refine (HV.out _ hb).mono ?_; rintro e w1 ⟨rfl, hb1⟩)
      go_ret
      exact ⟨rfl, hb.trans (hb1.mono hb.size)⟩
    · have h9i : ¬ (50 : Int) < (l.length : Int) := by omega
      have HB1 : Hid (∀ k, k < l.length → btw (ge l k).n 1 1000000000 = false → edcsB L js l = false) := Lib.hid fun k hk h => e_bad1 hk h
      have HB2 : Hid (∀ k, k < l.length → edcB L (ge l k) = false → edcsB L js l = false) := Lib.hid fun k hk h => e_bad2 hk h
      have HB3 : Hid (∀ k j, k < l.length → j < k → (ge l j).n = (ge l k).n → edcsB L js l = false) := Lib.hid fun k j hk hj h => e_bad3 hk hj h
      have HE : Hid ((∀ k, k < l.length → eRt L l k) → edcsB L js l = true) := Lib.hid fun h => e_end h0 (by omega) h
      obtain ⟨-, blk, off, hadr, hc⟩ := hA
      have HC := Lib.hid hc
      have HL : Hid (0 < l.length → aa = some ⟨blk, off, none⟩) := Lib.hid fun h => hadr (List.ne_nil_of_length_pos h)
      clear hI h0 hc hadr
      go_enter Tryz.func37, Tryz.ntmps37
      go_wp2_with fail
      obtain ⟨wB, hwB⟩ : ∃ wB, w.alloc (.cells #[.int .i64 L, .slice a js.length ca] 24) = wB := ⟨_, rfl⟩
      have hb : Below w.heap.size w wB := by rw [← hwB]; exact (Below.refl _ _).alloc (Nat.le_refl _) _
      have p0 : wB.cell? ⟨w.heap.size, 0, none⟩ = some (.int .i64 L) := by rw [← hwB]; simp [go_sem]
      have p1 : wB.cell? ⟨w.heap.size, 1, none⟩ = some (.slice a js.length ca) := by rw [← hwB]; simp [go_sem]
      rw [hwB]
      clear hwB
      go_wp2_with (go_at_call 24; refine (HV.out _ hb).mono ?_; rintro e w1 ⟨rfl, hb1⟩; have hbw := hb.trans (hb1.mono hb.size); replace p0 := cell_below p0 hb1; clear p1)
      clear HV hb1
      go_loopw [5] (fun i wr => ∃ k : Nat, k ≤ l.length ∧ i = .int .i64 k ∧ Hid (∀ j, j < k → eRt L l j) ∧ Below w1.heap.size w1 wr) (fun i _ => l.length - (intOf i).toNat)
      case atStart => exact ⟨0, Nat.zero_le _, rfl, Lib.hid fun j hj => absurd hj (Nat.not_lt_zero _), Below.refl _ _⟩
      case round =>
        obtain ⟨k, hk, rfl, HN, hbr⟩ := hrel
        have p0 := cell_below p0 hbr
        have hz : w.heap.size < wr.heap.size := block_lt p0
        by_cases hlt : k < l.length
        · obtain rfl := HL.out (by omega)
          obtain ⟨c0, c1, c2, c3, c4, c5, c6, c7⟩ := HC.out k hlt
          have hbo := hbw.trans (hbr.mono hbw.size)
          have c0 := cell_below c0 hbo
          have c1 := cell_below c1 hbo
          have c2 := cell_below c2 hbo
          have c3 := cell_below c3 hbo
          have c4 := cell_below c4 hbo
          have c5 := cell_below c5 hbo
          have c6 := cell_below c6 hbo
          have c7 := cell_below c7 hbo
          have hkl : (k : Int) < (l.length : Int) := by omega
          have hmeas : l.length - (k + 1) < l.length - k := by omega
          have HB1k := Lib.hid (HB1.out k hlt)
          have HB2k := Lib.hid (HB2.out k hlt)
          have HB3k := Lib.hid (fun j hj => HB3.out k j hlt hj)
          have HS : Hid (eRt L l k → ∀ j, j < k + 1 → eRt L l j) := Lib.hid fun h j hj => by
            by_cases e : j = k
            · subst e; exact h
            · exact HN.out j (by omega)
          have HRt : Hid (eRt L l k = (btw (ge l k).n 1 1000000000 = true ∧ edcB L (ge l k) = true ∧ ∀ j, j < k → (ge l j).n ≠ (ge l k).n)) := Lib.hid rfl
          have HCj : Hid (∀ j, j < k → wr.cell? ⟨blk, off + j * 8, none⟩ = some (.int .i64 (ge l j).n)) := Lib.hid fun j hj => cell_below (HC.out j (by omega)).1 hbo
          clear HC HL HE HB1 HB2 HB3 HN
          obtain ⟨x, hx⟩ : ∃ x, ge l k = x := ⟨_, rfl⟩
          rw [hx] at HB1k HB2k HB3k HRt c0 c1 c2 c3 c4 c5 c6 c7
          clear hx
          generalize eRt L l k = RT at *
          obtain ⟨s, hs⟩ : ∃ s, edcsB L js l = s := ⟨_, rfl⟩
          rw [hs] at HB1k HB2k HB3k
          have HSE := Lib.hid hs
          clear hs
          have Q0 : Hid (∀ W, Calls Tryz.prog 48 #[.int .i64 x.v, .int .i64 10, .int .i64 200] W fun e w7 => e = .returned (.bool (btw x.v 10 200)) ∧ W = w7) := Lib.hid fun W => refWithin_r 10 200 x.v W
          have Q1 : Hid (∀ W, Calls Tryz.prog 48 #[.int .i64 x.n, .int .i64 1, .int .i64 1000000000] W fun e w7 => e = .returned (.bool (btw x.n 1 1000000000)) ∧ W = w7) := Lib.hid fun W => refWithin_r 1 1000000000 x.n W
          have Q2 : Hid (∀ W, Calls Tryz.prog 71 #[.int .i64 x.d] W fun e w7 => e = .returned (.bool (dirB x.d)) ∧ W = w7) := Lib.hid fun W => refDir_r x.d W
          have Q3 : Hid (∀ W, Calls Tryz.prog 72 #[.int .i64 x.st, .int .i64 x.en] W fun e w7 => e = .returned (.bool (timeB x.st x.en)) ∧ W = w7) := Lib.hid fun W => refHours_r x.st x.en W
          have HSEo := Lib.hid HSE.out
          by_cases t1 : x.tp = 1
          · have d1 : (x.tp == 1) = true := by rw [t1]; rfl
            have d2 : (x.tp == 2) = false := by rw [t1]; rfl
            cases g0 : btw x.v 10 200 with
            | false =>
              have hr : s = false := HB2k.out (by unfold edcB edV; rw [d1, d2, g0]; simp)
              subst hr
              rw [g0] at Q0
              clear g0 t1
              clear HB1k HB2k HB3k HS HRt HCj HSE
              go_wp2_with (first | (go_at_call 48; with_reducible refine Calls.mono (Q0.out _) ?_; rintro e w7 ⟨rfl, rfl⟩) | (go_at_call 48; with_reducible refine Calls.mono (Q1.out _) ?_; rintro e w7 ⟨rfl, rfl⟩) | (go_at_call 71; with_reducible refine Calls.mono (Q2.out _) ?_; rintro e w7 ⟨rfl, rfl⟩) | (go_at_call 72; with_reducible refine Calls.mono (Q3.out _) ?_; rintro e w7 ⟨rfl, rfl⟩))
              go_ret
              exact ⟨by rw [HSEo.out] <;> rfl, hbo.alloc hbo.size _⟩
            | true =>
              have HV : Hid (edV x.tp x.v = true) := Lib.hid (by unfold edV; rw [d1, g0]; rfl)
              rw [g0] at Q0
              clear g0 t1
              cases g1 : btw x.n 1 1000000000 with
              | false =>
                have hr : s = false := HB1k.out g1
                subst hr
                rw [g1] at Q1
                clear g1
                clear HB1k HB2k HB3k HS HRt HCj HSE
                go_wp2_with (first | (go_at_call 48; with_reducible refine Calls.mono (Q0.out _) ?_; rintro e w7 ⟨rfl, rfl⟩) | (go_at_call 48; with_reducible refine Calls.mono (Q1.out _) ?_; rintro e w7 ⟨rfl, rfl⟩) | (go_at_call 71; with_reducible refine Calls.mono (Q2.out _) ?_; rintro e w7 ⟨rfl, rfl⟩) | (go_at_call 72; with_reducible refine Calls.mono (Q3.out _) ?_; rintro e w7 ⟨rfl, rfl⟩))
                go_ret
                exact ⟨by rw [HSEo.out] <;> rfl, hbo.alloc hbo.size _⟩
              | true =>
                rw [g1] at Q1
                cases g2 : dirB x.d with
                | false =>
                  have hr : s = false := HB2k.out (by unfold edcB; rw [g2]; simp)
                  subst hr
                  rw [g2] at Q2
                  clear g2
                  clear HB1k HB2k HB3k HS HRt HCj HSE
                  go_wp2_with (first | (go_at_call 48; with_reducible refine Calls.mono (Q0.out _) ?_; rintro e w7 ⟨rfl, rfl⟩) | (go_at_call 48; with_reducible refine Calls.mono (Q1.out _) ?_; rintro e w7 ⟨rfl, rfl⟩) | (go_at_call 71; with_reducible refine Calls.mono (Q2.out _) ?_; rintro e w7 ⟨rfl, rfl⟩) | (go_at_call 72; with_reducible refine Calls.mono (Q3.out _) ?_; rintro e w7 ⟨rfl, rfl⟩))
                  go_ret
                  exact ⟨by rw [HSEo.out] <;> rfl, hbo.alloc hbo.size _⟩
                | true =>
                  rw [g2] at Q2
                  by_cases ha : x.fr < 0
                  · have hr : s = false := HB2k.out (by unfold edcB; rw [decide_eq_false (by omega : ¬ 0 ≤ x.fr)]; simp)
                    subst hr
                    clear g1 g2
                    clear HB1k HB2k HB3k HS HRt HCj HSE
                    go_wp2_with (first | (go_at_call 48; with_reducible refine Calls.mono (Q0.out _) ?_; rintro e w7 ⟨rfl, rfl⟩) | (go_at_call 48; with_reducible refine Calls.mono (Q1.out _) ?_; rintro e w7 ⟨rfl, rfl⟩) | (go_at_call 71; with_reducible refine Calls.mono (Q2.out _) ?_; rintro e w7 ⟨rfl, rfl⟩) | (go_at_call 72; with_reducible refine Calls.mono (Q3.out _) ?_; rintro e w7 ⟨rfl, rfl⟩))
                    go_ret
                    exact ⟨by rw [HSEo.out] <;> rfl, hbo.alloc hbo.size _⟩
                  · skip
                    by_cases hb : x.tt ≤ x.fr
                    · have hr : s = false := HB2k.out (by unfold edcB; rw [decide_eq_false (by omega : ¬ x.fr < x.tt)]; simp)
                      subst hr
                      clear g1 g2
                      clear HB1k HB2k HB3k HS HRt HCj HSE
                      go_wp2_with (first | (go_at_call 48; with_reducible refine Calls.mono (Q0.out _) ?_; rintro e w7 ⟨rfl, rfl⟩) | (go_at_call 48; with_reducible refine Calls.mono (Q1.out _) ?_; rintro e w7 ⟨rfl, rfl⟩) | (go_at_call 71; with_reducible refine Calls.mono (Q2.out _) ?_; rintro e w7 ⟨rfl, rfl⟩) | (go_at_call 72; with_reducible refine Calls.mono (Q3.out _) ?_; rintro e w7 ⟨rfl, rfl⟩))
                      go_ret
                      exact ⟨by rw [HSEo.out] <;> rfl, hbo.alloc hbo.size _⟩
                    · skip
                      by_cases hc : L < x.tt
                      · have hr : s = false := HB2k.out (by unfold edcB; rw [decide_eq_false (by omega : ¬ x.tt ≤ L)]; simp)
                        subst hr
                        clear g1 g2
                        clear HB1k HB2k HB3k HS HRt HCj HSE
                        go_wp2_with (first | (go_at_call 48; with_reducible refine Calls.mono (Q0.out _) ?_; rintro e w7 ⟨rfl, rfl⟩) | (go_at_call 48; with_reducible refine Calls.mono (Q1.out _) ?_; rintro e w7 ⟨rfl, rfl⟩) | (go_at_call 71; with_reducible refine Calls.mono (Q2.out _) ?_; rintro e w7 ⟨rfl, rfl⟩) | (go_at_call 72; with_reducible refine Calls.mono (Q3.out _) ?_; rintro e w7 ⟨rfl, rfl⟩))
                        go_ret
                        exact ⟨by rw [HSEo.out] <;> rfl, hbo.alloc hbo.size _⟩
                      · skip
                        cases g3 : timeB x.st x.en with
                        | false =>
                          have hr : s = false := HB2k.out (by unfold edcB; rw [g3]; simp)
                          subst hr
                          rw [g3] at Q3
                          clear g1 g2 g3
                          clear HB1k HB2k HB3k HS HRt HCj HSE
                          go_wp2_with (first | (go_at_call 48; with_reducible refine Calls.mono (Q0.out _) ?_; rintro e w7 ⟨rfl, rfl⟩) | (go_at_call 48; with_reducible refine Calls.mono (Q1.out _) ?_; rintro e w7 ⟨rfl, rfl⟩) | (go_at_call 71; with_reducible refine Calls.mono (Q2.out _) ?_; rintro e w7 ⟨rfl, rfl⟩) | (go_at_call 72; with_reducible refine Calls.mono (Q3.out _) ?_; rintro e w7 ⟨rfl, rfl⟩))
                          go_ret
                          exact ⟨by rw [HSEo.out] <;> rfl, hbo.alloc hbo.size _⟩
                        | true =>
                          rw [g3] at Q3
                          have HSg : Hid (edcB L x = true) := Lib.hid (by unfold edcB; rw [HV.out, g2, g3, decide_eq_true (by omega : 0 ≤ x.fr), decide_eq_true (by omega : x.fr < x.tt), decide_eq_true (by omega : x.tt ≤ L)]; rfl)
                          have HRt3 : Hid ((∀ j, j < k → (ge l j).n ≠ x.n) → RT) := Lib.hid fun h2 => by rw [HRt.out]; exact ⟨g1, HSg.out, h2⟩
                          have HSbox : Hid (Below w.heap.size w (wr.alloc (.cells #[.int .i64 x.n, .int .i64 x.tp, .int .i64 x.v, .int .i64 x.d, .int .i64 x.fr, .int .i64 x.tt, .int .i64 x.st, .int .i64 x.en] 82))) := Lib.hid (hbo.alloc hbo.size _)
                          clear HB1k HB2k HRt HSg HSE g1 g2 g3
                          go_wp2_with (first | (go_at_call 48; with_reducible refine Calls.mono (Q0.out _) ?_; rintro e w7 ⟨rfl, rfl⟩) | (go_at_call 48; with_reducible refine Calls.mono (Q1.out _) ?_; rintro e w7 ⟨rfl, rfl⟩) | (go_at_call 71; with_reducible refine Calls.mono (Q2.out _) ?_; rintro e w7 ⟨rfl, rfl⟩) | (go_at_call 72; with_reducible refine Calls.mono (Q3.out _) ?_; rintro e w7 ⟨rfl, rfl⟩))
                          clear Q0 Q1 Q2 Q3
                          obtain ⟨wS, hwS⟩ : ∃ wS, wr.alloc (.cells #[.int .i64 x.n, .int .i64 x.tp, .int .i64 x.v, .int .i64 x.d, .int .i64 x.fr, .int .i64 x.tt, .int .i64 x.st, .int .i64 x.en] 82) = wS := ⟨_, rfl⟩
                          rw [hwS] at HSbox
                          have hbS0 : Below wr.heap.size wr wS := by rw [← hwS]; exact (Below.refl _ _).alloc (Nat.le_refl _) _
                          have x0 : wS.cell? ⟨wr.heap.size, 0, none⟩ = some (.int .i64 x.n) := by rw [← hwS]; simp [go_sem]
                          rw [hwS]
                          clear hwS
                          have HCj : Hid (∀ j, j < k → wS.cell? ⟨blk, off + j * 8, none⟩ = some (.int .i64 (ge l j).n)) := Lib.hid fun j hj => cell_below (HCj.out j hj) hbS0
                          have HBZ := Lib.hid (hbr.trans (hbS0.mono hbr.size))
                          have hbz := HSbox.out
                          obtain ⟨rb, hrb⟩ : ∃ rb, wr.heap.size = rb := ⟨_, rfl⟩
                          rw [hrb] at x0 ⊢
                          clear c0 c1 c2 c3 c4 c5 c6 c7 hbr hbo hbS0 hrb p0 hz HSbox
                          go_loopw [8] (fun i wr => ∃ j : Nat, j ≤ k ∧ i = .int .i64 j ∧ Hid (∀ i, i < j → (ge l i).n ≠ x.n) ∧ Below wS.heap.size wS wr) (fun i _ => k - (intOf i).toNat)
                          case atStart => exact ⟨0, Nat.zero_le _, rfl, Lib.hid fun j hj => absurd hj (Nat.not_lt_zero _), Below.refl _ _⟩
                          case round =>
                            obtain ⟨j, hj, rfl, HJ, hbr⟩ := hrel
                            have x0 := cell_below x0 hbr
                            by_cases hjk : j < k
                            · have q0 := cell_below (HCj.out j hjk) hbr
                              have hji : (j : Int) < (k : Int) := by omega
                              have hjl : (j : Int) < (l.length : Int) := by omega
                              have hmeas2 : k - (j + 1) < k - j := by omega
                              have HJ2 : Hid ((ge l j).n ≠ x.n → ∀ i, i < j + 1 → (ge l i).n ≠ x.n) := Lib.hid fun h i hi => by
                                by_cases e : i = j
                                · subst e; exact h
                                · exact HJ.out i (by omega)
                              have HB3j := Lib.hid (HB3k.out j hjk)
                              have hbz2 : Below w.heap.size w wr := hbz.trans (hbr.mono hbz.size)
                              clear HJ HB3k HCj
                              generalize (ge l j).n = y at *
                              by_cases hy : y = x.n
                              · have hr := HB3j.out hy
                                subst hr
                                subst hy
                                have d : (x.n == x.n) = true := beq_self_eq_true _
                                clear HJ2 HB3j HRt3
                                go_wp2_with fail
                                go_quiet (fail)
                                go_wp2_with fail
                                go_ret
                                exact ⟨by rw [HSEo.out] <;> rfl, below_drewN hbz2 _⟩
                              · have d : (y == x.n) = false := beq_false_of_ne hy
                                have HJ3 := Lib.hid (HJ2.out hy)
                                clear HJ2 HB3j HRt3 hy
                                go_wp2_with fail
                                go_quiet (fail)
                                go_wp2_with fail
                                go_roundw
                                case rel => exact ⟨j + 1, by omega, by go_num, HJ3, below_drewN hbr _⟩
                                case measure => first | (simp [intOf]; exact hmeas2) | simpa [intOf] using hmeas2
                            · obtain rfl : j = k := by omega
                              have HSk := Lib.hid (HS.out (HRt3.out HJ.out))
                              have hbf := HBZ.out.trans (hbr.mono HBZ.out.size)
                              clear HJ HRt3 HS HB3k HCj HBZ
                              go_wp2_with fail
                              go_roundw
                              case rel => exact ⟨j + 1, by omega, by go_num, HSk, hbf⟩
                              case measure => first | (simp [intOf]; exact hmeas) | simpa [intOf] using hmeas
          · have d1 : (x.tp == 1) = false := beq_false_of_ne t1
            by_cases t2 : x.tp = 2
            · have d2 : (x.tp == 2) = true := by rw [t2]; rfl
              by_cases v1 : x.v = 1
              · have d3 : (x.v == 1) = true := by rw [v1]; rfl
                have HV : Hid (edV x.tp x.v = true) := Lib.hid (by unfold edV; rw [d2, d3]; simp)
                clear t1 t2 v1
                cases g1 : btw x.n 1 1000000000 with
                | false =>
                  have hr : s = false := HB1k.out g1
                  subst hr
                  rw [g1] at Q1
                  clear g1
                  clear HB1k HB2k HB3k HS HRt HCj HSE
                  go_wp2_with (first | (go_at_call 48; with_reducible refine Calls.mono (Q0.out _) ?_; rintro e w7 ⟨rfl, rfl⟩) | (go_at_call 48; with_reducible refine Calls.mono (Q1.out _) ?_; rintro e w7 ⟨rfl, rfl⟩) | (go_at_call 71; with_reducible refine Calls.mono (Q2.out _) ?_; rintro e w7 ⟨rfl, rfl⟩) | (go_at_call 72; with_reducible refine Calls.mono (Q3.out _) ?_; rintro e w7 ⟨rfl, rfl⟩))
                  go_ret
                  exact ⟨by rw [HSEo.out] <;> rfl, hbo.alloc hbo.size _⟩
                | true =>
                  rw [g1] at Q1
                  cases g2 : dirB x.d with
                  | false =>
                    have hr : s = false := HB2k.out (by unfold edcB; rw [g2]; simp)
                    subst hr
                    rw [g2] at Q2
                    clear g2
                    clear HB1k HB2k HB3k HS HRt HCj HSE
                    go_wp2_with (first | (go_at_call 48; with_reducible refine Calls.mono (Q0.out _) ?_; rintro e w7 ⟨rfl, rfl⟩) | (go_at_call 48; with_reducible refine Calls.mono (Q1.out _) ?_; rintro e w7 ⟨rfl, rfl⟩) | (go_at_call 71; with_reducible refine Calls.mono (Q2.out _) ?_; rintro e w7 ⟨rfl, rfl⟩) | (go_at_call 72; with_reducible refine Calls.mono (Q3.out _) ?_; rintro e w7 ⟨rfl, rfl⟩))
                    go_ret
                    exact ⟨by rw [HSEo.out] <;> rfl, hbo.alloc hbo.size _⟩
                  | true =>
                    rw [g2] at Q2
                    by_cases ha : x.fr < 0
                    · have hr : s = false := HB2k.out (by unfold edcB; rw [decide_eq_false (by omega : ¬ 0 ≤ x.fr)]; simp)
                      subst hr
                      clear g1 g2
                      clear HB1k HB2k HB3k HS HRt HCj HSE
                      go_wp2_with (first | (go_at_call 48; with_reducible refine Calls.mono (Q0.out _) ?_; rintro e w7 ⟨rfl, rfl⟩) | (go_at_call 48; with_reducible refine Calls.mono (Q1.out _) ?_; rintro e w7 ⟨rfl, rfl⟩) | (go_at_call 71; with_reducible refine Calls.mono (Q2.out _) ?_; rintro e w7 ⟨rfl, rfl⟩) | (go_at_call 72; with_reducible refine Calls.mono (Q3.out _) ?_; rintro e w7 ⟨rfl, rfl⟩))
                      go_ret
                      exact ⟨by rw [HSEo.out] <;> rfl, hbo.alloc hbo.size _⟩
                    · skip
                      by_cases hb : x.tt ≤ x.fr
                      · have hr : s = false := HB2k.out (by unfold edcB; rw [decide_eq_false (by omega : ¬ x.fr < x.tt)]; simp)
                        subst hr
                        clear g1 g2
                        clear HB1k HB2k HB3k HS HRt HCj HSE
                        go_wp2_with (first | (go_at_call 48; with_reducible refine Calls.mono (Q0.out _) ?_; rintro e w7 ⟨rfl, rfl⟩) | (go_at_call 48; with_reducible refine Calls.mono (Q1.out _) ?_; rintro e w7 ⟨rfl, rfl⟩) | (go_at_call 71; with_reducible refine Calls.mono (Q2.out _) ?_; rintro e w7 ⟨rfl, rfl⟩) | (go_at_call 72; with_reducible refine Calls.mono (Q3.out _) ?_; rintro e w7 ⟨rfl, rfl⟩))
                        go_ret
                        exact ⟨by rw [HSEo.out] <;> rfl, hbo.alloc hbo.size _⟩
                      · skip
                        by_cases hc : L < x.tt
                        · have hr : s = false := HB2k.out (by unfold edcB; rw [decide_eq_false (by omega : ¬ x.tt ≤ L)]; simp)
                          subst hr
                          clear g1 g2
                          clear HB1k HB2k HB3k HS HRt HCj HSE
                          go_wp2_with (first | (go_at_call 48; with_reducible refine Calls.mono (Q0.out _) ?_; rintro e w7 ⟨rfl, rfl⟩) | (go_at_call 48; with_reducible refine Calls.mono (Q1.out _) ?_; rintro e w7 ⟨rfl, rfl⟩) | (go_at_call 71; with_reducible refine Calls.mono (Q2.out _) ?_; rintro e w7 ⟨rfl, rfl⟩) | (go_at_call 72; with_reducible refine Calls.mono (Q3.out _) ?_; rintro e w7 ⟨rfl, rfl⟩))
                          go_ret
                          exact ⟨by rw [HSEo.out] <;> rfl, hbo.alloc hbo.size _⟩
                        · skip
                          cases g3 : timeB x.st x.en with
                          | false =>
                            have hr : s = false := HB2k.out (by unfold edcB; rw [g3]; simp)
                            subst hr
                            rw [g3] at Q3
                            clear g1 g2 g3
                            clear HB1k HB2k HB3k HS HRt HCj HSE
                            go_wp2_with (first | (go_at_call 48; with_reducible refine Calls.mono (Q0.out _) ?_; rintro e w7 ⟨rfl, rfl⟩) | (go_at_call 48; with_reducible refine Calls.mono (Q1.out _) ?_; rintro e w7 ⟨rfl, rfl⟩) | (go_at_call 71; with_reducible refine Calls.mono (Q2.out _) ?_; rintro e w7 ⟨rfl, rfl⟩) | (go_at_call 72; with_reducible refine Calls.mono (Q3.out _) ?_; rintro e w7 ⟨rfl, rfl⟩))
                            go_ret
                            exact ⟨by rw [HSEo.out] <;> rfl, hbo.alloc hbo.size _⟩
                          | true =>
                            rw [g3] at Q3
                            have HSg : Hid (edcB L x = true) := Lib.hid (by unfold edcB; rw [HV.out, g2, g3, decide_eq_true (by omega : 0 ≤ x.fr), decide_eq_true (by omega : x.fr < x.tt), decide_eq_true (by omega : x.tt ≤ L)]; rfl)
                            have HRt3 : Hid ((∀ j, j < k → (ge l j).n ≠ x.n) → RT) := Lib.hid fun h2 => by rw [HRt.out]; exact ⟨g1, HSg.out, h2⟩
                            have HSbox : Hid (Below w.heap.size w (wr.alloc (.cells #[.int .i64 x.n, .int .i64 x.tp, .int .i64 x.v, .int .i64 x.d, .int .i64 x.fr, .int .i64 x.tt, .int .i64 x.st, .int .i64 x.en] 82))) := Lib.hid (hbo.alloc hbo.size _)
                            clear HB1k HB2k HRt HSg HSE g1 g2 g3
                            go_wp2_with (first | (go_at_call 48; with_reducible refine Calls.mono (Q0.out _) ?_; rintro e w7 ⟨rfl, rfl⟩) | (go_at_call 48; with_reducible refine Calls.mono (Q1.out _) ?_; rintro e w7 ⟨rfl, rfl⟩) | (go_at_call 71; with_reducible refine Calls.mono (Q2.out _) ?_; rintro e w7 ⟨rfl, rfl⟩) | (go_at_call 72; with_reducible refine Calls.mono (Q3.out _) ?_; rintro e w7 ⟨rfl, rfl⟩))
                            clear Q0 Q1 Q2 Q3
                            obtain ⟨wS, hwS⟩ : ∃ wS, wr.alloc (.cells #[.int .i64 x.n, .int .i64 x.tp, .int .i64 x.v, .int .i64 x.d, .int .i64 x.fr, .int .i64 x.tt, .int .i64 x.st, .int .i64 x.en] 82) = wS := ⟨_, rfl⟩
                            rw [hwS] at HSbox
                            have hbS0 : Below wr.heap.size wr wS := by rw [← hwS]; exact (Below.refl _ _).alloc (Nat.le_refl _) _
                            have x0 : wS.cell? ⟨wr.heap.size, 0, none⟩ = some (.int .i64 x.n) := by rw [← hwS]; simp [go_sem]
                            rw [hwS]
                            clear hwS
                            have HCj : Hid (∀ j, j < k → wS.cell? ⟨blk, off + j * 8, none⟩ = some (.int .i64 (ge l j).n)) := Lib.hid fun j hj => cell_below (HCj.out j hj) hbS0
                            have HBZ := Lib.hid (hbr.trans (hbS0.mono hbr.size))
                            have hbz := HSbox.out
                            obtain ⟨rb, hrb⟩ : ∃ rb, wr.heap.size = rb := ⟨_, rfl⟩
                            rw [hrb] at x0 ⊢
                            clear c0 c1 c2 c3 c4 c5 c6 c7 hbr hbo hbS0 hrb p0 hz HSbox
                            go_loopw [8] (fun i wr => ∃ j : Nat, j ≤ k ∧ i = .int .i64 j ∧ Hid (∀ i, i < j → (ge l i).n ≠ x.n) ∧ Below wS.heap.size wS wr) (fun i _ => k - (intOf i).toNat)
                            case atStart => exact ⟨0, Nat.zero_le _, rfl, Lib.hid fun j hj => absurd hj (Nat.not_lt_zero _), Below.refl _ _⟩
                            case round =>
                              obtain ⟨j, hj, rfl, HJ, hbr⟩ := hrel
                              have x0 := cell_below x0 hbr
                              by_cases hjk : j < k
                              · have q0 := cell_below (HCj.out j hjk) hbr
                                have hji : (j : Int) < (k : Int) := by omega
                                have hjl : (j : Int) < (l.length : Int) := by omega
                                have hmeas2 : k - (j + 1) < k - j := by omega
                                have HJ2 : Hid ((ge l j).n ≠ x.n → ∀ i, i < j + 1 → (ge l i).n ≠ x.n) := Lib.hid fun h i hi => by
                                  by_cases e : i = j
                                  · subst e; exact h
                                  · exact HJ.out i (by omega)
                                have HB3j := Lib.hid (HB3k.out j hjk)
                                have hbz2 : Below w.heap.size w wr := hbz.trans (hbr.mono hbz.size)
                                clear HJ HB3k HCj
                                generalize (ge l j).n = y at *
                                by_cases hy : y = x.n
                                · have hr := HB3j.out hy
                                  subst hr
                                  subst hy
                                  have d : (x.n == x.n) = true := beq_self_eq_true _
                                  clear HJ2 HB3j HRt3
                                  go_wp2_with fail
                                  go_quiet (fail)
                                  go_wp2_with fail
                                  go_ret
                                  exact ⟨by rw [HSEo.out] <;> rfl, below_drewN hbz2 _⟩
                                · have d : (y == x.n) = false := beq_false_of_ne hy
                                  have HJ3 := Lib.hid (HJ2.out hy)
                                  clear HJ2 HB3j HRt3 hy
                                  go_wp2_with fail
                                  go_quiet (fail)
                                  go_wp2_with fail
                                  go_roundw
                                  case rel => exact ⟨j + 1, by omega, by go_num, HJ3, below_drewN hbr _⟩
                                  case measure => first | (simp [intOf]; exact hmeas2) | simpa [intOf] using hmeas2
                              · obtain rfl : j = k := by omega
                                have HSk := Lib.hid (HS.out (HRt3.out HJ.out))
                                have hbf := HBZ.out.trans (hbr.mono HBZ.out.size)
                                clear HJ HRt3 HS HB3k HCj HBZ
                                go_wp2_with fail
                                go_roundw
                                case rel => exact ⟨j + 1, by omega, by go_num, HSk, hbf⟩
                                case measure => first | (simp [intOf]; exact hmeas) | simpa [intOf] using hmeas
              · have d3 : (x.v == 1) = false := beq_false_of_ne v1
                have hr : s = false := HB2k.out (by unfold edcB edV; rw [d1, d2, d3]; simp)
                subst hr
                clear t1 t2 v1
                clear HB1k HB2k HB3k HS HRt HCj HSE
                go_wp2_with (first | (go_at_call 48; with_reducible refine Calls.mono (Q0.out _) ?_; rintro e w7 ⟨rfl, rfl⟩) | (go_at_call 48; with_reducible refine Calls.mono (Q1.out _) ?_; rintro e w7 ⟨rfl, rfl⟩) | (go_at_call 71; with_reducible refine Calls.mono (Q2.out _) ?_; rintro e w7 ⟨rfl, rfl⟩) | (go_at_call 72; with_reducible refine Calls.mono (Q3.out _) ?_; rintro e w7 ⟨rfl, rfl⟩))
                go_ret
                exact ⟨by rw [HSEo.out] <;> rfl, hbo.alloc hbo.size _⟩
            · have d2 : (x.tp == 2) = false := beq_false_of_ne t2
              have hr : s = false := HB2k.out (by unfold edcB edV; rw [d1, d2]; simp)
              subst hr
              clear t1 t2
              clear HB1k HB2k HB3k HS HRt HCj HSE
              go_wp2_with (first | (go_at_call 48; with_reducible refine Calls.mono (Q0.out _) ?_; rintro e w7 ⟨rfl, rfl⟩) | (go_at_call 48; with_reducible refine Calls.mono (Q1.out _) ?_; rintro e w7 ⟨rfl, rfl⟩) | (go_at_call 71; with_reducible refine Calls.mono (Q2.out _) ?_; rintro e w7 ⟨rfl, rfl⟩) | (go_at_call 72; with_reducible refine Calls.mono (Q3.out _) ?_; rintro e w7 ⟨rfl, rfl⟩))
              go_ret
              exact ⟨by rw [HSEo.out] <;> rfl, hbo.alloc hbo.size _⟩
        · obtain rfl : k = l.length := by omega
          have hr := Lib.hid (HE.out HN.out)
          have hbo := hbw.trans (hbr.mono hbw.size)
          clear HC HL HE HB1 HB2 HB3 HN
          go_wp2_with fail
          go_ret
          exact ⟨by rw [hr.out] <;> rfl, hbo⟩
end Go.Proofs.YtjoffnbpaebgjaaGreat

namespace Go.Proofs.YtjoffnbpaebgjaaGreat
set_option linter.unusedVariables false
set_option linter.unusedSimpArgs false
open Go.RowKit

/-- The first error of the parts that a function has. -/
def whyK (b1 s b2 e b3 r : Bool) : Int := if b1 = false then 70 else if (s && !b2) = true then 71 else if (e && !b3) = true then 72 else if r = false then 2 else 0
set_option maxRecDepth 100000 in
set_option maxHeartbeats 1000000 in
theorem why_r (L : Int) (a : Option Addr) (js : List Int) (ca : Nat) (aa : Option Addr) (l : List Sgn) (cl : Nat) (ae : Option Addr) (q : List Edc) (cq : Nat) (q0 q1 q2 q3 : Int) (s e r : Bool) (w : World) (hI : IntsS w a js) (hA : SgnS w aa l) (hE : EdS w ae q) : Calls Tryz.prog 10 #[.agg #[.int .i64 L, .slice a js.length ca, .slice aa l.length cl, .slice ae q.length cq, .int .i64 q0, .int .i64 q1, .int .i64 q2, .int .i64 q3], .bool s, .bool e, .bool r] w fun e9 w' => e9 = .returned (.int .i64 (whyK (lineB L js) s (sgnsB L js l) e (edcsB L js q) r)) ∧ Below w.heap.size w w' := by
  have R1 := Lib.hid (fun W (hW : Below w.heap.size w W) => refValidLine_r L a js ca W (hI.below hW))
  have R2 := Lib.hid (fun W (hW : Below w.heap.size w W) => refValidSigns_r L a js ca aa l cl W (hI.below hW) (hA.below hW))
  have R3 := Lib.hid (fun W (hW : Below w.heap.size w W) => refValidEdicts_r L a js ca ae q cq W (hI.below hW) (hE.below hW))
  clear hI hA hE
  generalize lineB L js = b1 at *
  generalize sgnsB L js l = b2 at *
  generalize edcsB L js q = b3 at *
  cases b1 with
  | false =>
    go_enter Tryz.func10, Tryz.ntmps10
    go_wp2_with fail
    obtain ⟨wB, hwB⟩ : ∃ wB, w.alloc (.cells #[.int .i64 L, .slice a js.length ca, .slice aa l.length cl, .slice ae q.length cq, .int .i64 q0, .int .i64 q1, .int .i64 q2, .int .i64 q3] 28) = wB := ⟨_, rfl⟩
    have hb : Below w.heap.size w wB := by rw [← hwB]; exact (Below.refl _ _).alloc (Nat.le_refl _) _
    have p0 : wB.cell? ⟨w.heap.size, 0, none⟩ = some (.int .i64 L) := by rw [← hwB]; simp [go_sem]
    have p1 : wB.cell? ⟨w.heap.size, 1, none⟩ = some (.slice a js.length ca) := by rw [← hwB]; simp [go_sem]
    have p2 : wB.cell? ⟨w.heap.size, 2, none⟩ = some (.slice aa l.length cl) := by rw [← hwB]; simp [go_sem]
    have p3 : wB.cell? ⟨w.heap.size, 3, none⟩ = some (.slice ae q.length cq) := by rw [← hwB]; simp [go_sem]
    have p4 : wB.cell? ⟨w.heap.size, 4, none⟩ = some (.int .i64 q0) := by rw [← hwB]; simp [go_sem]
    have p5 : wB.cell? ⟨w.heap.size, 5, none⟩ = some (.int .i64 q1) := by rw [← hwB]; simp [go_sem]
    have p6 : wB.cell? ⟨w.heap.size, 6, none⟩ = some (.int .i64 q2) := by rw [← hwB]; simp [go_sem]
    have p7 : wB.cell? ⟨w.heap.size, 7, none⟩ = some (.int .i64 q3) := by rw [← hwB]; simp [go_sem]
    rw [hwB]
    clear hwB
    clear p4 p5 p6 p7
    go_wp2_with (first | (go_at_call 24; refine (R1.out _ hb).mono ?_; rintro e w9 ⟨rfl, hb9⟩; replace hb := hb.trans (hb9.mono hb.size); replace p0 := cell_below p0 hb9; replace p1 := cell_below p1 hb9; replace p2 := cell_below p2 hb9; replace p3 := cell_below p3 hb9; clear hb9) | (go_at_call 36; refine (R2.out _ hb).mono ?_; rintro e w9 ⟨rfl, hb9⟩; replace hb := hb.trans (hb9.mono hb.size); replace p0 := cell_below p0 hb9; replace p1 := cell_below p1 hb9; replace p2 := cell_below p2 hb9; replace p3 := cell_below p3 hb9; clear hb9) | (go_at_call 37; refine (R3.out _ hb).mono ?_; rintro e w9 ⟨rfl, hb9⟩; replace hb := hb.trans (hb9.mono hb.size); replace p0 := cell_below p0 hb9; replace p1 := cell_below p1 hb9; replace p2 := cell_below p2 hb9; replace p3 := cell_below p3 hb9; clear hb9))
    go_ret
    exact ⟨rfl, hb⟩
  | true =>
    cases s with
    | false =>
      cases e with
      | false =>
        cases r with
        | false =>
          go_enter Tryz.func10, Tryz.ntmps10
          go_wp2_with fail
          obtain ⟨wB, hwB⟩ : ∃ wB, w.alloc (.cells #[.int .i64 L, .slice a js.length ca, .slice aa l.length cl, .slice ae q.length cq, .int .i64 q0, .int .i64 q1, .int .i64 q2, .int .i64 q3] 28) = wB := ⟨_, rfl⟩
          have hb : Below w.heap.size w wB := by rw [← hwB]; exact (Below.refl _ _).alloc (Nat.le_refl _) _
          have p0 : wB.cell? ⟨w.heap.size, 0, none⟩ = some (.int .i64 L) := by rw [← hwB]; simp [go_sem]
          have p1 : wB.cell? ⟨w.heap.size, 1, none⟩ = some (.slice a js.length ca) := by rw [← hwB]; simp [go_sem]
          have p2 : wB.cell? ⟨w.heap.size, 2, none⟩ = some (.slice aa l.length cl) := by rw [← hwB]; simp [go_sem]
          have p3 : wB.cell? ⟨w.heap.size, 3, none⟩ = some (.slice ae q.length cq) := by rw [← hwB]; simp [go_sem]
          have p4 : wB.cell? ⟨w.heap.size, 4, none⟩ = some (.int .i64 q0) := by rw [← hwB]; simp [go_sem]
          have p5 : wB.cell? ⟨w.heap.size, 5, none⟩ = some (.int .i64 q1) := by rw [← hwB]; simp [go_sem]
          have p6 : wB.cell? ⟨w.heap.size, 6, none⟩ = some (.int .i64 q2) := by rw [← hwB]; simp [go_sem]
          have p7 : wB.cell? ⟨w.heap.size, 7, none⟩ = some (.int .i64 q3) := by rw [← hwB]; simp [go_sem]
          rw [hwB]
          clear hwB
          clear p4 p5 p6 p7
          go_wp2_with (first | (go_at_call 24; refine (R1.out _ hb).mono ?_; rintro e w9 ⟨rfl, hb9⟩; replace hb := hb.trans (hb9.mono hb.size); replace p0 := cell_below p0 hb9; replace p1 := cell_below p1 hb9; replace p2 := cell_below p2 hb9; replace p3 := cell_below p3 hb9; clear hb9) | (go_at_call 36; refine (R2.out _ hb).mono ?_; rintro e w9 ⟨rfl, hb9⟩; replace hb := hb.trans (hb9.mono hb.size); replace p0 := cell_below p0 hb9; replace p1 := cell_below p1 hb9; replace p2 := cell_below p2 hb9; replace p3 := cell_below p3 hb9; clear hb9) | (go_at_call 37; refine (R3.out _ hb).mono ?_; rintro e w9 ⟨rfl, hb9⟩; replace hb := hb.trans (hb9.mono hb.size); replace p0 := cell_below p0 hb9; replace p1 := cell_below p1 hb9; replace p2 := cell_below p2 hb9; replace p3 := cell_below p3 hb9; clear hb9))
          go_ret
          exact ⟨rfl, hb⟩
        | true =>
          go_enter Tryz.func10, Tryz.ntmps10
          go_wp2_with fail
          obtain ⟨wB, hwB⟩ : ∃ wB, w.alloc (.cells #[.int .i64 L, .slice a js.length ca, .slice aa l.length cl, .slice ae q.length cq, .int .i64 q0, .int .i64 q1, .int .i64 q2, .int .i64 q3] 28) = wB := ⟨_, rfl⟩
          have hb : Below w.heap.size w wB := by rw [← hwB]; exact (Below.refl _ _).alloc (Nat.le_refl _) _
          have p0 : wB.cell? ⟨w.heap.size, 0, none⟩ = some (.int .i64 L) := by rw [← hwB]; simp [go_sem]
          have p1 : wB.cell? ⟨w.heap.size, 1, none⟩ = some (.slice a js.length ca) := by rw [← hwB]; simp [go_sem]
          have p2 : wB.cell? ⟨w.heap.size, 2, none⟩ = some (.slice aa l.length cl) := by rw [← hwB]; simp [go_sem]
          have p3 : wB.cell? ⟨w.heap.size, 3, none⟩ = some (.slice ae q.length cq) := by rw [← hwB]; simp [go_sem]
          have p4 : wB.cell? ⟨w.heap.size, 4, none⟩ = some (.int .i64 q0) := by rw [← hwB]; simp [go_sem]
          have p5 : wB.cell? ⟨w.heap.size, 5, none⟩ = some (.int .i64 q1) := by rw [← hwB]; simp [go_sem]
          have p6 : wB.cell? ⟨w.heap.size, 6, none⟩ = some (.int .i64 q2) := by rw [← hwB]; simp [go_sem]
          have p7 : wB.cell? ⟨w.heap.size, 7, none⟩ = some (.int .i64 q3) := by rw [← hwB]; simp [go_sem]
          rw [hwB]
          clear hwB
          clear p4 p5 p6 p7
          go_wp2_with (first | (go_at_call 24; refine (R1.out _ hb).mono ?_; rintro e w9 ⟨rfl, hb9⟩; replace hb := hb.trans (hb9.mono hb.size); replace p0 := cell_below p0 hb9; replace p1 := cell_below p1 hb9; replace p2 := cell_below p2 hb9; replace p3 := cell_below p3 hb9; clear hb9) | (go_at_call 36; refine (R2.out _ hb).mono ?_; rintro e w9 ⟨rfl, hb9⟩; replace hb := hb.trans (hb9.mono hb.size); replace p0 := cell_below p0 hb9; replace p1 := cell_below p1 hb9; replace p2 := cell_below p2 hb9; replace p3 := cell_below p3 hb9; clear hb9) | (go_at_call 37; refine (R3.out _ hb).mono ?_; rintro e w9 ⟨rfl, hb9⟩; replace hb := hb.trans (hb9.mono hb.size); replace p0 := cell_below p0 hb9; replace p1 := cell_below p1 hb9; replace p2 := cell_below p2 hb9; replace p3 := cell_below p3 hb9; clear hb9))
          go_ret
          exact ⟨rfl, hb⟩
      | true =>
        cases b3 with
        | false =>
          go_enter Tryz.func10, Tryz.ntmps10
          go_wp2_with fail
          obtain ⟨wB, hwB⟩ : ∃ wB, w.alloc (.cells #[.int .i64 L, .slice a js.length ca, .slice aa l.length cl, .slice ae q.length cq, .int .i64 q0, .int .i64 q1, .int .i64 q2, .int .i64 q3] 28) = wB := ⟨_, rfl⟩
          have hb : Below w.heap.size w wB := by rw [← hwB]; exact (Below.refl _ _).alloc (Nat.le_refl _) _
          have p0 : wB.cell? ⟨w.heap.size, 0, none⟩ = some (.int .i64 L) := by rw [← hwB]; simp [go_sem]
          have p1 : wB.cell? ⟨w.heap.size, 1, none⟩ = some (.slice a js.length ca) := by rw [← hwB]; simp [go_sem]
          have p2 : wB.cell? ⟨w.heap.size, 2, none⟩ = some (.slice aa l.length cl) := by rw [← hwB]; simp [go_sem]
          have p3 : wB.cell? ⟨w.heap.size, 3, none⟩ = some (.slice ae q.length cq) := by rw [← hwB]; simp [go_sem]
          have p4 : wB.cell? ⟨w.heap.size, 4, none⟩ = some (.int .i64 q0) := by rw [← hwB]; simp [go_sem]
          have p5 : wB.cell? ⟨w.heap.size, 5, none⟩ = some (.int .i64 q1) := by rw [← hwB]; simp [go_sem]
          have p6 : wB.cell? ⟨w.heap.size, 6, none⟩ = some (.int .i64 q2) := by rw [← hwB]; simp [go_sem]
          have p7 : wB.cell? ⟨w.heap.size, 7, none⟩ = some (.int .i64 q3) := by rw [← hwB]; simp [go_sem]
          rw [hwB]
          clear hwB
          clear p4 p5 p6 p7
          go_wp2_with (first | (go_at_call 24; refine (R1.out _ hb).mono ?_; rintro e w9 ⟨rfl, hb9⟩; replace hb := hb.trans (hb9.mono hb.size); replace p0 := cell_below p0 hb9; replace p1 := cell_below p1 hb9; replace p2 := cell_below p2 hb9; replace p3 := cell_below p3 hb9; clear hb9) | (go_at_call 36; refine (R2.out _ hb).mono ?_; rintro e w9 ⟨rfl, hb9⟩; replace hb := hb.trans (hb9.mono hb.size); replace p0 := cell_below p0 hb9; replace p1 := cell_below p1 hb9; replace p2 := cell_below p2 hb9; replace p3 := cell_below p3 hb9; clear hb9) | (go_at_call 37; refine (R3.out _ hb).mono ?_; rintro e w9 ⟨rfl, hb9⟩; replace hb := hb.trans (hb9.mono hb.size); replace p0 := cell_below p0 hb9; replace p1 := cell_below p1 hb9; replace p2 := cell_below p2 hb9; replace p3 := cell_below p3 hb9; clear hb9))
          go_ret
          exact ⟨rfl, hb⟩
        | true =>
          cases r with
          | false =>
            go_enter Tryz.func10, Tryz.ntmps10
            go_wp2_with fail
            obtain ⟨wB, hwB⟩ : ∃ wB, w.alloc (.cells #[.int .i64 L, .slice a js.length ca, .slice aa l.length cl, .slice ae q.length cq, .int .i64 q0, .int .i64 q1, .int .i64 q2, .int .i64 q3] 28) = wB := ⟨_, rfl⟩
            have hb : Below w.heap.size w wB := by rw [← hwB]; exact (Below.refl _ _).alloc (Nat.le_refl _) _
            have p0 : wB.cell? ⟨w.heap.size, 0, none⟩ = some (.int .i64 L) := by rw [← hwB]; simp [go_sem]
            have p1 : wB.cell? ⟨w.heap.size, 1, none⟩ = some (.slice a js.length ca) := by rw [← hwB]; simp [go_sem]
            have p2 : wB.cell? ⟨w.heap.size, 2, none⟩ = some (.slice aa l.length cl) := by rw [← hwB]; simp [go_sem]
            have p3 : wB.cell? ⟨w.heap.size, 3, none⟩ = some (.slice ae q.length cq) := by rw [← hwB]; simp [go_sem]
            have p4 : wB.cell? ⟨w.heap.size, 4, none⟩ = some (.int .i64 q0) := by rw [← hwB]; simp [go_sem]
            have p5 : wB.cell? ⟨w.heap.size, 5, none⟩ = some (.int .i64 q1) := by rw [← hwB]; simp [go_sem]
            have p6 : wB.cell? ⟨w.heap.size, 6, none⟩ = some (.int .i64 q2) := by rw [← hwB]; simp [go_sem]
            have p7 : wB.cell? ⟨w.heap.size, 7, none⟩ = some (.int .i64 q3) := by rw [← hwB]; simp [go_sem]
            rw [hwB]
            clear hwB
            clear p4 p5 p6 p7
            go_wp2_with (first | (go_at_call 24; refine (R1.out _ hb).mono ?_; rintro e w9 ⟨rfl, hb9⟩; replace hb := hb.trans (hb9.mono hb.size); replace p0 := cell_below p0 hb9; replace p1 := cell_below p1 hb9; replace p2 := cell_below p2 hb9; replace p3 := cell_below p3 hb9; clear hb9) | (go_at_call 36; refine (R2.out _ hb).mono ?_; rintro e w9 ⟨rfl, hb9⟩; replace hb := hb.trans (hb9.mono hb.size); replace p0 := cell_below p0 hb9; replace p1 := cell_below p1 hb9; replace p2 := cell_below p2 hb9; replace p3 := cell_below p3 hb9; clear hb9) | (go_at_call 37; refine (R3.out _ hb).mono ?_; rintro e w9 ⟨rfl, hb9⟩; replace hb := hb.trans (hb9.mono hb.size); replace p0 := cell_below p0 hb9; replace p1 := cell_below p1 hb9; replace p2 := cell_below p2 hb9; replace p3 := cell_below p3 hb9; clear hb9))
            go_ret
            exact ⟨rfl, hb⟩
          | true =>
            go_enter Tryz.func10, Tryz.ntmps10
            go_wp2_with fail
            obtain ⟨wB, hwB⟩ : ∃ wB, w.alloc (.cells #[.int .i64 L, .slice a js.length ca, .slice aa l.length cl, .slice ae q.length cq, .int .i64 q0, .int .i64 q1, .int .i64 q2, .int .i64 q3] 28) = wB := ⟨_, rfl⟩
            have hb : Below w.heap.size w wB := by rw [← hwB]; exact (Below.refl _ _).alloc (Nat.le_refl _) _
            have p0 : wB.cell? ⟨w.heap.size, 0, none⟩ = some (.int .i64 L) := by rw [← hwB]; simp [go_sem]
            have p1 : wB.cell? ⟨w.heap.size, 1, none⟩ = some (.slice a js.length ca) := by rw [← hwB]; simp [go_sem]
            have p2 : wB.cell? ⟨w.heap.size, 2, none⟩ = some (.slice aa l.length cl) := by rw [← hwB]; simp [go_sem]
            have p3 : wB.cell? ⟨w.heap.size, 3, none⟩ = some (.slice ae q.length cq) := by rw [← hwB]; simp [go_sem]
            have p4 : wB.cell? ⟨w.heap.size, 4, none⟩ = some (.int .i64 q0) := by rw [← hwB]; simp [go_sem]
            have p5 : wB.cell? ⟨w.heap.size, 5, none⟩ = some (.int .i64 q1) := by rw [← hwB]; simp [go_sem]
            have p6 : wB.cell? ⟨w.heap.size, 6, none⟩ = some (.int .i64 q2) := by rw [← hwB]; simp [go_sem]
            have p7 : wB.cell? ⟨w.heap.size, 7, none⟩ = some (.int .i64 q3) := by rw [← hwB]; simp [go_sem]
            rw [hwB]
            clear hwB
            clear p4 p5 p6 p7
            go_wp2_with (first | (go_at_call 24; refine (R1.out _ hb).mono ?_; rintro e w9 ⟨rfl, hb9⟩; replace hb := hb.trans (hb9.mono hb.size); replace p0 := cell_below p0 hb9; replace p1 := cell_below p1 hb9; replace p2 := cell_below p2 hb9; replace p3 := cell_below p3 hb9; clear hb9) | (go_at_call 36; refine (R2.out _ hb).mono ?_; rintro e w9 ⟨rfl, hb9⟩; replace hb := hb.trans (hb9.mono hb.size); replace p0 := cell_below p0 hb9; replace p1 := cell_below p1 hb9; replace p2 := cell_below p2 hb9; replace p3 := cell_below p3 hb9; clear hb9) | (go_at_call 37; refine (R3.out _ hb).mono ?_; rintro e w9 ⟨rfl, hb9⟩; replace hb := hb.trans (hb9.mono hb.size); replace p0 := cell_below p0 hb9; replace p1 := cell_below p1 hb9; replace p2 := cell_below p2 hb9; replace p3 := cell_below p3 hb9; clear hb9))
            go_ret
            exact ⟨rfl, hb⟩
    | true =>
      cases b2 with
      | false =>
        go_enter Tryz.func10, Tryz.ntmps10
        go_wp2_with fail
        obtain ⟨wB, hwB⟩ : ∃ wB, w.alloc (.cells #[.int .i64 L, .slice a js.length ca, .slice aa l.length cl, .slice ae q.length cq, .int .i64 q0, .int .i64 q1, .int .i64 q2, .int .i64 q3] 28) = wB := ⟨_, rfl⟩
        have hb : Below w.heap.size w wB := by rw [← hwB]; exact (Below.refl _ _).alloc (Nat.le_refl _) _
        have p0 : wB.cell? ⟨w.heap.size, 0, none⟩ = some (.int .i64 L) := by rw [← hwB]; simp [go_sem]
        have p1 : wB.cell? ⟨w.heap.size, 1, none⟩ = some (.slice a js.length ca) := by rw [← hwB]; simp [go_sem]
        have p2 : wB.cell? ⟨w.heap.size, 2, none⟩ = some (.slice aa l.length cl) := by rw [← hwB]; simp [go_sem]
        have p3 : wB.cell? ⟨w.heap.size, 3, none⟩ = some (.slice ae q.length cq) := by rw [← hwB]; simp [go_sem]
        have p4 : wB.cell? ⟨w.heap.size, 4, none⟩ = some (.int .i64 q0) := by rw [← hwB]; simp [go_sem]
        have p5 : wB.cell? ⟨w.heap.size, 5, none⟩ = some (.int .i64 q1) := by rw [← hwB]; simp [go_sem]
        have p6 : wB.cell? ⟨w.heap.size, 6, none⟩ = some (.int .i64 q2) := by rw [← hwB]; simp [go_sem]
        have p7 : wB.cell? ⟨w.heap.size, 7, none⟩ = some (.int .i64 q3) := by rw [← hwB]; simp [go_sem]
        rw [hwB]
        clear hwB
        clear p4 p5 p6 p7
        go_wp2_with (first | (go_at_call 24; refine (R1.out _ hb).mono ?_; rintro e w9 ⟨rfl, hb9⟩; replace hb := hb.trans (hb9.mono hb.size); replace p0 := cell_below p0 hb9; replace p1 := cell_below p1 hb9; replace p2 := cell_below p2 hb9; replace p3 := cell_below p3 hb9; clear hb9) | (go_at_call 36; refine (R2.out _ hb).mono ?_; rintro e w9 ⟨rfl, hb9⟩; replace hb := hb.trans (hb9.mono hb.size); replace p0 := cell_below p0 hb9; replace p1 := cell_below p1 hb9; replace p2 := cell_below p2 hb9; replace p3 := cell_below p3 hb9; clear hb9) | (go_at_call 37; refine (R3.out _ hb).mono ?_; rintro e w9 ⟨rfl, hb9⟩; replace hb := hb.trans (hb9.mono hb.size); replace p0 := cell_below p0 hb9; replace p1 := cell_below p1 hb9; replace p2 := cell_below p2 hb9; replace p3 := cell_below p3 hb9; clear hb9))
        go_ret
        exact ⟨rfl, hb⟩
      | true =>
        cases e with
        | false =>
          cases r with
          | false =>
            go_enter Tryz.func10, Tryz.ntmps10
            go_wp2_with fail
            obtain ⟨wB, hwB⟩ : ∃ wB, w.alloc (.cells #[.int .i64 L, .slice a js.length ca, .slice aa l.length cl, .slice ae q.length cq, .int .i64 q0, .int .i64 q1, .int .i64 q2, .int .i64 q3] 28) = wB := ⟨_, rfl⟩
            have hb : Below w.heap.size w wB := by rw [← hwB]; exact (Below.refl _ _).alloc (Nat.le_refl _) _
            have p0 : wB.cell? ⟨w.heap.size, 0, none⟩ = some (.int .i64 L) := by rw [← hwB]; simp [go_sem]
            have p1 : wB.cell? ⟨w.heap.size, 1, none⟩ = some (.slice a js.length ca) := by rw [← hwB]; simp [go_sem]
            have p2 : wB.cell? ⟨w.heap.size, 2, none⟩ = some (.slice aa l.length cl) := by rw [← hwB]; simp [go_sem]
            have p3 : wB.cell? ⟨w.heap.size, 3, none⟩ = some (.slice ae q.length cq) := by rw [← hwB]; simp [go_sem]
            have p4 : wB.cell? ⟨w.heap.size, 4, none⟩ = some (.int .i64 q0) := by rw [← hwB]; simp [go_sem]
            have p5 : wB.cell? ⟨w.heap.size, 5, none⟩ = some (.int .i64 q1) := by rw [← hwB]; simp [go_sem]
            have p6 : wB.cell? ⟨w.heap.size, 6, none⟩ = some (.int .i64 q2) := by rw [← hwB]; simp [go_sem]
            have p7 : wB.cell? ⟨w.heap.size, 7, none⟩ = some (.int .i64 q3) := by rw [← hwB]; simp [go_sem]
            rw [hwB]
            clear hwB
            clear p4 p5 p6 p7
            go_wp2_with (first | (go_at_call 24; refine (R1.out _ hb).mono ?_; rintro e w9 ⟨rfl, hb9⟩; replace hb := hb.trans (hb9.mono hb.size); replace p0 := cell_below p0 hb9; replace p1 := cell_below p1 hb9; replace p2 := cell_below p2 hb9; replace p3 := cell_below p3 hb9; clear hb9) | (go_at_call 36; refine (R2.out _ hb).mono ?_; rintro e w9 ⟨rfl, hb9⟩; replace hb := hb.trans (hb9.mono hb.size); replace p0 := cell_below p0 hb9; replace p1 := cell_below p1 hb9; replace p2 := cell_below p2 hb9; replace p3 := cell_below p3 hb9; clear hb9) | (go_at_call 37; refine (R3.out _ hb).mono ?_; rintro e w9 ⟨rfl, hb9⟩; replace hb := hb.trans (hb9.mono hb.size); replace p0 := cell_below p0 hb9; replace p1 := cell_below p1 hb9; replace p2 := cell_below p2 hb9; replace p3 := cell_below p3 hb9; clear hb9))
            go_ret
            exact ⟨rfl, hb⟩
          | true =>
            go_enter Tryz.func10, Tryz.ntmps10
            go_wp2_with fail
            obtain ⟨wB, hwB⟩ : ∃ wB, w.alloc (.cells #[.int .i64 L, .slice a js.length ca, .slice aa l.length cl, .slice ae q.length cq, .int .i64 q0, .int .i64 q1, .int .i64 q2, .int .i64 q3] 28) = wB := ⟨_, rfl⟩
            have hb : Below w.heap.size w wB := by rw [← hwB]; exact (Below.refl _ _).alloc (Nat.le_refl _) _
            have p0 : wB.cell? ⟨w.heap.size, 0, none⟩ = some (.int .i64 L) := by rw [← hwB]; simp [go_sem]
            have p1 : wB.cell? ⟨w.heap.size, 1, none⟩ = some (.slice a js.length ca) := by rw [← hwB]; simp [go_sem]
            have p2 : wB.cell? ⟨w.heap.size, 2, none⟩ = some (.slice aa l.length cl) := by rw [← hwB]; simp [go_sem]
            have p3 : wB.cell? ⟨w.heap.size, 3, none⟩ = some (.slice ae q.length cq) := by rw [← hwB]; simp [go_sem]
            have p4 : wB.cell? ⟨w.heap.size, 4, none⟩ = some (.int .i64 q0) := by rw [← hwB]; simp [go_sem]
            have p5 : wB.cell? ⟨w.heap.size, 5, none⟩ = some (.int .i64 q1) := by rw [← hwB]; simp [go_sem]
            have p6 : wB.cell? ⟨w.heap.size, 6, none⟩ = some (.int .i64 q2) := by rw [← hwB]; simp [go_sem]
            have p7 : wB.cell? ⟨w.heap.size, 7, none⟩ = some (.int .i64 q3) := by rw [← hwB]; simp [go_sem]
            rw [hwB]
            clear hwB
            clear p4 p5 p6 p7
            go_wp2_with (first | (go_at_call 24; refine (R1.out _ hb).mono ?_; rintro e w9 ⟨rfl, hb9⟩; replace hb := hb.trans (hb9.mono hb.size); replace p0 := cell_below p0 hb9; replace p1 := cell_below p1 hb9; replace p2 := cell_below p2 hb9; replace p3 := cell_below p3 hb9; clear hb9) | (go_at_call 36; refine (R2.out _ hb).mono ?_; rintro e w9 ⟨rfl, hb9⟩; replace hb := hb.trans (hb9.mono hb.size); replace p0 := cell_below p0 hb9; replace p1 := cell_below p1 hb9; replace p2 := cell_below p2 hb9; replace p3 := cell_below p3 hb9; clear hb9) | (go_at_call 37; refine (R3.out _ hb).mono ?_; rintro e w9 ⟨rfl, hb9⟩; replace hb := hb.trans (hb9.mono hb.size); replace p0 := cell_below p0 hb9; replace p1 := cell_below p1 hb9; replace p2 := cell_below p2 hb9; replace p3 := cell_below p3 hb9; clear hb9))
            go_ret
            exact ⟨rfl, hb⟩
        | true =>
          cases b3 with
          | false =>
            go_enter Tryz.func10, Tryz.ntmps10
            go_wp2_with fail
            obtain ⟨wB, hwB⟩ : ∃ wB, w.alloc (.cells #[.int .i64 L, .slice a js.length ca, .slice aa l.length cl, .slice ae q.length cq, .int .i64 q0, .int .i64 q1, .int .i64 q2, .int .i64 q3] 28) = wB := ⟨_, rfl⟩
            have hb : Below w.heap.size w wB := by rw [← hwB]; exact (Below.refl _ _).alloc (Nat.le_refl _) _
            have p0 : wB.cell? ⟨w.heap.size, 0, none⟩ = some (.int .i64 L) := by rw [← hwB]; simp [go_sem]
            have p1 : wB.cell? ⟨w.heap.size, 1, none⟩ = some (.slice a js.length ca) := by rw [← hwB]; simp [go_sem]
            have p2 : wB.cell? ⟨w.heap.size, 2, none⟩ = some (.slice aa l.length cl) := by rw [← hwB]; simp [go_sem]
            have p3 : wB.cell? ⟨w.heap.size, 3, none⟩ = some (.slice ae q.length cq) := by rw [← hwB]; simp [go_sem]
            have p4 : wB.cell? ⟨w.heap.size, 4, none⟩ = some (.int .i64 q0) := by rw [← hwB]; simp [go_sem]
            have p5 : wB.cell? ⟨w.heap.size, 5, none⟩ = some (.int .i64 q1) := by rw [← hwB]; simp [go_sem]
            have p6 : wB.cell? ⟨w.heap.size, 6, none⟩ = some (.int .i64 q2) := by rw [← hwB]; simp [go_sem]
            have p7 : wB.cell? ⟨w.heap.size, 7, none⟩ = some (.int .i64 q3) := by rw [← hwB]; simp [go_sem]
            rw [hwB]
            clear hwB
            clear p4 p5 p6 p7
            go_wp2_with (first | (go_at_call 24; refine (R1.out _ hb).mono ?_; rintro e w9 ⟨rfl, hb9⟩; replace hb := hb.trans (hb9.mono hb.size); replace p0 := cell_below p0 hb9; replace p1 := cell_below p1 hb9; replace p2 := cell_below p2 hb9; replace p3 := cell_below p3 hb9; clear hb9) | (go_at_call 36; refine (R2.out _ hb).mono ?_; rintro e w9 ⟨rfl, hb9⟩; replace hb := hb.trans (hb9.mono hb.size); replace p0 := cell_below p0 hb9; replace p1 := cell_below p1 hb9; replace p2 := cell_below p2 hb9; replace p3 := cell_below p3 hb9; clear hb9) | (go_at_call 37; refine (R3.out _ hb).mono ?_; rintro e w9 ⟨rfl, hb9⟩; replace hb := hb.trans (hb9.mono hb.size); replace p0 := cell_below p0 hb9; replace p1 := cell_below p1 hb9; replace p2 := cell_below p2 hb9; replace p3 := cell_below p3 hb9; clear hb9))
            go_ret
            exact ⟨rfl, hb⟩
          | true =>
            cases r with
            | false =>
              go_enter Tryz.func10, Tryz.ntmps10
              go_wp2_with fail
              obtain ⟨wB, hwB⟩ : ∃ wB, w.alloc (.cells #[.int .i64 L, .slice a js.length ca, .slice aa l.length cl, .slice ae q.length cq, .int .i64 q0, .int .i64 q1, .int .i64 q2, .int .i64 q3] 28) = wB := ⟨_, rfl⟩
              have hb : Below w.heap.size w wB := by rw [← hwB]; exact (Below.refl _ _).alloc (Nat.le_refl _) _
              have p0 : wB.cell? ⟨w.heap.size, 0, none⟩ = some (.int .i64 L) := by rw [← hwB]; simp [go_sem]
              have p1 : wB.cell? ⟨w.heap.size, 1, none⟩ = some (.slice a js.length ca) := by rw [← hwB]; simp [go_sem]
              have p2 : wB.cell? ⟨w.heap.size, 2, none⟩ = some (.slice aa l.length cl) := by rw [← hwB]; simp [go_sem]
              have p3 : wB.cell? ⟨w.heap.size, 3, none⟩ = some (.slice ae q.length cq) := by rw [← hwB]; simp [go_sem]
              have p4 : wB.cell? ⟨w.heap.size, 4, none⟩ = some (.int .i64 q0) := by rw [← hwB]; simp [go_sem]
              have p5 : wB.cell? ⟨w.heap.size, 5, none⟩ = some (.int .i64 q1) := by rw [← hwB]; simp [go_sem]
              have p6 : wB.cell? ⟨w.heap.size, 6, none⟩ = some (.int .i64 q2) := by rw [← hwB]; simp [go_sem]
              have p7 : wB.cell? ⟨w.heap.size, 7, none⟩ = some (.int .i64 q3) := by rw [← hwB]; simp [go_sem]
              rw [hwB]
              clear hwB
              clear p4 p5 p6 p7
              go_wp2_with (first | (go_at_call 24; refine (R1.out _ hb).mono ?_; rintro e w9 ⟨rfl, hb9⟩; replace hb := hb.trans (hb9.mono hb.size); replace p0 := cell_below p0 hb9; replace p1 := cell_below p1 hb9; replace p2 := cell_below p2 hb9; replace p3 := cell_below p3 hb9; clear hb9) | (go_at_call 36; refine (R2.out _ hb).mono ?_; rintro e w9 ⟨rfl, hb9⟩; replace hb := hb.trans (hb9.mono hb.size); replace p0 := cell_below p0 hb9; replace p1 := cell_below p1 hb9; replace p2 := cell_below p2 hb9; replace p3 := cell_below p3 hb9; clear hb9) | (go_at_call 37; refine (R3.out _ hb).mono ?_; rintro e w9 ⟨rfl, hb9⟩; replace hb := hb.trans (hb9.mono hb.size); replace p0 := cell_below p0 hb9; replace p1 := cell_below p1 hb9; replace p2 := cell_below p2 hb9; replace p3 := cell_below p3 hb9; clear hb9))
              go_ret
              exact ⟨rfl, hb⟩
            | true =>
              go_enter Tryz.func10, Tryz.ntmps10
              go_wp2_with fail
              obtain ⟨wB, hwB⟩ : ∃ wB, w.alloc (.cells #[.int .i64 L, .slice a js.length ca, .slice aa l.length cl, .slice ae q.length cq, .int .i64 q0, .int .i64 q1, .int .i64 q2, .int .i64 q3] 28) = wB := ⟨_, rfl⟩
              have hb : Below w.heap.size w wB := by rw [← hwB]; exact (Below.refl _ _).alloc (Nat.le_refl _) _
              have p0 : wB.cell? ⟨w.heap.size, 0, none⟩ = some (.int .i64 L) := by rw [← hwB]; simp [go_sem]
              have p1 : wB.cell? ⟨w.heap.size, 1, none⟩ = some (.slice a js.length ca) := by rw [← hwB]; simp [go_sem]
              have p2 : wB.cell? ⟨w.heap.size, 2, none⟩ = some (.slice aa l.length cl) := by rw [← hwB]; simp [go_sem]
              have p3 : wB.cell? ⟨w.heap.size, 3, none⟩ = some (.slice ae q.length cq) := by rw [← hwB]; simp [go_sem]
              have p4 : wB.cell? ⟨w.heap.size, 4, none⟩ = some (.int .i64 q0) := by rw [← hwB]; simp [go_sem]
              have p5 : wB.cell? ⟨w.heap.size, 5, none⟩ = some (.int .i64 q1) := by rw [← hwB]; simp [go_sem]
              have p6 : wB.cell? ⟨w.heap.size, 6, none⟩ = some (.int .i64 q2) := by rw [← hwB]; simp [go_sem]
              have p7 : wB.cell? ⟨w.heap.size, 7, none⟩ = some (.int .i64 q3) := by rw [← hwB]; simp [go_sem]
              rw [hwB]
              clear hwB
              clear p4 p5 p6 p7
              go_wp2_with (first | (go_at_call 24; refine (R1.out _ hb).mono ?_; rintro e w9 ⟨rfl, hb9⟩; replace hb := hb.trans (hb9.mono hb.size); replace p0 := cell_below p0 hb9; replace p1 := cell_below p1 hb9; replace p2 := cell_below p2 hb9; replace p3 := cell_below p3 hb9; clear hb9) | (go_at_call 36; refine (R2.out _ hb).mono ?_; rintro e w9 ⟨rfl, hb9⟩; replace hb := hb.trans (hb9.mono hb.size); replace p0 := cell_below p0 hb9; replace p1 := cell_below p1 hb9; replace p2 := cell_below p2 hb9; replace p3 := cell_below p3 hb9; clear hb9) | (go_at_call 37; refine (R3.out _ hb).mono ?_; rintro e w9 ⟨rfl, hb9⟩; replace hb := hb.trans (hb9.mono hb.size); replace p0 := cell_below p0 hb9; replace p1 := cell_below p1 hb9; replace p2 := cell_below p2 hb9; replace p3 := cell_below p3 hb9; clear hb9))
              go_ret
              exact ⟨rfl, hb⟩
set_option maxRecDepth 100000 in
set_option maxHeartbeats 1000000 in
theorem hour_r (h : Int) (w : World) : Calls Tryz.prog 40 #[.int .i64 h] w fun e w' => e = .returned (.bool (btw h 0 10000000)) ∧ w = w' := by
  by_cases h1 : 0 ≤ h
  · by_cases h2 : h ≤ 10000000
    · have hr : Hid (btw h 0 10000000 = true) := Lib.hid ((btw_iff _ _ _).2 ⟨h1, h2⟩)
      go_enter Tryz.func40, Tryz.ntmps40
      go_wp2_with fail
      go_ret
      exact ⟨by rw [hr.out] <;> rfl, rfl⟩
    · have hr : Hid (btw h 0 10000000 = false) := Lib.hid (by unfold btw; rw [decide_eq_false h2, Bool.and_false])
      go_enter Tryz.func40, Tryz.ntmps40
      go_wp2_with fail
      go_ret
      exact ⟨by rw [hr.out] <;> rfl, rfl⟩
  · have hr : Hid (btw h 0 10000000 = false) := Lib.hid (by unfold btw; rw [decide_eq_false h1, Bool.false_and])
    go_enter Tryz.func40, Tryz.ntmps40
    go_wp2_with fail
    go_ret
    exact ⟨by rw [hr.out] <;> rfl, rfl⟩
set_option maxRecDepth 100000 in
set_option maxHeartbeats 1000000 in
theorem way_r (d : Int) (w : World) : Calls Tryz.prog 11 #[.int .i64 d] w fun e w' => e = .returned (.bool (dirB d)) ∧ w = w' := by
  by_cases h1 : d = 1
  · subst h1
    go_enter Tryz.func11, Tryz.ntmps11
    go_wp2_with fail
    go_ret
    exact ⟨rfl, rfl⟩
  · have d1 : (d == 1) = false := beq_false_of_ne h1
    have hr : Hid (dirB d = (d == -1)) := Lib.hid (by unfold dirB; rw [d1, Bool.false_or])
    clear h1
    go_enter Tryz.func11, Tryz.ntmps11
    go_wp2_with fail
    go_ret
    exact ⟨by rw [hr.out] <;> rfl, rfl⟩
end Go.Proofs.YtjoffnbpaebgjaaGreat

namespace Go.Proofs.YtjoffnbpaebgjaaGreat
set_option linter.unusedVariables false
set_option linter.unusedSimpArgs false
open Go.RowKit

theorem nil_nums : numB [] = true := by
  have e3 : srt ([] : List Int) = [] := by simp [srt]
  unfold numB
  rw [e3]
  decide
theorem edcs_nil (L : Int) (js : List Int) : edcsB L js [] = lineB L js := by
  have e2 : nosE [] ([] : List Edc).length = [] := rfl
  unfold edcsB
  rw [e2, nil_nums]
  cases lineB L js <;> rfl
theorem sgns_nil (L : Int) (js : List Int) : sgnsB L js [] = lineB L js := by
  have e2 : nosK [] ([] : List Sgn).length = [] := rfl
  unfold sgnsB
  rw [e2, nil_nums]
  cases lineB L js <;> rfl
theorem sgns_line {L : Int} {js : List Int} {l : List Sgn} (h : sgnsB L js l = true) : lineB L js = true := by
  unfold sgnsB at h
  simp only [Bool.and_eq_true] at h
  exact h.1.1.1
theorem edcs_line {L : Int} {js : List Int} {l : List Edc} (h : edcsB L js l = true) : lineB L js = true := by
  unfold edcsB at h
  simp only [Bool.and_eq_true] at h
  exact h.1.1.1
/-- Signs alone. -/
theorem lst_s (L : Int) (js : List Int) (l : List Sgn) (e b3 r : Bool) : (lstE L js l [] ≠ 0 → whyK (lineB L js) true (sgnsB L js l) false b3 r = lstE L js l []) ∧ (lstE L js l [] = 0 → whyK (lineB L js) true (sgnsB L js l) false b3 r = if r = false then 2 else 0) := by
  unfold lstE whyK
  rw [edcs_nil]
  cases lineB L js <;> cases sgnsB L js l <;> cases r <;> cases b3 <;> decide
/-- Edicts alone. -/
theorem lst_e (L : Int) (js : List Int) (q : List Edc) (b2 r : Bool) : (lstE L js [] q ≠ 0 → whyK (lineB L js) false b2 true (edcsB L js q) r = lstE L js [] q) ∧ (lstE L js [] q = 0 → whyK (lineB L js) false b2 true (edcsB L js q) r = if r = false then 2 else 0) := by
  unfold lstE whyK
  rw [sgns_nil]
  cases lineB L js <;> cases edcsB L js q <;> cases r <;> cases b2 <;> decide
/-- Both. -/
theorem lst_se (L : Int) (js : List Int) (l : List Sgn) (q : List Edc) (r : Bool) : (lstE L js l q ≠ 0 → whyK (lineB L js) true (sgnsB L js l) true (edcsB L js q) r = lstE L js l q) ∧ (lstE L js l q = 0 → whyK (lineB L js) true (sgnsB L js l) true (edcsB L js q) r = if r = false then 2 else 0) := by
  unfold lstE whyK
  cases lineB L js <;> cases sgnsB L js l <;> cases edcsB L js q <;> cases r <;> decide
/-- The numbers of good signs. -/
theorem sgn_nums {L : Int} {js : List Int} {l : List Sgn} (h : sgnsB L js l = true) : (∀ k, k < l.length → 1 ≤ (gs l k).n ∧ (gs l k).n ≤ 1000000000) ∧ ∀ i j, i < j → j < l.length → (gs l i).n ≠ (gs l j).n := by
  unfold sgnsB at h
  simp only [Bool.and_eq_true] at h
  obtain ⟨h1, h2⟩ := (num_iff _).1 h.2
  have hl : (nosK l l.length).length = l.length := by exact nosK_len _ (Nat.le_refl _)
  refine ⟨fun k hk => ?_, fun i j hij hj e => ?_⟩
  · rw [← s_num l hk]
    refine h1 _ ?_
    rw [gi_at _ (by omega)]
    exact List.getElem_mem _
  · rw [← s_num l (by omega), ← s_num l hj, gi_at _ (by omega), gi_at _ (by omega)] at e
    exact (List.pairwise_iff_getElem.1 h2) i j (by omega) (by omega) hij e
theorem lst_sgns {L : Int} {js : List Int} {l : List Sgn} {q : List Edc} (h : lstE L js l q = 0) : sgnsB L js l = true := by
  unfold lstE at h
  split at h
  · cases h
  split at h
  · cases h
  next h2 => simpa using h2
theorem lst_edcs {L : Int} {js : List Int} {l : List Sgn} {q : List Edc} (h : lstE L js l q = 0) : edcsB L js q = true := by
  unfold lstE at h
  split at h
  · cases h
  split at h
  · cases h
  split at h
  · cases h
  next h2 => simpa using h2
/-- The numbers of a row. -/
def numsR (L dir h : Int) (l : List Sgn) : List Int := (insR L dir h l l.length).map (·.n)
theorem insR_mem {L dir h : Int} {l : List Sgn} {x : Sgn} {k : Nat} (hx : x ∈ insR L dir h l k) : ∃ j, j < k ∧ gs l j = x := selR_mem ((insR_perm L dir h l k).mem_iff.1 hx)
/-- Row answers: the numbers, or an error and none. -/
def RwA (X : List Int) (E : Int) (w : World) (e : Ending) (w' : World) : Prop := ∃ b c, e = .returned (.tuple #[.slice b X.length c, .int .i64 E]) ∧ IntsS w' b X ∧ Below w.heap.size w w'
theorem Row_any (L : Int) (a : Option Addr) (js : List Int) (ca : Nat) (aa : Option Addr) (l : List Sgn) (cl : Nat) (h dir : Int) (b3 : Bool) (w : World) (hI : IntsS w a js) (hA : SgnS w aa l) :
    Calls Tryz.prog 21 #[.agg #[.int .i64 L, .slice a js.length ca], .slice aa l.length cl, .int .i64 h, .int .i64 dir] w
      (RwA (if whyK (lineB L js) true (sgnsB L js l) false b3 (btw h 0 10000000 && dirB dir) = 0 then numsR L dir h l else []) (whyK (lineB L js) true (sgnsB L js l) false b3 (btw h 0 10000000 && dirB dir)) w) := by
  obtain ⟨k1, k2⟩ := lst_s L js l true b3 (btw h 0 10000000 && dirB dir)
  by_cases hV : lstE L js l [] = 0
  · rw [k2 hV]
    cases hx : (btw h 0 10000000 && dirB dir) with
    | false =>
      refine (Row_arg L a js ca aa l cl h dir hV hx w hI hA).mono ?_
      rintro e w' ⟨rfl, hb⟩
      rw [if_pos rfl, if_neg (by decide)]
      exact ⟨none, 0, rfl, ints_nil _ _, hb⟩
    | true =>
      rw [if_neg (show ¬ (true = false) by decide), if_pos rfl]
      rw [Bool.and_eq_true] at hx
      obtain ⟨⟨hL1, hL2⟩, hJ, hC, hn⟩ := lst_good hV
      obtain ⟨hn1, hn2⟩ := sgn_nums (lst_sgns hV)
      refine (Row_good L a js ca aa l cl h dir hV hx.1 hx.2 hL1 hL2 hJ hC hn w hI hA).mono ?_
      rintro e w' ⟨row, b, c, hRL, hrl, rfl, hown, hb⟩
      have he : numR row row.length = numsR L dir h l := by
        unfold numR numsR
        rw [List.take_of_length_le (Nat.le_refl _), ← row_ins hn2 hRL, List.map_map]
        rfl
      have hle : row.length = (numsR L dir h l).length := by rw [← he, numR_len _ (Nat.le_refl _)]
      rw [he] at hown
      rw [hle] at hown ⊢
      refine ⟨b, c, rfl, ints_own hown ?_ ?_, hb⟩
      · rw [← hle]; omega
      · intro j hj
        show I64 (gi (numsR L dir h l) j)
        have hm : gi (numsR L dir h l) j ∈ numsR L dir h l := by
          have hj : j < (numsR L dir h l).length := hj
          rw [gi_at _ hj]; exact List.getElem_mem _
        obtain ⟨x, hx1, hx2⟩ := List.mem_map.1 hm
        obtain ⟨i, hi, e⟩ := insR_mem hx1
        have := hn1 i hi
        rw [← hx2, ← e]
        unfold I64
        omega
  · rw [k1 hV, if_neg hV]
    refine (Row_bad L a js ca aa l cl h dir hV w hI hA).mono ?_
    rintro e w' ⟨rfl, hb⟩
    exact ⟨none, 0, rfl, ints_nil _ _, hb⟩
/-- The reference's row. -/
def RrZ (L dir h : Int) (l : List Sgn) (w : World) (e : Ending) (w' : World) : Prop := ∃ b c, e = .returned (.slice b (numsR L dir h l).length c) ∧ SgnS w' b (insR L dir h l l.length) ∧ Below w.heap.size w w'
theorem refRow_z (L : Int) (a : Option Addr) (n ca : Nat) (aa : Option Addr) (l : List Sgn) (cl : Nat) (h dir : Int) (hL1 : 0 ≤ L) (hL2 : L ≤ 100000) (hC : ∀ j, j < l.length → 0 ≤ (gs l j).c ∧ (gs l j).c ≤ 100000) (hn : l.length ≤ 1000) (w : World) (hA : SgnS w aa l) :
    Calls Tryz.prog 74 #[.agg #[.int .i64 L, .slice a n ca], .slice aa l.length cl, .int .i64 h, .int .i64 dir] w (RrZ L dir h l w) := by
  refine (refRow_r L a n ca aa l cl h dir hL1 hL2 hC hn w hA).mono ?_
  rintro e w' ⟨b, c, rfl, hS, hb⟩
  exact ⟨b, c, by unfold numsR; rw [List.length_map], hS, hb⟩
/-- A row with its numbers. -/
def RrQ (X : List Int) (R : List Sgn) (w : World) (e : Ending) (w' : World) : Prop := ∃ b c, e = .returned (.slice b X.length c) ∧ SgnS w' b R ∧ Below w.heap.size w w'
theorem nums_step (R : List Sgn) {k : Nat} (h : k < (R.map (·.n)).length) : clI ((R.map (·.n)).take (k + 1)) = clI ((R.map (·.n)).take k) ++ [.int .i64 (gs R k).n] := by
  have h2 : k < R.length := by rw [List.length_map] at h; exact h
  rw [List.take_add_one, List.getElem?_eq_getElem h, Option.toList_some, clI_app, List.getElem_map, gs_at _ h2]
end Go.Proofs.YtjoffnbpaebgjaaGreat

namespace Go.Proofs.YtjoffnbpaebgjaaGreat
set_option linter.unusedVariables false
set_option linter.unusedSimpArgs false
open Go.RowKit

/-- The value of a start of a topic, or 0. -/
def strR (k v t : Int) : Int := if t = 1 ∧ k = 1 then v else if t = 2 ∧ k = 3 then 1 else 0
theorem strR_top {k v t : Int} (ht : t = 1 ∨ t = 2) (hv : k = 1 → 0 < v) : (0 < strR k v t ↔ topK k = t) ∧ (topK k = t → strR k v t = strK k v) := by
  unfold strR topK strK
  rcases ht with rfl | rfl
  · by_cases h1 : k = 1
    · subst h1; have := hv rfl; simp; omega
    · by_cases h3 : k = 3
      · subst h3; simp
      · simp [h1, h3]
  · by_cases h1 : k = 1
    · subst h1; simp
    · by_cases h3 : k = 3
      · subst h3; simp
      · simp [h1, h3]
/-- Is a sign of account at a distance? -/
def relB (L dir t k : Int) (R : List Sgn) (i : Nat) : Bool := decide (dstK L dir (gs R i).c ≤ k) && (decide (0 < strR (gs R i).k (gs R i).v t) || endB (gs R i).k t)
/-- The last of n for which p holds, or -1. -/
def lstX (p : Nat → Bool) : Nat → Int
  | 0 => -1
  | i + 1 => if p i = true then (i : Int) else lstX p i
theorem lstX_cases (p : Nat → Bool) : ∀ n, (lstX p n = -1 ∧ ∀ j, j < n → p j = false) ∨ ∃ x : Nat, x < n ∧ lstX p n = x ∧ p x = true ∧ ∀ j, x < j → j < n → p j = false
  | 0 => .inl ⟨rfl, fun j hj => absurd hj (Nat.not_lt_zero j)⟩
  | n + 1 => by
    rw [lstX]
    by_cases h : p n = true
    · rw [if_pos h]
      exact .inr ⟨n, by omega, rfl, h, fun j h1 h2 => by omega⟩
    · rw [if_neg h]
      have h' : p n = false := by simpa using h
      rcases lstX_cases p n with ⟨h1, h2⟩ | ⟨x, h1, h2, h3, h4⟩
      · exact .inl ⟨h1, fun j hj => by
          by_cases e : j = n
          · rw [e]; exact h'
          · exact h2 j (by omega)⟩
      · exact .inr ⟨x, by omega, h2, h3, fun j hj1 hj2 => by
          by_cases e : j = n
          · rw [e]; exact h'
          · exact h4 j hj1 (by omega)⟩
/-- Is the sign behind number i its plate? -/
def plB (R : List Sgn) (i : Nat) : Bool := decide (i + 1 < R.length) && (((gs R (i + 1)).k == 7) && ((gs R (i + 1)).c == (gs R i).c))
theorem dst_eq (L dir a b : Int) : (dstK L dir a == dstK L dir b) = (a == b) := by
  unfold dstK
  rw [Bool.eq_iff_iff, beq_iff_eq, beq_iff_eq]
  split <;> omega
theorem plt_plB (L dir k : Int) (R : List Sgn) (i : Nat) (hi : i < R.length) : pltB L dir k (gs R i) (R[i + 1]?) = (plB R i && decide ((gs R (i + 1)).v ≤ k - dstK L dir (gs R i).c)) := by
  unfold plB
  by_cases h : i + 1 < R.length
  · rw [List.getElem?_eq_getElem h, ← gs_at R h, decide_eq_true h, Bool.true_and]
    show ((gs R (i + 1)).k == 7 && (dstK L dir (gs R (i + 1)).c == dstK L dir (gs R i).c && decide (dstK L dir (gs R i).c + (gs R (i + 1)).v ≤ k))) = _
    rw [dst_eq, Bool.and_assoc]
    have : decide (dstK L dir (gs R i).c + (gs R (i + 1)).v ≤ k) = decide ((gs R (i + 1)).v ≤ k - dstK L dir (gs R i).c) := by
      rw [Bool.eq_iff_iff, decide_eq_true_eq, decide_eq_true_eq]; omega
    rw [this]
  · rw [List.getElem?_eq_none (by omega), decide_eq_false h]
    rfl
theorem rel_acc {L dir t k : Int} {R : List Sgn} {i : Nat} (ht : t = 1 ∨ t = 2) (hv : (gs R i).k = 1 → 0 < (gs R i).v) (hd : dstK L dir (gs R i).c ≤ k) : relB L dir t k R i = true ↔ (endB (gs R i).k t = true ∨ topK (gs R i).k = t) := by
  unfold relB
  rw [decide_eq_true hd, Bool.true_and, Bool.or_eq_true, decide_eq_true_eq, (strR_top ht hv).1]
  exact Or.comm
/-- No sign is of account. -/
theorem hold_none {L dir t k : Int} {js : List Int} {R : List Sgn} (ht : t = 1 ∨ t = 2) (hv : ∀ i, i < R.length → (gs R i).k = 1 → 0 < (gs R i).v) (h : ∀ j, j < R.length → relB L dir t k R j = false) (v : Int) : hS L js dir t k R v = v := by
  refine hS_none R v fun s hs hd => ?_
  obtain ⟨i, hi, e⟩ := List.getElem_of_mem hs
  have hi2 := gs_at R hi
  rw [e] at hi2
  subst hi2
  have h1 := h i hi
  have h2 := rel_acc ht (hv i hi) hd
  rw [h1] at h2
  constructor
  · cases h3 : endB (gs R i).k t with
    | false => rfl
    | true => exact absurd (h2.2 (.inl h3)) (by simp)
  · intro h3
    exact absurd (h2.2 (.inr h3)) (by simp)
/-- The last sign of account. -/
theorem hold_last {L dir t k : Int} {js : List Int} {R : List Sgn} {x : Nat} (ht : t = 1 ∨ t = 2) (hv : ∀ i, i < R.length → (gs R i).k = 1 → 0 < (gs R i).v) (hs : ∀ i j, i < j → j < R.length → dstK L dir (gs R i).c ≤ dstK L dir (gs R j).c) (hx : x < R.length) (h : relB L dir t k R x = true) (hl : ∀ j, x < j → j < R.length → relB L dir t k R j = false) (v : Int) :
    hS L js dir t k R v = if endB (gs R x).k t = true then 0 else if jctB L js dir (dstK L dir (gs R x).c) k = true then 0 else if (plB R x && decide ((gs R (x + 1)).v ≤ k - dstK L dir (gs R x).c)) = true then 0 else strR (gs R x).k (gs R x).v t := by
  have hd : dstK L dir (gs R x).c ≤ k := by
    unfold relB at h
    rw [Bool.and_eq_true, decide_eq_true_eq] at h
    exact h.1
  have ha := (rel_acc ht (hv x hx) hd).1 h
  have hsp : R = R.take x ++ gs R x :: R.drop (x + 1) := by
    rw [gs_at R hx, ← List.drop_eq_getElem_cons hx, List.take_append_drop]
  have key := hS_last (L := L) (js := js) (dir := dir) (t := t) (k := k) (gs R x) (R.drop (x + 1)) hd ha (fun y hy hyd => by
    obtain ⟨j, hj, e⟩ := List.getElem_of_mem hy
    rw [List.length_drop] at hj
    rw [List.getElem_drop] at e
    have e2 := gs_at R (i := x + 1 + j) (by omega)
    rw [e] at e2
    subst e2
    have h1 := hl (x + 1 + j) (by omega) (by omega)
    have h2 := rel_acc ht (hv _ (by omega)) hyd
    rw [h1] at h2
    constructor
    · cases h3 : endB (gs R (x + 1 + j)).k t with
      | false => rfl
      | true => exact absurd (h2.2 (.inl h3)) (by simp)
    · intro h3
      exact absurd (h2.2 (.inr h3)) (by simp)) (R.take x) v (fun y hy => by
    obtain ⟨j, hj, e⟩ := List.getElem_of_mem hy
    rw [List.length_take] at hj
    rw [List.getElem_take] at e
    have e2 := gs_at R (i := j) (by omega)
    rw [e] at e2
    subst e2
    have := hs j x (by omega) hx
    omega)
  rw [← hsp] at key
  rw [key]
  have hh : (R.drop (x + 1)).head? = R[x + 1]? := by rw [List.head?_eq_getElem?, List.getElem?_drop]
  rw [hh]
  unfold stpS shutB
  rw [plt_plB L dir k R x hx]
  by_cases h1 : endB (gs R x).k t = true
  · rw [if_pos h1, if_pos h1]
  · rw [if_neg h1, if_neg h1, if_pos (ha.resolve_left h1), (strR_top ht (hv x hx)).2 (ha.resolve_left h1)]
    by_cases h2 : jctB L js dir (dstK L dir (gs R x).c) k = true
    · rw [if_pos h2, if_pos (by simp [h2])]
    · rw [if_neg h2]
      have h2' : jctB L js dir (dstK L dir (gs R x).c) k = false := by simpa using h2
      rw [h2', Bool.false_or]
set_option maxRecDepth 100000 in
set_option maxHeartbeats 1000000 in
theorem refStart_r (s : Sgn) (ad : Option Addr) (cp : Nat) (t : Int) (ht : t = 1 ∨ t = 2) (w : World) :
    Calls Tryz.prog 101 #[.agg #[.int .i64 s.n, .int .i64 s.k, .int .i64 s.v, .int .i64 s.c, .int .i64 s.d, .int .i64 s.rk, .int .i64 s.up, .int .i64 s.dn, .slice ad s.cv.length cp], .int .i64 t] w fun e w' => e = .returned (.int .i64 (strR s.k s.v t)) ∧ Below w.heap.size w w' := by
  rcases ht with rfl | rfl
  · by_cases hk : s.k = 1
    · have hr : Hid (strR s.k s.v 1 = s.v) := Lib.hid (by rw [hk]; rfl)
      have b1 : (s.k == 1) = true := by rw [hk]; rfl
      clear hk
      generalize s.k = sk at *
      go_enter Tryz.func101, Tryz.ntmps101
      go_wp2_with fail
      go_ret
      exact ⟨by rw [hr.out] <;> rfl, (Below.refl _ _).alloc (Nat.le_refl _) _⟩
    · have hr : Hid (strR s.k s.v 1 = 0) := Lib.hid (by unfold strR; simp [hk])
      have b1 : (s.k == 1) = false := beq_false_of_ne hk
      clear hk
      generalize s.k = sk at *
      go_enter Tryz.func101, Tryz.ntmps101
      go_wp2_with fail
      go_ret
      exact ⟨by rw [hr.out] <;> rfl, (Below.refl _ _).alloc (Nat.le_refl _) _⟩
  · by_cases hk : s.k = 3
    · have hr : Hid (strR s.k s.v 2 = 1) := Lib.hid (by rw [hk]; rfl)
      have b1 : (s.k == 3) = true := by rw [hk]; rfl
      clear hk
      generalize s.k = sk at *
      go_enter Tryz.func101, Tryz.ntmps101
      go_wp2_with fail
      go_ret
      exact ⟨by rw [hr.out] <;> rfl, (Below.refl _ _).alloc (Nat.le_refl _) _⟩
    · have hr : Hid (strR s.k s.v 2 = 0) := Lib.hid (by unfold strR; simp [hk])
      have b1 : (s.k == 3) = false := beq_false_of_ne hk
      clear hk
      generalize s.k = sk at *
      go_enter Tryz.func101, Tryz.ntmps101
      go_wp2_with fail
      go_ret
      exact ⟨by rw [hr.out] <;> rfl, (Below.refl _ _).alloc (Nat.le_refl _) _⟩
set_option maxRecDepth 100000 in
set_option maxHeartbeats 1000000 in
theorem refEnd_r (s : Sgn) (ad : Option Addr) (cp : Nat) (t : Int) (ht : t = 1 ∨ t = 2) (w : World) :
    Calls Tryz.prog 102 #[.agg #[.int .i64 s.n, .int .i64 s.k, .int .i64 s.v, .int .i64 s.c, .int .i64 s.d, .int .i64 s.rk, .int .i64 s.up, .int .i64 s.dn, .slice ad s.cv.length cp], .int .i64 t] w fun e w' => e = .returned (.bool (endB s.k t)) ∧ Below w.heap.size w w' := by
  rcases ht with rfl | rfl
  · by_cases h5 : s.k = 5
    · have hr : Hid (endB s.k 1 = true) := Lib.hid (by rw [h5]; rfl)
      have b1 : (s.k == 5) = true := by rw [h5]; rfl
      clear h5
      generalize s.k = sk at *
      go_enter Tryz.func102, Tryz.ntmps102
      go_wp2_with fail
      go_ret
      exact ⟨by rw [hr.out] <;> rfl, (Below.refl _ _).alloc (Nat.le_refl _) _⟩
    · by_cases hk : s.k = 2
      · have hr : Hid (endB s.k 1 = true) := Lib.hid (by rw [hk]; rfl)
        have b1 : (s.k == 5) = false := beq_false_of_ne h5
        have b2 : (s.k == 2) = true := by rw [hk]; rfl
        clear h5 hk
        generalize s.k = sk at *
        go_enter Tryz.func102, Tryz.ntmps102
        go_wp2_with fail
        go_ret
        exact ⟨by rw [hr.out] <;> rfl, (Below.refl _ _).alloc (Nat.le_refl _) _⟩
      · have hr : Hid (endB s.k 1 = false) := Lib.hid (by unfold endB; simp [h5, hk])
        have b1 : (s.k == 5) = false := beq_false_of_ne h5
        have b2 : (s.k == 2) = false := beq_false_of_ne hk
        clear h5 hk
        generalize s.k = sk at *
        go_enter Tryz.func102, Tryz.ntmps102
        go_wp2_with fail
        go_ret
        exact ⟨by rw [hr.out] <;> rfl, (Below.refl _ _).alloc (Nat.le_refl _) _⟩
  · by_cases h5 : s.k = 5
    · have hr : Hid (endB s.k 2 = true) := Lib.hid (by rw [h5]; rfl)
      have b1 : (s.k == 5) = true := by rw [h5]; rfl
      clear h5
      generalize s.k = sk at *
      go_enter Tryz.func102, Tryz.ntmps102
      go_wp2_with fail
      go_ret
      exact ⟨by rw [hr.out] <;> rfl, (Below.refl _ _).alloc (Nat.le_refl _) _⟩
    · by_cases hk : s.k = 4
      · have hr : Hid (endB s.k 2 = true) := Lib.hid (by rw [hk]; rfl)
        have b1 : (s.k == 5) = false := beq_false_of_ne h5
        have b2 : (s.k == 4) = true := by rw [hk]; rfl
        clear h5 hk
        generalize s.k = sk at *
        go_enter Tryz.func102, Tryz.ntmps102
        go_wp2_with fail
        go_ret
        exact ⟨by rw [hr.out] <;> rfl, (Below.refl _ _).alloc (Nat.le_refl _) _⟩
      · have hr : Hid (endB s.k 2 = false) := Lib.hid (by unfold endB; simp [h5, hk])
        have b1 : (s.k == 5) = false := beq_false_of_ne h5
        have b2 : (s.k == 4) = false := beq_false_of_ne hk
        clear h5 hk
        generalize s.k = sk at *
        go_enter Tryz.func102, Tryz.ntmps102
        go_wp2_with fail
        go_ret
        exact ⟨by rw [hr.out] <;> rfl, (Below.refl _ _).alloc (Nat.le_refl _) _⟩
set_option maxRecDepth 100000 in
set_option maxHeartbeats 1000000 in
theorem refBeginning_r (L : Int) (a : Option Addr) (n ca : Nat) (dir c : Int) (hL1 : 0 ≤ L) (hL2 : L ≤ 100000) (hc1 : -1000000 ≤ c) (hc2 : c ≤ 1000000) (w : World) :
    Calls Tryz.prog 75 #[.agg #[.int .i64 L, .slice a n ca], .int .i64 dir, .int .i64 c] w fun e w' => e = .returned (.int .i64 (begK L dir c)) ∧ Below w.heap.size w w' := by
  by_cases h1 : dir = 1
  · subst h1
    have hr : Hid (begK L 1 c = c) := Lib.hid (by unfold begK; simp)
    go_enter Tryz.func75, Tryz.ntmps75
    go_wp2_with fail
    go_ret
    exact ⟨by rw [hr.out]; rfl, (Below.refl _ _).alloc (Nat.le_refl _) _⟩
  · have hr : Hid (begK L dir c = L - 1 - c) := Lib.hid (by unfold begK; simp [h1])
    go_enter Tryz.func75, Tryz.ntmps75
    go_wp2_with fail
    go_ret
    exact ⟨by rw [hr.out]; rfl, (Below.refl _ _).alloc (Nat.le_refl _) _⟩
set_option maxRecDepth 100000 in
set_option maxHeartbeats 1000000 in
theorem refPlated_r (a : Option Addr) (l : List Sgn) (ca i : Nat) (hi : i < l.length) (hn : l.length ≤ 1000) (w : World) (hA : SgnS w a l) :
    Calls Tryz.prog 103 #[.slice a l.length ca, .int .i64 i] w fun e w' => e = .returned (.bool (plB l i)) ∧ Below w.heap.size w w' := by
  obtain ⟨-, blk, off, ad, cp, hadr, hc⟩ := hA
  obtain rfl := hadr (List.ne_nil_of_length_pos (by omega))
  obtain ⟨m, hm1⟩ : ∃ m : Nat, m = i + 1 := ⟨_, rfl⟩
  have HP : Hid (plB l i = (decide (m < l.length) && (((gs l m).k == 7) && ((gs l m).c == (gs l i).c)))) := Lib.hid (by rw [hm1]; rfl)
  have hw : IntKind.i64.wrap ((i : Int) + 1) = (m : Int) := by rw [hm1]; exact IntWalk.i64_in _ (by omega)
  clear hm1
  by_cases hm : m < l.length
  · obtain ⟨⟨-, e1, -, e3, -⟩, -⟩ := hc i hi
    obtain ⟨⟨-, d1, -, d3, -⟩, -⟩ := hc m hm
    by_cases h7 : (gs l m).k = 7
    · by_cases hcc : (gs l m).c = (gs l i).c
      · have hr : Hid (plB l i = true) := Lib.hid (by rw [HP.out, decide_eq_true hm, h7, hcc]; simp)
        have b1 : ((gs l m).k == 7) = true := by rw [h7]; rfl
        have b2 : ((gs l m).c == (gs l i).c) = true := by rw [hcc]; simp
        have b3 : decide (m < l.length) = true := decide_eq_true hm
        clear h7 hcc HP
        generalize (gs l i).c = ci at *
        generalize (gs l m).c = cm at *
        generalize (gs l m).k = km at *
        clear hc hadr
        go_enter Tryz.func103, Tryz.ntmps103
        go_wp2_with fail
        go_quiet (fail)
        go_wp2_with fail
        go_ret
        exact ⟨by rw [hr.out] <;> rfl, below_drewN (Below.refl _ _) _⟩
      · have hr : Hid (plB l i = false) := Lib.hid (by rw [HP.out]; simp [hcc])
        have b1 : ((gs l m).k == 7) = true := by rw [h7]; rfl
        have b2 : ((gs l m).c == (gs l i).c) = false := beq_false_of_ne hcc
        have b3 : decide (m < l.length) = true := decide_eq_true hm
        clear h7 hcc HP
        generalize (gs l i).c = ci at *
        generalize (gs l m).c = cm at *
        generalize (gs l m).k = km at *
        clear hc hadr
        go_enter Tryz.func103, Tryz.ntmps103
        go_wp2_with fail
        go_quiet (fail)
        go_wp2_with fail
        go_ret
        exact ⟨by rw [hr.out] <;> rfl, below_drewN (Below.refl _ _) _⟩
    · have hr : Hid (plB l i = false) := Lib.hid (by rw [HP.out]; simp [h7])
      have b1 : ((gs l m).k == 7) = false := beq_false_of_ne h7
      have b3 : decide (m < l.length) = true := decide_eq_true hm
      clear h7 HP
      generalize (gs l i).c = ci at *
      generalize (gs l m).c = cm at *
      generalize (gs l m).k = km at *
      clear hc hadr
      go_enter Tryz.func103, Tryz.ntmps103
      go_wp2_with fail
      go_quiet (fail)
      go_wp2_with fail
      go_ret
      exact ⟨by rw [hr.out] <;> rfl, below_drewN (Below.refl _ _) _⟩
  · have hr : Hid (plB l i = false) := Lib.hid (by rw [HP.out, decide_eq_false hm]; rfl)
    have b3 : decide (m < l.length) = false := decide_eq_false hm
    clear HP hc hadr
    go_enter Tryz.func103, Tryz.ntmps103
    go_wp2_with fail
    go_quiet (fail)
    go_wp2_with fail
    go_ret
    exact ⟨by rw [hr.out] <;> rfl, below_drewN (Below.refl _ _) _⟩
end Go.Proofs.YtjoffnbpaebgjaaGreat
