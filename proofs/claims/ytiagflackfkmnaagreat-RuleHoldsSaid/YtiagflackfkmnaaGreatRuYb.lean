/-
  The reference's ValidEdicts. By an AI agent.
-/
import Derived.Test.YtiagflackfkmnaaGreatRuYa
import Derived.BigQuiet
import Derived.BigRegion
namespace Go.Proofs.YtiagflackfkmnaaGreat
set_option linter.unusedVariables false
set_option linter.unusedSimpArgs false
open Go.RowKit

set_option maxRecDepth 100000 in
set_option maxHeartbeats 2000000 in
theorem refValidEdicts_r (L : Int) (a : Option Addr) (js : List Int) (ca : Nat) (aa : Option Addr) (l : List Edc) (cl : Nat) (w : World) (hI : IntsS w a js) (hA : EdS w aa l) :
    Calls Tryz.prog 49 #[.agg #[.int .i64 L, .slice a js.length ca], .slice aa l.length cl] w fun e w' => e = .returned (.bool (edcsB L js l)) ∧ Below w.heap.size w w' := by
  have HV := Lib.hid (fun W (hW : Below w.heap.size w W) => refValidLine_r L a js ca W (hI.below hW))
  have hlen := hA.1
  cases h0 : lineB L js with
  | false =>
    rw [e_bad0 h0]
    rw [h0] at HV
    clear hI hA h0
    go_enter Tryz.func49, Tryz.ntmps49
    go_wp2_with fail
    obtain ⟨wB, hwB⟩ : ∃ wB, w.alloc (.cells #[.int .i64 L, .slice a js.length ca] 24) = wB := ⟨_, rfl⟩
    have hb : Below w.heap.size w wB := by rw [← hwB]; exact (Below.refl _ _).alloc (Nat.le_refl _) _
    have p0 : wB.cell? ⟨w.heap.size, 0, none⟩ = some (.int .i64 L) := by rw [← hwB]; simp [go_sem]
    have p1 : wB.cell? ⟨w.heap.size, 1, none⟩ = some (.slice a js.length ca) := by rw [← hwB]; simp [go_sem]
    rw [hwB]
    clear hwB
    go_wp2_with (go_at_call 41; refine (HV.out _ hb).mono ?_; rintro e w1 ⟨rfl, hb1⟩)
    go_ret
    exact ⟨rfl, hb.trans (hb1.mono hb.size)⟩
  | true =>
    rw [h0] at HV
    by_cases h9 : 50 < l.length
    · rw [e_bad9 h9]
      have h9i : (50 : Int) < (l.length : Int) := by omega
      clear hI hA h0
      go_enter Tryz.func49, Tryz.ntmps49
      go_wp2_with fail
      obtain ⟨wB, hwB⟩ : ∃ wB, w.alloc (.cells #[.int .i64 L, .slice a js.length ca] 24) = wB := ⟨_, rfl⟩
      have hb : Below w.heap.size w wB := by rw [← hwB]; exact (Below.refl _ _).alloc (Nat.le_refl _) _
      have p0 : wB.cell? ⟨w.heap.size, 0, none⟩ = some (.int .i64 L) := by rw [← hwB]; simp [go_sem]
      have p1 : wB.cell? ⟨w.heap.size, 1, none⟩ = some (.slice a js.length ca) := by rw [← hwB]; simp [go_sem]
      rw [hwB]
      clear hwB
      go_wp2_with (go_at_call 41; refine (HV.out _ hb).mono ?_; rintro e w1 ⟨rfl, hb1⟩)
      go_ret
      exact ⟨rfl, hb.trans (hb1.mono hb.size)⟩
    · have h9i : ¬ (50 : Int) < (l.length : Int) := by omega
      have HB1 : Hid (∀ k, k < l.length → btw (ge l k).n 1 1000000000 = false → edcsB L js l = false) := Lib.hid fun k hk h => e_bad1 hk h
      have HB2 : Hid (∀ k, k < l.length → edcB L (ge l k) = false → edcsB L js l = false) := Lib.hid fun k hk h => e_bad2 hk h
      have HB3 : Hid (∀ k j, k < l.length → j < k → (ge l j).n = (ge l k).n → edcsB L js l = false) := Lib.hid fun k j hk hj h => e_bad3 hk hj h
      have HE : Hid ((∀ k, k < l.length → eRt L l k) → edcsB L js l = true) := Lib.hid fun h => e_end h0 (by omega) h
      obtain ⟨-, blk, off, hadr, hc⟩ := hA
      have HC := Lib.hid hc
      have HL : Hid (0 < l.length → aa = some ⟨blk, off, none⟩) := Lib.hid fun h => hadr (List.ne_nil_of_length_pos h)
      clear hI h0 hc hadr
      go_enter Tryz.func49, Tryz.ntmps49
      go_wp2_with fail
      obtain ⟨wB, hwB⟩ : ∃ wB, w.alloc (.cells #[.int .i64 L, .slice a js.length ca] 24) = wB := ⟨_, rfl⟩
      have hb : Below w.heap.size w wB := by rw [← hwB]; exact (Below.refl _ _).alloc (Nat.le_refl _) _
      have p0 : wB.cell? ⟨w.heap.size, 0, none⟩ = some (.int .i64 L) := by rw [← hwB]; simp [go_sem]
      have p1 : wB.cell? ⟨w.heap.size, 1, none⟩ = some (.slice a js.length ca) := by rw [← hwB]; simp [go_sem]
      rw [hwB]
      clear hwB
      go_wp2_with (go_at_call 41; refine (HV.out _ hb).mono ?_; rintro e w1 ⟨rfl, hb1⟩; have hbw := hb.trans (hb1.mono hb.size); replace p0 := cell_below p0 hb1; clear p1)
      clear HV hb1
      go_loopw [5] (fun i wr => ∃ k : Nat, k ≤ l.length ∧ i = .int .i64 k ∧ Hid (∀ j, j < k → eRt L l j) ∧ Below w1.heap.size w1 wr) (fun i _ => l.length - (intOf i).toNat)
      case atStart => exact ⟨0, Nat.zero_le _, rfl, Lib.hid fun j hj => absurd hj (Nat.not_lt_zero _), Below.refl _ _⟩
      case round =>
        obtain ⟨k, hk, rfl, HN, hbr⟩ := hrel
        have p0 := cell_below p0 hbr
        have hz : w.heap.size < wr.heap.size := block_lt p0
        by_cases hlt : k < l.length
        · obtain rfl := HL.out (by omega)
          obtain ⟨c0, c1, c2, c3, c4, c5, c6, c7⟩ := HC.out k hlt
          have hbo := hbw.trans (hbr.mono hbw.size)
          have c0 := cell_below c0 hbo
          have c1 := cell_below c1 hbo
          have c2 := cell_below c2 hbo
          have c3 := cell_below c3 hbo
          have c4 := cell_below c4 hbo
          have c5 := cell_below c5 hbo
          have c6 := cell_below c6 hbo
          have c7 := cell_below c7 hbo
          have hkl : (k : Int) < (l.length : Int) := by omega
          have hmeas : l.length - (k + 1) < l.length - k := by omega
          have HB1k := Lib.hid (HB1.out k hlt)
          have HB2k := Lib.hid (HB2.out k hlt)
          have HB3k := Lib.hid (fun j hj => HB3.out k j hlt hj)
          have HS : Hid (eRt L l k → ∀ j, j < k + 1 → eRt L l j) := Lib.hid fun h j hj => by
            by_cases e : j = k
            · subst e; exact h
            · exact HN.out j (by omega)
          have HRt : Hid (eRt L l k = (btw (ge l k).n 1 1000000000 = true ∧ edcB L (ge l k) = true ∧ ∀ j, j < k → (ge l j).n ≠ (ge l k).n)) := Lib.hid rfl
          have HCj : Hid (∀ j, j < k → wr.cell? ⟨blk, off + j * 8, none⟩ = some (.int .i64 (ge l j).n)) := Lib.hid fun j hj => cell_below (HC.out j (by omega)).1 hbo
          clear HC HL HE HB1 HB2 HB3 HN
          obtain ⟨x, hx⟩ : ∃ x, ge l k = x := ⟨_, rfl⟩
          rw [hx] at HB1k HB2k HB3k HRt c0 c1 c2 c3 c4 c5 c6 c7
          clear hx
          generalize eRt L l k = RT at *
          obtain ⟨s, hs⟩ : ∃ s, edcsB L js l = s := ⟨_, rfl⟩
          rw [hs] at HB1k HB2k HB3k
          have HSE := Lib.hid hs
          clear hs
          have Q0 : Hid (∀ W, Calls Tryz.prog 74 #[.int .i64 x.v, .int .i64 10, .int .i64 200] W fun e w7 => e = .returned (.bool (btw x.v 10 200)) ∧ W = w7) := Lib.hid fun W => refWithin_r 10 200 x.v W
          have Q1 : Hid (∀ W, Calls Tryz.prog 74 #[.int .i64 x.n, .int .i64 1, .int .i64 1000000000] W fun e w7 => e = .returned (.bool (btw x.n 1 1000000000)) ∧ W = w7) := Lib.hid fun W => refWithin_r 1 1000000000 x.n W
          have Q2 : Hid (∀ W, Calls Tryz.prog 89 #[.int .i64 x.d] W fun e w7 => e = .returned (.bool (dirB x.d)) ∧ W = w7) := Lib.hid fun W => refDir_r x.d W
          have Q3 : Hid (∀ W, Calls Tryz.prog 90 #[.int .i64 x.st, .int .i64 x.en] W fun e w7 => e = .returned (.bool (timeB x.st x.en)) ∧ W = w7) := Lib.hid fun W => refHours_r x.st x.en W
          have HSEo := Lib.hid HSE.out
          by_cases t1 : x.tp = 1
          · have d1 : (x.tp == 1) = true := by rw [t1]; rfl
            have d2 : (x.tp == 2) = false := by rw [t1]; rfl
            cases g0 : btw x.v 10 200 with
            | false =>
              have hr : s = false := HB2k.out (by unfold edcB edV; rw [d1, d2, g0]; simp)
              subst hr
              rw [g0] at Q0
              clear g0 t1
              clear HB1k HB2k HB3k HS HRt HCj HSE
              go_wp2_with (first | (go_at_call 74; with_reducible refine Calls.mono (Q0.out _) ?_; rintro e w7 ⟨rfl, rfl⟩) | (go_at_call 74; with_reducible refine Calls.mono (Q1.out _) ?_; rintro e w7 ⟨rfl, rfl⟩) | (go_at_call 89; with_reducible refine Calls.mono (Q2.out _) ?_; rintro e w7 ⟨rfl, rfl⟩) | (go_at_call 90; with_reducible refine Calls.mono (Q3.out _) ?_; rintro e w7 ⟨rfl, rfl⟩))
              go_ret
              exact ⟨by rw [HSEo.out] <;> rfl, hbo.alloc hbo.size _⟩
            | true =>
              have HV : Hid (edV x.tp x.v = true) := Lib.hid (by unfold edV; rw [d1, g0]; rfl)
              rw [g0] at Q0
              clear g0 t1
              cases g1 : btw x.n 1 1000000000 with
              | false =>
                have hr : s = false := HB1k.out g1
                subst hr
                rw [g1] at Q1
                clear g1
                clear HB1k HB2k HB3k HS HRt HCj HSE
                go_wp2_with (first | (go_at_call 74; with_reducible refine Calls.mono (Q0.out _) ?_; rintro e w7 ⟨rfl, rfl⟩) | (go_at_call 74; with_reducible refine Calls.mono (Q1.out _) ?_; rintro e w7 ⟨rfl, rfl⟩) | (go_at_call 89; with_reducible refine Calls.mono (Q2.out _) ?_; rintro e w7 ⟨rfl, rfl⟩) | (go_at_call 90; with_reducible refine Calls.mono (Q3.out _) ?_; rintro e w7 ⟨rfl, rfl⟩))
                go_ret
                exact ⟨by rw [HSEo.out] <;> rfl, hbo.alloc hbo.size _⟩
              | true =>
                rw [g1] at Q1
                cases g2 : dirB x.d with
                | false =>
                  have hr : s = false := HB2k.out (by unfold edcB; rw [g2]; simp)
                  subst hr
                  rw [g2] at Q2
                  clear g2
                  clear HB1k HB2k HB3k HS HRt HCj HSE
                  go_wp2_with (first | (go_at_call 74; with_reducible refine Calls.mono (Q0.out _) ?_; rintro e w7 ⟨rfl, rfl⟩) | (go_at_call 74; with_reducible refine Calls.mono (Q1.out _) ?_; rintro e w7 ⟨rfl, rfl⟩) | (go_at_call 89; with_reducible refine Calls.mono (Q2.out _) ?_; rintro e w7 ⟨rfl, rfl⟩) | (go_at_call 90; with_reducible refine Calls.mono (Q3.out _) ?_; rintro e w7 ⟨rfl, rfl⟩))
                  go_ret
                  exact ⟨by rw [HSEo.out] <;> rfl, hbo.alloc hbo.size _⟩
                | true =>
                  rw [g2] at Q2
                  by_cases ha : x.fr < 0
                  · have hr : s = false := HB2k.out (by unfold edcB; rw [decide_eq_false (by omega : ¬ 0 ≤ x.fr)]; simp)
                    subst hr
                    clear g1 g2
                    clear HB1k HB2k HB3k HS HRt HCj HSE
                    go_wp2_with (first | (go_at_call 74; with_reducible refine Calls.mono (Q0.out _) ?_; rintro e w7 ⟨rfl, rfl⟩) | (go_at_call 74; with_reducible refine Calls.mono (Q1.out _) ?_; rintro e w7 ⟨rfl, rfl⟩) | (go_at_call 89; with_reducible refine Calls.mono (Q2.out _) ?_; rintro e w7 ⟨rfl, rfl⟩) | (go_at_call 90; with_reducible refine Calls.mono (Q3.out _) ?_; rintro e w7 ⟨rfl, rfl⟩))
                    go_ret
                    exact ⟨by rw [HSEo.out] <;> rfl, hbo.alloc hbo.size _⟩
                  · skip
                    by_cases hb : x.tt ≤ x.fr
                    · have hr : s = false := HB2k.out (by unfold edcB; rw [decide_eq_false (by omega : ¬ x.fr < x.tt)]; simp)
                      subst hr
                      clear g1 g2
                      clear HB1k HB2k HB3k HS HRt HCj HSE
                      go_wp2_with (first | (go_at_call 74; with_reducible refine Calls.mono (Q0.out _) ?_; rintro e w7 ⟨rfl, rfl⟩) | (go_at_call 74; with_reducible refine Calls.mono (Q1.out _) ?_; rintro e w7 ⟨rfl, rfl⟩) | (go_at_call 89; with_reducible refine Calls.mono (Q2.out _) ?_; rintro e w7 ⟨rfl, rfl⟩) | (go_at_call 90; with_reducible refine Calls.mono (Q3.out _) ?_; rintro e w7 ⟨rfl, rfl⟩))
                      go_ret
                      exact ⟨by rw [HSEo.out] <;> rfl, hbo.alloc hbo.size _⟩
                    · skip
                      by_cases hc : L < x.tt
                      · have hr : s = false := HB2k.out (by unfold edcB; rw [decide_eq_false (by omega : ¬ x.tt ≤ L)]; simp)
                        subst hr
                        clear g1 g2
                        clear HB1k HB2k HB3k HS HRt HCj HSE
                        go_wp2_with (first | (go_at_call 74; with_reducible refine Calls.mono (Q0.out _) ?_; rintro e w7 ⟨rfl, rfl⟩) | (go_at_call 74; with_reducible refine Calls.mono (Q1.out _) ?_; rintro e w7 ⟨rfl, rfl⟩) | (go_at_call 89; with_reducible refine Calls.mono (Q2.out _) ?_; rintro e w7 ⟨rfl, rfl⟩) | (go_at_call 90; with_reducible refine Calls.mono (Q3.out _) ?_; rintro e w7 ⟨rfl, rfl⟩))
                        go_ret
                        exact ⟨by rw [HSEo.out] <;> rfl, hbo.alloc hbo.size _⟩
                      · skip
                        cases g3 : timeB x.st x.en with
                        | false =>
                          have hr : s = false := HB2k.out (by unfold edcB; rw [g3]; simp)
                          subst hr
                          rw [g3] at Q3
                          clear g1 g2 g3
                          clear HB1k HB2k HB3k HS HRt HCj HSE
                          go_wp2_with (first | (go_at_call 74; with_reducible refine Calls.mono (Q0.out _) ?_; rintro e w7 ⟨rfl, rfl⟩) | (go_at_call 74; with_reducible refine Calls.mono (Q1.out _) ?_; rintro e w7 ⟨rfl, rfl⟩) | (go_at_call 89; with_reducible refine Calls.mono (Q2.out _) ?_; rintro e w7 ⟨rfl, rfl⟩) | (go_at_call 90; with_reducible refine Calls.mono (Q3.out _) ?_; rintro e w7 ⟨rfl, rfl⟩))
                          go_ret
                          exact ⟨by rw [HSEo.out] <;> rfl, hbo.alloc hbo.size _⟩
                        | true =>
                          rw [g3] at Q3
                          have HSg : Hid (edcB L x = true) := Lib.hid (by unfold edcB; rw [HV.out, g2, g3, decide_eq_true (by omega : 0 ≤ x.fr), decide_eq_true (by omega : x.fr < x.tt), decide_eq_true (by omega : x.tt ≤ L)]; rfl)
                          have HRt3 : Hid ((∀ j, j < k → (ge l j).n ≠ x.n) → RT) := Lib.hid fun h2 => by rw [HRt.out]; exact ⟨g1, HSg.out, h2⟩
                          have HSbox : Hid (Below w.heap.size w (wr.alloc (.cells #[.int .i64 x.n, .int .i64 x.tp, .int .i64 x.v, .int .i64 x.d, .int .i64 x.fr, .int .i64 x.tt, .int .i64 x.st, .int .i64 x.en] 94))) := Lib.hid (hbo.alloc hbo.size _)
                          clear HB1k HB2k HRt HSg HSE g1 g2 g3
                          go_wp2_with (first | (go_at_call 74; with_reducible refine Calls.mono (Q0.out _) ?_; rintro e w7 ⟨rfl, rfl⟩) | (go_at_call 74; with_reducible refine Calls.mono (Q1.out _) ?_; rintro e w7 ⟨rfl, rfl⟩) | (go_at_call 89; with_reducible refine Calls.mono (Q2.out _) ?_; rintro e w7 ⟨rfl, rfl⟩) | (go_at_call 90; with_reducible refine Calls.mono (Q3.out _) ?_; rintro e w7 ⟨rfl, rfl⟩))
                          clear Q0 Q1 Q2 Q3
                          obtain ⟨wS, hwS⟩ : ∃ wS, wr.alloc (.cells #[.int .i64 x.n, .int .i64 x.tp, .int .i64 x.v, .int .i64 x.d, .int .i64 x.fr, .int .i64 x.tt, .int .i64 x.st, .int .i64 x.en] 94) = wS := ⟨_, rfl⟩
                          rw [hwS] at HSbox
                          have hbS0 : Below wr.heap.size wr wS := by rw [← hwS]; exact (Below.refl _ _).alloc (Nat.le_refl _) _
                          have x0 : wS.cell? ⟨wr.heap.size, 0, none⟩ = some (.int .i64 x.n) := by rw [← hwS]; simp [go_sem]
                          rw [hwS]
                          clear hwS
                          have HCj : Hid (∀ j, j < k → wS.cell? ⟨blk, off + j * 8, none⟩ = some (.int .i64 (ge l j).n)) := Lib.hid fun j hj => cell_below (HCj.out j hj) hbS0
                          have HBZ := Lib.hid (hbr.trans (hbS0.mono hbr.size))
                          have hbz := HSbox.out
                          obtain ⟨rb, hrb⟩ : ∃ rb, wr.heap.size = rb := ⟨_, rfl⟩
                          rw [hrb] at x0 ⊢
                          clear c0 c1 c2 c3 c4 c5 c6 c7 hbr hbo hbS0 hrb p0 hz HSbox
                          go_loopw [8] (fun i wr => ∃ j : Nat, j ≤ k ∧ i = .int .i64 j ∧ Hid (∀ i, i < j → (ge l i).n ≠ x.n) ∧ Below wS.heap.size wS wr) (fun i _ => k - (intOf i).toNat)
                          case atStart => exact ⟨0, Nat.zero_le _, rfl, Lib.hid fun j hj => absurd hj (Nat.not_lt_zero _), Below.refl _ _⟩
                          case round =>
                            obtain ⟨j, hj, rfl, HJ, hbr⟩ := hrel
                            have x0 := cell_below x0 hbr
                            by_cases hjk : j < k
                            · have q0 := cell_below (HCj.out j hjk) hbr
                              have hji : (j : Int) < (k : Int) := by omega
                              have hjl : (j : Int) < (l.length : Int) := by omega
                              have hmeas2 : k - (j + 1) < k - j := by omega
                              have HJ2 : Hid ((ge l j).n ≠ x.n → ∀ i, i < j + 1 → (ge l i).n ≠ x.n) := Lib.hid fun h i hi => by
                                by_cases e : i = j
                                · subst e; exact h
                                · exact HJ.out i (by omega)
                              have HB3j := Lib.hid (HB3k.out j hjk)
                              have hbz2 : Below w.heap.size w wr := hbz.trans (hbr.mono hbz.size)
                              clear HJ HB3k HCj
                              generalize (ge l j).n = y at *
                              by_cases hy : y = x.n
                              · have hr := HB3j.out hy
                                subst hr
                                subst hy
                                have d : (x.n == x.n) = true := beq_self_eq_true _
                                clear HJ2 HB3j HRt3
                                go_wp2_with fail
                                go_quiet (fail)
                                go_wp2_with fail
                                go_ret
                                exact ⟨by rw [HSEo.out] <;> rfl, below_drewN hbz2 _⟩
                              · have d : (y == x.n) = false := beq_false_of_ne hy
                                have HJ3 := Lib.hid (HJ2.out hy)
                                clear HJ2 HB3j HRt3 hy
                                go_wp2_with fail
                                go_quiet (fail)
                                go_wp2_with fail
                                go_roundw
                                case rel => exact ⟨j + 1, by omega, by go_num, HJ3, below_drewN hbr _⟩
                                case measure => first | (simp [intOf]; exact hmeas2) | simpa [intOf] using hmeas2
                            · obtain rfl : j = k := by omega
                              have HSk := Lib.hid (HS.out (HRt3.out HJ.out))
                              have hbf := HBZ.out.trans (hbr.mono HBZ.out.size)
                              clear HJ HRt3 HS HB3k HCj HBZ
                              go_wp2_with fail
                              go_roundw
                              case rel => exact ⟨j + 1, by omega, by go_num, HSk, hbf⟩
                              case measure => first | (simp [intOf]; exact hmeas) | simpa [intOf] using hmeas
          · have d1 : (x.tp == 1) = false := beq_false_of_ne t1
            by_cases t2 : x.tp = 2
            · have d2 : (x.tp == 2) = true := by rw [t2]; rfl
              by_cases v1 : x.v = 1
              · have d3 : (x.v == 1) = true := by rw [v1]; rfl
                have HV : Hid (edV x.tp x.v = true) := Lib.hid (by unfold edV; rw [d2, d3]; simp)
                clear t1 t2 v1
                cases g1 : btw x.n 1 1000000000 with
                | false =>
                  have hr : s = false := HB1k.out g1
                  subst hr
                  rw [g1] at Q1
                  clear g1
                  clear HB1k HB2k HB3k HS HRt HCj HSE
                  go_wp2_with (first | (go_at_call 74; with_reducible refine Calls.mono (Q0.out _) ?_; rintro e w7 ⟨rfl, rfl⟩) | (go_at_call 74; with_reducible refine Calls.mono (Q1.out _) ?_; rintro e w7 ⟨rfl, rfl⟩) | (go_at_call 89; with_reducible refine Calls.mono (Q2.out _) ?_; rintro e w7 ⟨rfl, rfl⟩) | (go_at_call 90; with_reducible refine Calls.mono (Q3.out _) ?_; rintro e w7 ⟨rfl, rfl⟩))
                  go_ret
                  exact ⟨by rw [HSEo.out] <;> rfl, hbo.alloc hbo.size _⟩
                | true =>
                  rw [g1] at Q1
                  cases g2 : dirB x.d with
                  | false =>
                    have hr : s = false := HB2k.out (by unfold edcB; rw [g2]; simp)
                    subst hr
                    rw [g2] at Q2
                    clear g2
                    clear HB1k HB2k HB3k HS HRt HCj HSE
                    go_wp2_with (first | (go_at_call 74; with_reducible refine Calls.mono (Q0.out _) ?_; rintro e w7 ⟨rfl, rfl⟩) | (go_at_call 74; with_reducible refine Calls.mono (Q1.out _) ?_; rintro e w7 ⟨rfl, rfl⟩) | (go_at_call 89; with_reducible refine Calls.mono (Q2.out _) ?_; rintro e w7 ⟨rfl, rfl⟩) | (go_at_call 90; with_reducible refine Calls.mono (Q3.out _) ?_; rintro e w7 ⟨rfl, rfl⟩))
                    go_ret
                    exact ⟨by rw [HSEo.out] <;> rfl, hbo.alloc hbo.size _⟩
                  | true =>
                    rw [g2] at Q2
                    by_cases ha : x.fr < 0
                    · have hr : s = false := HB2k.out (by unfold edcB; rw [decide_eq_false (by omega : ¬ 0 ≤ x.fr)]; simp)
                      subst hr
                      clear g1 g2
                      clear HB1k HB2k HB3k HS HRt HCj HSE
                      go_wp2_with (first | (go_at_call 74; with_reducible refine Calls.mono (Q0.out _) ?_; rintro e w7 ⟨rfl, rfl⟩) | (go_at_call 74; with_reducible refine Calls.mono (Q1.out _) ?_; rintro e w7 ⟨rfl, rfl⟩) | (go_at_call 89; with_reducible refine Calls.mono (Q2.out _) ?_; rintro e w7 ⟨rfl, rfl⟩) | (go_at_call 90; with_reducible refine Calls.mono (Q3.out _) ?_; rintro e w7 ⟨rfl, rfl⟩))
                      go_ret
                      exact ⟨by rw [HSEo.out] <;> rfl, hbo.alloc hbo.size _⟩
                    · skip
                      by_cases hb : x.tt ≤ x.fr
                      · have hr : s = false := HB2k.out (by unfold edcB; rw [decide_eq_false (by omega : ¬ x.fr < x.tt)]; simp)
                        subst hr
                        clear g1 g2
                        clear HB1k HB2k HB3k HS HRt HCj HSE
                        go_wp2_with (first | (go_at_call 74; with_reducible refine Calls.mono (Q0.out _) ?_; rintro e w7 ⟨rfl, rfl⟩) | (go_at_call 74; with_reducible refine Calls.mono (Q1.out _) ?_; rintro e w7 ⟨rfl, rfl⟩) | (go_at_call 89; with_reducible refine Calls.mono (Q2.out _) ?_; rintro e w7 ⟨rfl, rfl⟩) | (go_at_call 90; with_reducible refine Calls.mono (Q3.out _) ?_; rintro e w7 ⟨rfl, rfl⟩))
                        go_ret
                        exact ⟨by rw [HSEo.out] <;> rfl, hbo.alloc hbo.size _⟩
                      · skip
                        by_cases hc : L < x.tt
                        · have hr : s = false := HB2k.out (by unfold edcB; rw [decide_eq_false (by omega : ¬ x.tt ≤ L)]; simp)
                          subst hr
                          clear g1 g2
                          clear HB1k HB2k HB3k HS HRt HCj HSE
                          go_wp2_with (first | (go_at_call 74; with_reducible refine Calls.mono (Q0.out _) ?_; rintro e w7 ⟨rfl, rfl⟩) | (go_at_call 74; with_reducible refine Calls.mono (Q1.out _) ?_; rintro e w7 ⟨rfl, rfl⟩) | (go_at_call 89; with_reducible refine Calls.mono (Q2.out _) ?_; rintro e w7 ⟨rfl, rfl⟩) | (go_at_call 90; with_reducible refine Calls.mono (Q3.out _) ?_; rintro e w7 ⟨rfl, rfl⟩))
                          go_ret
                          exact ⟨by rw [HSEo.out] <;> rfl, hbo.alloc hbo.size _⟩
                        · skip
                          cases g3 : timeB x.st x.en with
                          | false =>
                            have hr : s = false := HB2k.out (by unfold edcB; rw [g3]; simp)
                            subst hr
                            rw [g3] at Q3
                            clear g1 g2 g3
                            clear HB1k HB2k HB3k HS HRt HCj HSE
                            go_wp2_with (first | (go_at_call 74; with_reducible refine Calls.mono (Q0.out _) ?_; rintro e w7 ⟨rfl, rfl⟩) | (go_at_call 74; with_reducible refine Calls.mono (Q1.out _) ?_; rintro e w7 ⟨rfl, rfl⟩) | (go_at_call 89; with_reducible refine Calls.mono (Q2.out _) ?_; rintro e w7 ⟨rfl, rfl⟩) | (go_at_call 90; with_reducible refine Calls.mono (Q3.out _) ?_; rintro e w7 ⟨rfl, rfl⟩))
                            go_ret
                            exact ⟨by rw [HSEo.out] <;> rfl, hbo.alloc hbo.size _⟩
                          | true =>
                            rw [g3] at Q3
                            have HSg : Hid (edcB L x = true) := Lib.hid (by unfold edcB; rw [HV.out, g2, g3, decide_eq_true (by omega : 0 ≤ x.fr), decide_eq_true (by omega : x.fr < x.tt), decide_eq_true (by omega : x.tt ≤ L)]; rfl)
                            have HRt3 : Hid ((∀ j, j < k → (ge l j).n ≠ x.n) → RT) := Lib.hid fun h2 => by rw [HRt.out]; exact ⟨g1, HSg.out, h2⟩
                            have HSbox : Hid (Below w.heap.size w (wr.alloc (.cells #[.int .i64 x.n, .int .i64 x.tp, .int .i64 x.v, .int .i64 x.d, .int .i64 x.fr, .int .i64 x.tt, .int .i64 x.st, .int .i64 x.en] 94))) := Lib.hid (hbo.alloc hbo.size _)
                            clear HB1k HB2k HRt HSg HSE g1 g2 g3
                            go_wp2_with (first | (go_at_call 74; with_reducible refine Calls.mono (Q0.out _) ?_; rintro e w7 ⟨rfl, rfl⟩) | (go_at_call 74; with_reducible refine Calls.mono (Q1.out _) ?_; rintro e w7 ⟨rfl, rfl⟩) | (go_at_call 89; with_reducible refine Calls.mono (Q2.out _) ?_; rintro e w7 ⟨rfl, rfl⟩) | (go_at_call 90; with_reducible refine Calls.mono (Q3.out _) ?_; rintro e w7 ⟨rfl, rfl⟩))
                            clear Q0 Q1 Q2 Q3
                            obtain ⟨wS, hwS⟩ : ∃ wS, wr.alloc (.cells #[.int .i64 x.n, .int .i64 x.tp, .int .i64 x.v, .int .i64 x.d, .int .i64 x.fr, .int .i64 x.tt, .int .i64 x.st, .int .i64 x.en] 94) = wS := ⟨_, rfl⟩
                            rw [hwS] at HSbox
                            have hbS0 : Below wr.heap.size wr wS := by rw [← hwS]; exact (Below.refl _ _).alloc (Nat.le_refl _) _
                            have x0 : wS.cell? ⟨wr.heap.size, 0, none⟩ = some (.int .i64 x.n) := by rw [← hwS]; simp [go_sem]
                            rw [hwS]
                            clear hwS
                            have HCj : Hid (∀ j, j < k → wS.cell? ⟨blk, off + j * 8, none⟩ = some (.int .i64 (ge l j).n)) := Lib.hid fun j hj => cell_below (HCj.out j hj) hbS0
                            have HBZ := Lib.hid (hbr.trans (hbS0.mono hbr.size))
                            have hbz := HSbox.out
                            obtain ⟨rb, hrb⟩ : ∃ rb, wr.heap.size = rb := ⟨_, rfl⟩
                            rw [hrb] at x0 ⊢
                            clear c0 c1 c2 c3 c4 c5 c6 c7 hbr hbo hbS0 hrb p0 hz HSbox
                            go_loopw [8] (fun i wr => ∃ j : Nat, j ≤ k ∧ i = .int .i64 j ∧ Hid (∀ i, i < j → (ge l i).n ≠ x.n) ∧ Below wS.heap.size wS wr) (fun i _ => k - (intOf i).toNat)
                            case atStart => exact ⟨0, Nat.zero_le _, rfl, Lib.hid fun j hj => absurd hj (Nat.not_lt_zero _), Below.refl _ _⟩
                            case round =>
                              obtain ⟨j, hj, rfl, HJ, hbr⟩ := hrel
                              have x0 := cell_below x0 hbr
                              by_cases hjk : j < k
                              · have q0 := cell_below (HCj.out j hjk) hbr
                                have hji : (j : Int) < (k : Int) := by omega
                                have hjl : (j : Int) < (l.length : Int) := by omega
                                have hmeas2 : k - (j + 1) < k - j := by omega
                                have HJ2 : Hid ((ge l j).n ≠ x.n → ∀ i, i < j + 1 → (ge l i).n ≠ x.n) := Lib.hid fun h i hi => by
                                  by_cases e : i = j
                                  · subst e; exact h
                                  · exact HJ.out i (by omega)
                                have HB3j := Lib.hid (HB3k.out j hjk)
                                have hbz2 : Below w.heap.size w wr := hbz.trans (hbr.mono hbz.size)
                                clear HJ HB3k HCj
                                generalize (ge l j).n = y at *
                                by_cases hy : y = x.n
                                · have hr := HB3j.out hy
                                  subst hr
                                  subst hy
                                  have d : (x.n == x.n) = true := beq_self_eq_true _
                                  clear HJ2 HB3j HRt3
                                  go_wp2_with fail
                                  go_quiet (fail)
                                  go_wp2_with fail
                                  go_ret
                                  exact ⟨by rw [HSEo.out] <;> rfl, below_drewN hbz2 _⟩
                                · have d : (y == x.n) = false := beq_false_of_ne hy
                                  have HJ3 := Lib.hid (HJ2.out hy)
                                  clear HJ2 HB3j HRt3 hy
                                  go_wp2_with fail
                                  go_quiet (fail)
                                  go_wp2_with fail
                                  go_roundw
                                  case rel => exact ⟨j + 1, by omega, by go_num, HJ3, below_drewN hbr _⟩
                                  case measure => first | (simp [intOf]; exact hmeas2) | simpa [intOf] using hmeas2
                              · obtain rfl : j = k := by omega
                                have HSk := Lib.hid (HS.out (HRt3.out HJ.out))
                                have hbf := HBZ.out.trans (hbr.mono HBZ.out.size)
                                clear HJ HRt3 HS HB3k HCj HBZ
                                go_wp2_with fail
                                go_roundw
                                case rel => exact ⟨j + 1, by omega, by go_num, HSk, hbf⟩
                                case measure => first | (simp [intOf]; exact hmeas) | simpa [intOf] using hmeas
              · have d3 : (x.v == 1) = false := beq_false_of_ne v1
                have hr : s = false := HB2k.out (by unfold edcB edV; rw [d1, d2, d3]; simp)
                subst hr
                clear t1 t2 v1
                clear HB1k HB2k HB3k HS HRt HCj HSE
                go_wp2_with (first | (go_at_call 74; with_reducible refine Calls.mono (Q0.out _) ?_; rintro e w7 ⟨rfl, rfl⟩) | (go_at_call 74; with_reducible refine Calls.mono (Q1.out _) ?_; rintro e w7 ⟨rfl, rfl⟩) | (go_at_call 89; with_reducible refine Calls.mono (Q2.out _) ?_; rintro e w7 ⟨rfl, rfl⟩) | (go_at_call 90; with_reducible refine Calls.mono (Q3.out _) ?_; rintro e w7 ⟨rfl, rfl⟩))
                go_ret
                exact ⟨by rw [HSEo.out] <;> rfl, hbo.alloc hbo.size _⟩
            · have d2 : (x.tp == 2) = false := beq_false_of_ne t2
              have hr : s = false := HB2k.out (by unfold edcB edV; rw [d1, d2]; simp)
              subst hr
              clear t1 t2
              clear HB1k HB2k HB3k HS HRt HCj HSE
              go_wp2_with (first | (go_at_call 74; with_reducible refine Calls.mono (Q0.out _) ?_; rintro e w7 ⟨rfl, rfl⟩) | (go_at_call 74; with_reducible refine Calls.mono (Q1.out _) ?_; rintro e w7 ⟨rfl, rfl⟩) | (go_at_call 89; with_reducible refine Calls.mono (Q2.out _) ?_; rintro e w7 ⟨rfl, rfl⟩) | (go_at_call 90; with_reducible refine Calls.mono (Q3.out _) ?_; rintro e w7 ⟨rfl, rfl⟩))
              go_ret
              exact ⟨by rw [HSEo.out] <;> rfl, hbo.alloc hbo.size _⟩
        · obtain rfl : k = l.length := by omega
          have hr := Lib.hid (HE.out HN.out)
          have hbo := hbw.trans (hbr.mono hbw.size)
          clear HC HL HE HB1 HB2 HB3 HN
          go_wp2_with fail
          go_ret
          exact ⟨by rw [hr.out] <;> rfl, hbo⟩
end Go.Proofs.YtiagflackfkmnaaGreat
