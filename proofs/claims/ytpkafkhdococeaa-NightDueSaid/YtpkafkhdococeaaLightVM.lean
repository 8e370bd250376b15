/-
  The walk of the reference Measures. By an AI agent.
-/
import Derived.Test.YtpkafkhdococeaaLightV
namespace Go.Proofs.Ytpkafkhdococeaa
set_option linter.unusedVariables false
set_option linter.unusedSimpArgs false
open Go.RowKit

theorem within_q2 {n a b : Int} {v : Bool} (h : btw n a b = v) (w : World) :
    Calls Try.prog 94 #[.int .i64 n, .int .i64 a, .int .i64 b] w fun e w' => e = .returned (.bool v) ∧ w' = w := within_q h w
theorem mes_len {l : List (Int × Int)} (h : ¬ (1 ≤ l.length ∧ l.length ≤ 50)) : mesB l = false := mesB_f fun g => h ⟨g.1, g.2.1⟩
set_option maxRecDepth 100000 in
set_option maxHeartbeats 8000000 in
theorem refMeasures_any (z0 z1 z2 z3 side : Int) (a : Option Addr) (l : List (Int × Int)) (cap : Nat) (w : World) (hP : PairsS w a l) :
    Calls Try.prog 93 #[.agg #[.int .i64 z0, .int .i64 z1, .int .i64 z2, .int .i64 z3], .int .i64 side, .slice a l.length cap] w fun e w' => e = .returned (.bool (hisB z0 z1 z2 z3 side l)) ∧ Below w.heap.size w w' := by
  obtain ⟨hlen, hbd, blk, off, hadr, hc⟩ := hP
  by_cases h4 : btw side 0 3 = true
  · have H4 := Lib.hid h4
    by_cases hn : 1 ≤ l.length
    · by_cases hn2 : l.length ≤ 50
      · have n2 : ¬ (50 : Int) < (l.length : Int) := by omega
        by_cases h0 : btw z0 0 1000 = true
        · have H0 := Lib.hid h0
          by_cases h1 : btw z1 0 1000 = true
          · have H1 := Lib.hid h1
            by_cases h2 : btw z2 0 1000 = true
            · have H2 := Lib.hid h2
              by_cases h3 : btw z3 0 1000 = true
              · have H3 := Lib.hid h3
                have HT : Hid ((∀ j, j < l.length → mOk l j) → hisB z0 z1 z2 z3 side l = true) := Lib.hid fun h => by unfold hisB; simp [h0, h1, h2, h3, h4, mesB_t ⟨hn, hn2, h⟩]
                have HF : Hid (∀ j, j < l.length → ¬ mOk l j → hisB z0 z1 z2 z3 side l = false) := Lib.hid fun j hj h => by unfold hisB; simp [h0, h1, h2, h3, h4, mesB_f (fun g : MesOk l => h (g.2.2 j hj))]
                obtain rfl := hadr (fun h => by rw [h] at hn; simp at hn)
                have HC := Lib.hid hc
                have HD := Lib.hid hbd
                clear hc hbd hadr h0 h1 h2 h3 h4
                go_enter Try.func93, Try.ntmps93
                go_wp2_with (go_at_call 94; refine (within_any _ _ _ _).mono ?_; rintro e w' ⟨rfl, rfl⟩; first | rw [H4.out])
                refine wp_loop_rounds 5 ?_
                iterate 5 (rw [rounds_succ]; go_wp2_with (go_at_call 94; refine (within_any _ _ _ _).mono ?_; rintro e w' ⟨rfl, rfl⟩; first | rw [H0.out] | rw [H1.out] | rw [H2.out] | rw [H3.out]))
                go_loopw [8] (fun i wr => ∃ k : Nat, k ≤ l.length ∧ i = .int .i64 k ∧ Below w.heap.size w wr ∧ Hid (∀ j, j < k → mOk l j)) (fun i _ => l.length - (intOf i).toNat)
                case atStart => exact ⟨0, Nat.zero_le _, rfl, (Below.refl _ _).alloc (Nat.le_refl _) _, Lib.hid fun j hj => absurd hj (Nat.not_lt_zero _)⟩
                case round =>
                  obtain ⟨k, hk, rfl, hbr, HA⟩ := hrel
                  by_cases hlt : k < l.length
                  · obtain ⟨c0, c1⟩ := HC.out k hlt
                    have c0 := cell_below c0 hbr
                    have c1 := cell_below c1 hbr
                    obtain ⟨⟨x0, x1⟩, y0, y1⟩ := HD.out k hlt
                    have HK : Hid (mOk l k → ∀ j, j < k + 1 → mOk l j) := Lib.hid fun h j hj => by
                      by_cases ej : j = k
                      · subst ej; exact h
                      · exact HA.out j (by omega)
                    have HN := Lib.hid (HF.out k hlt)
                    by_cases hx : 0 ≤ (gp l k).1 ∧ (gp l k).1 ≤ 100000
                    · have HX := Lib.hid (within_q2 (btw_t hx.1 hx.2))
                      by_cases hy : 0 ≤ (gp l k).2 ∧ (gp l k).2 ≤ 100000
                      · have HY := Lib.hid (within_q2 (btw_t hy.1 hy.2))
                        by_cases hk0 : k = 0
                        · have HR : Hid (∀ j, j < k + 1 → mOk l j) := Lib.hid (HK.out (by subst hk0; exact ⟨by show (-1 : Int) < _; omega, hx.2, hy.1, hy.2⟩))
                          have hd1 : decide ((0 : Int) < (k : Int)) = false := by simp; omega
                          have hd2 : decide (0 < k) = false := by simp; omega
                          have hk1 : k < 1 := by omega
                          clear HK HN hx hy hk0 HF HT
                          generalize (gp l k).1 = x at *
                          generalize (gp l k).2 = y at *
                          go_wp2_with fail
                          go_quiet ((go_at_call 94; first | (with_reducible exact Calls.quiet_of_same (HX.out _)) | (with_reducible exact Calls.quiet_of_same (HY.out _))))
                          go_wp2_with fail
                          go_roundw
                          case rel => exact ⟨k + 1, by omega, by go_num, below_drewN hbr _, HR⟩
                          case measure => simp [intOf]; omega
                        · obtain ⟨m, rfl⟩ : ∃ m, k = m + 1 := ⟨k - 1, by omega⟩
                          obtain ⟨d0, _⟩ := HC.out m (by omega)
                          have d0 := cell_below d0 hbr
                          obtain ⟨⟨u0, u1⟩, _⟩ := HD.out m (by omega)
                          have HK2 : Hid ((gp l m).1 < (gp l (m + 1)).1 → ∀ j, j < m + 1 + 1 → mOk l j) := Lib.hid fun h => HK.out ⟨h, hx.2, hy.1, hy.2⟩
                          have HN2 : Hid (¬ (gp l m).1 < (gp l (m + 1)).1 → hisB z0 z1 z2 z3 side l = false) := Lib.hid fun h => HN.out fun g => h g.1
                          clear HK HN hx hy hk0 HF HT
                          generalize (gp l (m + 1)).1 = x at *
                          generalize (gp l (m + 1)).2 = y at *
                          generalize (gp l m).1 = p at *
                          by_cases hp : p < x
                          · have HR := Lib.hid (HK2.out hp)
                            clear HK2 HN2
                            go_wp2_with fail
                            go_quiet ((go_at_call 94; first | (with_reducible exact Calls.quiet_of_same (HX.out _)) | (with_reducible exact Calls.quiet_of_same (HY.out _))))
                            go_wp2_with fail
                            go_roundw
                            case rel => exact ⟨m + 1 + 1, by omega, by go_num, below_drewN hbr _, HR⟩
                            case measure => simp [intOf]; omega
                          · have HR := Lib.hid (HN2.out hp)
                            clear HK2 HN2
                            go_wp2_with fail
                            go_quiet ((go_at_call 94; first | (with_reducible exact Calls.quiet_of_same (HX.out _)) | (with_reducible exact Calls.quiet_of_same (HY.out _))))
                            go_wp2_with fail
                            go_ret
                            rw [HR.out]
                            exact ⟨rfl, below_drewN hbr _⟩
                      · have HY := Lib.hid (within_q2 (btw_f hy))
                        have HR := Lib.hid (HN.out fun g => hy g.2.2)
                        clear HK HN hx hy HF HT
                        generalize (gp l k).1 = x at *
                        generalize (gp l k).2 = y at *
                        go_wp2_with fail
                        go_quiet ((go_at_call 94; first | (with_reducible exact Calls.quiet_of_same (HX.out _)) | (with_reducible exact Calls.quiet_of_same (HY.out _))))
                        go_wp2_with fail
                        go_ret
                        rw [HR.out]
                        exact ⟨rfl, below_drewN hbr _⟩
                    · have HX := Lib.hid (within_q2 (btw_f hx))
                      have HR := Lib.hid (HN.out fun g => hx ⟨by have := (me_bd k HA.out).1; have := g.1; omega, g.2.1⟩)
                      clear HK HN hx HF HT
                      generalize (gp l k).1 = x at *
                      generalize (gp l k).2 = y at *
                      go_wp2_with fail
                      go_quiet ((go_at_call 94; with_reducible exact Calls.quiet_of_same (HX.out _)))
                      go_wp2_with fail
                      go_ret
                      rw [HR.out]
                      exact ⟨rfl, below_drewN hbr _⟩
                  · have HR := Lib.hid (HT.out (fun j hj => HA.out j (by omega)))
                    obtain rfl : k = l.length := by omega
                    clear HF HT
                    go_wp2_with fail
                    go_ret
                    rw [HR.out]
                    exact ⟨rfl, hbr⟩
              · have h3 : btw z3 0 1000 = false := by simpa using h3
                have H3 := Lib.hid h3
                have HE : Hid (hisB z0 z1 z2 z3 side l = false) := Lib.hid (by unfold hisB; simp [h0, h1, h2, h3])
                clear hc hbd hadr h4 h0 h1 h2 h3
                go_enter Try.func93, Try.ntmps93
                go_wp2_with (go_at_call 94; refine (within_any _ _ _ _).mono ?_; rintro e w' ⟨rfl, rfl⟩; first | rw [H4.out])
                refine wp_loop_rounds 4 ?_
                iterate 4 (rw [rounds_succ]; go_wp2_with (go_at_call 94; refine (within_any _ _ _ _).mono ?_; rintro e w' ⟨rfl, rfl⟩; first | rw [H0.out] | rw [H1.out] | rw [H2.out] | rw [H3.out]))
                go_ret
                rw [HE.out]
                refine ⟨rfl, ?_⟩
                go_grown
            · have h2 : btw z2 0 1000 = false := by simpa using h2
              have H2 := Lib.hid h2
              have HE : Hid (hisB z0 z1 z2 z3 side l = false) := Lib.hid (by unfold hisB; simp [h0, h1, h2])
              clear hc hbd hadr h4 h0 h1 h2
              go_enter Try.func93, Try.ntmps93
              go_wp2_with (go_at_call 94; refine (within_any _ _ _ _).mono ?_; rintro e w' ⟨rfl, rfl⟩; first | rw [H4.out])
              refine wp_loop_rounds 3 ?_
              iterate 3 (rw [rounds_succ]; go_wp2_with (go_at_call 94; refine (within_any _ _ _ _).mono ?_; rintro e w' ⟨rfl, rfl⟩; first | rw [H0.out] | rw [H1.out] | rw [H2.out]))
              go_ret
              rw [HE.out]
              refine ⟨rfl, ?_⟩
              go_grown
          · have h1 : btw z1 0 1000 = false := by simpa using h1
            have H1 := Lib.hid h1
            have HE : Hid (hisB z0 z1 z2 z3 side l = false) := Lib.hid (by unfold hisB; simp [h0, h1])
            clear hc hbd hadr h4 h0 h1
            go_enter Try.func93, Try.ntmps93
            go_wp2_with (go_at_call 94; refine (within_any _ _ _ _).mono ?_; rintro e w' ⟨rfl, rfl⟩; first | rw [H4.out])
            refine wp_loop_rounds 2 ?_
            iterate 2 (rw [rounds_succ]; go_wp2_with (go_at_call 94; refine (within_any _ _ _ _).mono ?_; rintro e w' ⟨rfl, rfl⟩; first | rw [H0.out] | rw [H1.out]))
            go_ret
            rw [HE.out]
            refine ⟨rfl, ?_⟩
            go_grown
        · have h0 : btw z0 0 1000 = false := by simpa using h0
          have H0 := Lib.hid h0
          have HE : Hid (hisB z0 z1 z2 z3 side l = false) := Lib.hid (by unfold hisB; simp [h0])
          clear hc hbd hadr h4 h0
          go_enter Try.func93, Try.ntmps93
          go_wp2_with (go_at_call 94; refine (within_any _ _ _ _).mono ?_; rintro e w' ⟨rfl, rfl⟩; first | rw [H4.out])
          refine wp_loop_rounds 1 ?_
          iterate 1 (rw [rounds_succ]; go_wp2_with (go_at_call 94; refine (within_any _ _ _ _).mono ?_; rintro e w' ⟨rfl, rfl⟩; first | rw [H0.out]))
          go_ret
          rw [HE.out]
          refine ⟨rfl, ?_⟩
          go_grown
      · have HE : Hid (hisB z0 z1 z2 z3 side l = false) := Lib.hid (by unfold hisB; simp [mes_len (fun g : 1 ≤ l.length ∧ l.length ≤ 50 => hn2 g.2)])
        have n2 : (50 : Int) < (l.length : Int) := by omega
        clear hc hbd hadr h4
        go_enter Try.func93, Try.ntmps93
        go_wp2_with (go_at_call 94; refine (within_any _ _ _ _).mono ?_; rintro e w' ⟨rfl, rfl⟩; first | rw [H4.out])
        go_ret
        rw [HE.out]
        refine ⟨rfl, ?_⟩
        go_grown
    · have HE : Hid (hisB z0 z1 z2 z3 side l = false) := Lib.hid (by unfold hisB; simp [mes_len (fun g : 1 ≤ l.length ∧ l.length ≤ 50 => hn g.1)])
      clear hc hbd hadr h4
      go_enter Try.func93, Try.ntmps93
      go_wp2_with (go_at_call 94; refine (within_any _ _ _ _).mono ?_; rintro e w' ⟨rfl, rfl⟩; first | rw [H4.out])
      go_ret
      rw [HE.out]
      refine ⟨rfl, ?_⟩
      go_grown
  · have h4 : btw side 0 3 = false := by simpa using h4
    have H4 := Lib.hid h4
    have HE : Hid (hisB z0 z1 z2 z3 side l = false) := Lib.hid (by unfold hisB; simp [h4])
    clear hc hbd hadr h4
    go_enter Try.func93, Try.ntmps93
    go_wp2_with (go_at_call 94; refine (within_any _ _ _ _).mono ?_; rintro e w' ⟨rfl, rfl⟩; first | rw [H4.out])
    go_ret
    rw [HE.out]
    refine ⟨rfl, ?_⟩
    go_grown
end Go.Proofs.Ytpkafkhdococeaa
