/-
  The walk of the reference's Valid, the way past its lengths. By an AI agent.
-/
import Derived.Test.YtmdifgkalooaoaaShopK
import Derived.Deep.RegionHeld3
namespace Go.Proofs.Ytmdifgkalooaoaa
set_option linter.unusedVariables false
set_option linter.unusedSimpArgs false
open Go.RowKit

set_option maxRecDepth 100000 in
set_option maxHeartbeats 4000000 in
theorem refValid_main (s : Sh) (w : World) (hI : ShS w s) (o0 : 0 ≤ s.O) (o1 : s.O < s.C) (o2 : s.C ≤ 1440) (h4 : s.H.length ≤ 400) (m0 : 1 ≤ s.M) (m1 : s.M ≤ 6) (h6 : (s.S.length : Int) = s.M) (h7 : s.J.length ≤ 12) :
    Calls Try.prog 20 #[.agg #[.int .i64 s.O, .int .i64 s.C, .slice s.aH s.H.length s.cH, .int .i64 s.M, .slice s.aS s.S.length s.cS, .slice s.aJ s.J.length s.cJ]] w fun e w' => e = .returned (.bool (shB s)) ∧ Below w.heap.size w w' := by
  have hB := ShBox.start w s 25
  have HS := Lib.hid (fun x W => step_sh s x W o0 o1 o2 m0 m1)
  obtain ⟨⟨hlenH, hbdH, bH, oH, hadrH, hcH⟩, ⟨hlenS, hbdS, bS, oS, hadrS, hcS⟩, hJJ⟩ := hI
  obtain ⟨hlenJ, bJ, oJ, ad, cp, hadrJ, hcJ⟩ := hJJ
  have HC := Lib.hid hcH
  have HD := Lib.hid hcS
  have HE : Hid (∀ k, k < s.J.length → w.cell? ⟨bJ, oJ + k, none⟩ = some (.slice (ad k) (gj s.J k).length (cp k)) ∧ StepsS w (ad k) (gj s.J k)) := Lib.hid fun k hk => ⟨(hcJ k hk).1, (hcJ k hk).2.1⟩
  have HLH : Hid (0 < s.H.length → s.aH = some ⟨bH, oH, none⟩) := Lib.hid fun h => hadrH (fun e => by rw [e] at h; simp at h)
  have HLS : Hid (0 < s.S.length → s.aS = some ⟨bS, oS, none⟩) := Lib.hid fun h => hadrS (fun e => by rw [e] at h; simp at h)
  have HLJ : Hid (0 < s.J.length → s.aJ = some ⟨bJ, oJ, none⟩) := Lib.hid fun h => hadrJ (fun e => by rw [e] at h; simp at h)
  have HT : Hid ((∀ j, j < s.H.length → hokAt s.H j) → (∀ j, j < s.S.length → setAt s.S j) → (∀ i, i < s.J.length → jobOk s.O s.C s.M (gj s.J i)) → shB s = true) := Lib.hid fun g1 g2 g3 => shB_t ⟨⟨o0, o1, o2⟩, ⟨h4, g1⟩, ⟨⟨m0, m1⟩, h6, g2⟩, h7, g3⟩
  have HF1 : Hid (∀ j, j < s.H.length → ¬ hokAt s.H j → shB s = false) := Lib.hid fun j hj h => shB_f fun g => h (g.2.1.2 j hj)
  have HF2 : Hid (∀ j, j < s.S.length → ¬ setAt s.S j → shB s = false) := Lib.hid fun j hj h => shB_f fun g => h (g.2.2.1.2.2 j hj)
  have HF3 : Hid (∀ j, j < s.J.length → ¬ jobOk s.O s.C s.M (gj s.J j) → shB s = false) := Lib.hid fun j hj h => shB_f fun g => h (g.2.2.2.2 j hj)
  have n4 : ¬ (400 : Int) < s.H.length := by omega
  have n7 : ¬ (12 : Int) < s.J.length := by omega
  have n6 : ((s.S.length : Int) != s.M) = false := by simpa using h6
  have hS6 : s.S.length ≤ 6 := by omega
  have HM := Lib.hid (btw_t m0 m1)
  generalize shB s = R at *
  clear hcH hcS hcJ hadrH hadrS hadrJ hbdH hbdS h6
  go_enter Try.func20, Try.ntmps20
  go_wp2_with (go_at_call 48; refine (rin_any _ _ _ _).mono ?_; rintro e w' ⟨rfl, rfl⟩; rw [HM.out])
  obtain ⟨wB, hwB⟩ : ∃ wB, w.alloc (.cells #[.int .i64 s.O, .int .i64 s.C, .slice s.aH s.H.length s.cH, .int .i64 s.M, .slice s.aS s.S.length s.cS, .slice s.aJ s.J.length s.cJ] 25) = wB := ⟨_, rfl⟩
  rw [hwB] at hB ⊢
  clear hwB HM n6 n4 n7
  go_loopw [3] (fun i wr => ∃ k : Nat, k ≤ s.H.length ∧ i = .int .i64 k ∧ ShBox w wr s ∧ Hid (∀ j, j < k → hokAt s.H j)) (fun i _ => s.H.length - (intOf i).toNat)
  case atStart => exact ⟨0, Nat.zero_le _, rfl, hB, Lib.hid fun j hj => absurd hj (Nat.not_lt_zero _)⟩
  case round =>
    clear hB
    obtain ⟨k, hk, rfl, hB1, HA⟩ := hrel
    have HB := Lib.hid hB1
    obtain ⟨hb, p0, p1, p2, p3, p4, p5⟩ := hB1
    by_cases hlt : k < s.H.length
    · have ha := HLH.out (by omega)
      have c0 := cell_below (HC.out k hlt) hb
      have n9 : (k : Int) < s.H.length := by omega
      have HK : Hid (hokAt s.H k → ∀ j, j < k + 1 → hokAt s.H j) := Lib.hid fun h j hj => by
        by_cases e : j = k
        · subst e; exact h
        · exact HA.out j (by omega)
      have HFk := Lib.hid (HF1.out k hlt)
      have Q : Hid (∀ n, ShBox w (wr.drewN n) s) := Lib.hid fun n => HB.out.drewN n
      rw [ha] at p2
      by_cases g1 : 0 ≤ gi s.H k ∧ gi s.H k ≤ 10000
      · have G1 := Lib.hid (btw_t g1.1 g1.2)
        by_cases e : k = 0
        · subst e
          have HR := Lib.hid (HK.out ⟨g1.1, g1.2, .inl rfl⟩)
          have d0 : decide ((0 : Int) < 0) = false := by decide
          rw [Nat.add_zero] at c0
          clear HC HD HE HLH HLS HLJ HT HF1 HF2 HF3 HK HFk g1 ha HS
          generalize gi s.H 0 = x at *
          go_wp2_with fail
          go_quiet ((go_at_call 48; exact Calls.quiet_of_same (rin_q G1.out _)))
          go_wp2_with fail
          go_roundw
          case rel => exact ⟨1, by omega, by go_num, Q.out _, HR⟩
          case measure => simp [intOf]; omega
        · obtain ⟨n, rfl⟩ : ∃ n, k = n + 1 := ⟨k - 1, by omega⟩
          have c1 := cell_below (HC.out n (by omega)) hb
          have ws : IntKind.i64.wrap (((n + 1 : Nat) : Int) - 1) = (n : Int) := by rw [show ((n + 1 : Nat) : Int) - 1 = n by omega]; exact IntWalk.i64_in _ (by omega)
          have HN : Hid (gi s.H n < gi s.H (n + 1) → hokAt s.H (n + 1)) := Lib.hid fun h => ⟨g1.1, g1.2, .inr (by rw [Nat.add_sub_cancel]; exact h)⟩
          have HN2 : Hid (¬ gi s.H n < gi s.H (n + 1) → ¬ hokAt s.H (n + 1)) := Lib.hid fun h g => by
            rcases g.2.2 with g | g
            · omega
            · rw [Nat.add_sub_cancel] at g; exact h g
          have d0 : decide ((0 : Int) < ((n + 1 : Nat) : Int)) = true := by simp <;> omega
          have n9 : ((n + 1 : Nat) : Int) < s.H.length := by omega
          by_cases g2 : gi s.H n < gi s.H (n + 1)
          · have HR := Lib.hid (HK.out (HN.out g2))
            have d2 : decide (gi s.H (n + 1) ≤ gi s.H n) = false := by simp; omega
            clear HC HD HE HLH HLS HLJ HT HF1 HF2 HF3 HK HFk g1 ha HS HN HN2
            generalize gi s.H (n + 1) = x at *
            generalize gi s.H n = y at *
            go_wp2_with fail
            go_quiet ((go_at_call 48; exact Calls.quiet_of_same (rin_q G1.out _)))
            go_wp2_with fail
            go_roundw
            case rel => exact ⟨n + 1 + 1, by omega, by go_num, Q.out _, HR⟩
            case measure => simp [intOf]; omega
          · have HR := Lib.hid (HFk.out (HN2.out g2))
            have d2 : decide (gi s.H (n + 1) ≤ gi s.H n) = true := by simp; omega
            clear HC HD HE HLH HLS HLJ HT HF1 HF2 HF3 HK HFk g1 ha HS HN HN2
            generalize gi s.H (n + 1) = x at *
            generalize gi s.H n = y at *
            go_wp2_with fail
            go_quiet ((go_at_call 48; exact Calls.quiet_of_same (rin_q G1.out _)))
            go_wp2_with fail
            go_ret
            rw [HR.out]
            exact ⟨rfl, below_drewN hb _⟩
      · have G1 := Lib.hid (btw_f g1)
        have HR := Lib.hid (HFk.out fun h => g1 ⟨h.1, h.2.1⟩)
        clear HC HD HE HLH HLS HLJ HT HF1 HF2 HF3 HK HFk g1 ha HS
        generalize gi s.H k = x at *
        go_wp2_with fail
        go_quiet ((go_at_call 48; exact Calls.quiet_of_same (rin_q G1.out _)))
        go_wp2_with fail
        go_ret
        rw [HR.out]
        exact ⟨rfl, below_drewN hb _⟩
    · obtain rfl : k = s.H.length := by omega
      have HT := Lib.hid (HT.out HA.out)
      clear HA HC HF1 HLH hlt hk
      go_wp2_with fail
      clear hb p0 p1 p2 p3 p4 p5
      go_loopw [4] (fun i wr => ∃ k : Nat, k ≤ s.S.length ∧ i = .int .i64 k ∧ ShBox w wr s ∧ Hid (∀ j, j < k → setAt s.S j)) (fun i _ => s.S.length - (intOf i).toNat)
      case atStart => exact ⟨0, Nat.zero_le _, rfl, HB.out, Lib.hid fun j hj => absurd hj (Nat.not_lt_zero _)⟩
      case round =>
        clear HB
        obtain ⟨k, hk, rfl, hB1, HA⟩ := hrel
        have HB := Lib.hid hB1
        obtain ⟨hb, p0, p1, p2, p3, p4, p5⟩ := hB1
        by_cases hlt : k < s.S.length
        · have ha := HLS.out (by omega)
          have c0 := cell_below (HD.out k hlt) hb
          have n9 : (k : Int) < s.S.length := by omega
          have HK : Hid (setAt s.S k → ∀ j, j < k + 1 → setAt s.S j) := Lib.hid fun h j hj => by
            by_cases e : j = k
            · subst e; exact h
            · exact HA.out j (by omega)
          have HFk := Lib.hid (HF2.out k hlt)
          rw [ha] at p4
          by_cases g1 : 0 ≤ gi s.S k ∧ gi s.S k ≤ 1000
          · have G1 := Lib.hid (btw_t g1.1 g1.2)
            have HR := Lib.hid (HK.out g1)
            clear HD HE HLS HLJ HT HF2 HF3 HK HFk g1 ha HS
            generalize gi s.S k = x at *
            go_wp2_with (go_at_call 48; refine (rin_any _ _ _ _).mono ?_; rintro e w' ⟨rfl, rfl⟩; rw [G1.out])
            go_roundw
            case rel => exact ⟨k + 1, by omega, by go_num, HB.out, HR⟩
            case measure => simp [intOf]; omega
          · have G1 := Lib.hid (btw_f g1)
            have HR := Lib.hid (HFk.out fun h => g1 h)
            clear HD HE HLS HLJ HT HF2 HF3 HK HFk g1 ha HS
            generalize gi s.S k = x at *
            go_wp2_with (go_at_call 48; refine (rin_any _ _ _ _).mono ?_; rintro e w' ⟨rfl, rfl⟩; rw [G1.out])
            go_ret
            rw [HR.out]
            exact ⟨rfl, hb⟩
        · obtain rfl : k = s.S.length := by omega
          have HT := Lib.hid (HT.out HA.out)
          clear HA HD HF2 HLS hlt hk
          go_wp2_with fail
          clear hb p0 p1 p2 p3 p4 p5
          go_loopw [5] (fun i wr => ∃ k : Nat, k ≤ s.J.length ∧ i = .int .i64 k ∧ ShBox w wr s ∧ Hid (∀ j, j < k → jobOk s.O s.C s.M (gj s.J j))) (fun i _ => s.J.length - (intOf i).toNat)
          case atStart => exact ⟨0, Nat.zero_le _, rfl, HB.out, Lib.hid fun j hj => absurd hj (Nat.not_lt_zero _)⟩
          case round =>
            clear HB
            obtain ⟨k, hk, rfl, hB1, HA⟩ := hrel
            have HB := Lib.hid hB1
            obtain ⟨hb, p0, p1, p2, p3, p4, p5⟩ := hB1
            by_cases hlt : k < s.J.length
            · have ha := HLJ.out (by omega)
              obtain ⟨c0, hI1⟩ := HE.out k hlt
              have c0 := cell_below c0 hb
              obtain ⟨hln, hbd, b1, f1, hadr1, hc1⟩ := hI1.below hb
              have n9 : (k : Int) < s.J.length := by omega
              have HK : Hid (jobOk s.O s.C s.M (gj s.J k) → ∀ j, j < k + 1 → jobOk s.O s.C s.M (gj s.J j)) := Lib.hid fun h j hj => by
                by_cases e : j = k
                · subst e; exact h
                · exact HA.out j (by omega)
              have HFk := Lib.hid (HF3.out k hlt)
              have HC1 := Lib.hid hc1
              have HL1 : Hid (0 < (gj s.J k).length → ad k = some ⟨b1, f1, none⟩) := Lib.hid fun h => hadr1 (fun e => by rw [e] at h; simp at h)
              rw [ha] at p5
              clear HE HLJ HT HF3 ha hbd hc1 hadr1 hI1
              generalize gj s.J k = l at *
              generalize ad k = al at *
              generalize cp k = cl at *
              by_cases g8 : l.length ≤ 8
              · have n8 : ¬ (8 : Int) < l.length := by omega
                have HK : Hid ((∀ i, i < l.length → stpOk s.O s.C s.M (gs l i)) → ∀ j, j < k + 1 → jobOk s.O s.C s.M (gj s.J j)) := Lib.hid fun h => HK.out ⟨g8, h⟩
                have HFk : Hid (∀ i, i < l.length → ¬ stpOk s.O s.C s.M (gs l i) → R = false) := Lib.hid fun i hi h => HFk.out fun g => h (g.2 i hi)
                go_wp2_with fail
                clear hb p0 p1 p2 p3 p4 p5 c0
                obtain ⟨wo, rfl⟩ : ∃ wo : World, wo = wr := ⟨_, rfl⟩
                go_loopw [7] (fun i wr => ∃ n : Nat, n ≤ l.length ∧ i = .int .i64 n ∧ ShBox w wr s ∧ Below wo.heap.size wo wr ∧ Hid (∀ j, j < n → stpOk s.O s.C s.M (gs l j))) (fun i _ => l.length - (intOf i).toNat)
                case atStart => exact ⟨0, Nat.zero_le _, rfl, HB.out, Below.refl _ _, Lib.hid fun j hj => absurd hj (Nat.not_lt_zero _)⟩
                case round =>
                  clear HB
                  obtain ⟨n, hn, rfl, hB1, hbo, HA1⟩ := hrel
                  have HB := Lib.hid hB1
                  obtain ⟨hb, p0, p1, p2, p3, p4, p5⟩ := hB1
                  by_cases hlt1 : n < l.length
                  · obtain rfl := HL1.out (by omega)
                    obtain ⟨c0, c1, c2, c3⟩ := HC1.out n hlt1
                    have c0 := cell_below c0 hbo
                    have c1 := cell_below c1 hbo
                    have c2 := cell_below c2 hbo
                    have c3 := cell_below c3 hbo
                    have n10 : (n : Int) < l.length := by omega
                    have HN : Hid (stpOk s.O s.C s.M (gs l n) → ∀ j, j < n + 1 → stpOk s.O s.C s.M (gs l j)) := Lib.hid fun h j hj => by
                      by_cases e : j = n
                      · subst e; exact h
                      · exact HA1.out j (by omega)
                    have HFn := Lib.hid (HFk.out n hlt1)
                    have HSn := Lib.hid (HS.out (gs l n))
                    have HV := Lib.hid (stpB_iff (O := s.O) (C := s.C) (M := s.M) (p := gs l n))
                    clear HK HFk HC1 HL1 HS
                    generalize stpB s.O s.C s.M (gs l n) = v at *
                    generalize (gs l n).1 = x0 at *
                    generalize (gs l n).2.1 = x1 at *
                    generalize (gs l n).2.2.1 = x2 at *
                    generalize (gs l n).2.2.2 = x3 at *
                    have z0 := block_lt p0
                    have zb := block_lt c0
                    cases hv : v with
                    | true =>
                      have HR := Lib.hid (HN.out (HV.out.1 hv))
                      rw [hv] at HSn
                      clear HN HFn HV hv
                      go_wp2_with fail
                      have hBB := HB.out
                      clear HB
                      go_region_held3 (fun w' => w'.cell? ⟨w.heap.size, 0, none⟩ = some (.int .i64 s.O) ∧ w'.cell? ⟨w.heap.size, 1, none⟩ = some (.int .i64 s.C) ∧ w'.cell? ⟨w.heap.size, 2, none⟩ = some (.slice s.aH s.H.length s.cH) ∧ w'.cell? ⟨w.heap.size, 3, none⟩ = some (.int .i64 s.M) ∧ w'.cell? ⟨w.heap.size, 4, none⟩ = some (.slice s.aS s.S.length s.cS) ∧ w'.cell? ⟨w.heap.size, 5, none⟩ = some (.slice s.aJ s.J.length s.cJ) ∧ w'.cell? ⟨b1, f1 + n * 4, none⟩ = some (.int .i64 x0) ∧ w'.cell? ⟨b1, f1 + n * 4 + 1, none⟩ = some (.int .i64 x1) ∧ w'.cell? ⟨b1, f1 + n * 4 + 2, none⟩ = some (.int .i64 x2) ∧ w'.cell? ⟨b1, f1 + n * 4 + 3, none⟩ = some (.int .i64 x3)) (go_keep)
                        ((go_at_call 49
                          refine (HSn.out _).mono ?_
                          rintro E w9 ⟨rfl, hb9⟩
                          have p0 := (hb9.cell (p := ⟨w.heap.size, 0, none⟩) z0).trans p0
                          have p1 := (hb9.cell (p := ⟨w.heap.size, 1, none⟩) z0).trans p1
                          have p2 := (hb9.cell (p := ⟨w.heap.size, 2, none⟩) z0).trans p2
                          have p3 := (hb9.cell (p := ⟨w.heap.size, 3, none⟩) z0).trans p3
                          have p4 := (hb9.cell (p := ⟨w.heap.size, 4, none⟩) z0).trans p4
                          have p5 := (hb9.cell (p := ⟨w.heap.size, 5, none⟩) z0).trans p5
                          have c0 := (hb9.cell (p := ⟨b1, f1 + n * 4, none⟩) zb).trans c0
                          have c1 := (hb9.cell (p := ⟨b1, f1 + n * 4 + 1, none⟩) zb).trans c1
                          have c2 := (hb9.cell (p := ⟨b1, f1 + n * 4 + 2, none⟩) zb).trans c2
                          have c3 := (hb9.cell (p := ⟨b1, f1 + n * 4 + 3, none⟩) zb).trans c3
                          have hBB : ShBox w w9 s := by first | exact (hBB.on (Below.refl _ _).drew).on hb9 | exact hBB.on hb9
                          have hbo : Below wo.heap.size wo w9 := by first | exact (hbo.drew).trans (hb9.mono hbo.size) | exact hbo.trans (hb9.mono hbo.size)))
                      all_goals
                        go_wp2_with fail
                        go_roundw
                        case rel => exact ⟨n + 1, by omega, by go_num, hBB, hbo, HR⟩
                        case measure => simp [intOf]; omega
                    | false =>
                      have HR := Lib.hid (HFn.out (fun h => by have := HV.out.2 h; rw [hv] at this; cases this))
                      rw [hv] at HSn
                      clear HN HFn HV hv
                      go_wp2_with fail
                      have hBB := HB.out
                      clear HB
                      go_region_held3 (fun w' => w'.cell? ⟨w.heap.size, 0, none⟩ = some (.int .i64 s.O) ∧ w'.cell? ⟨w.heap.size, 1, none⟩ = some (.int .i64 s.C) ∧ w'.cell? ⟨w.heap.size, 2, none⟩ = some (.slice s.aH s.H.length s.cH) ∧ w'.cell? ⟨w.heap.size, 3, none⟩ = some (.int .i64 s.M) ∧ w'.cell? ⟨w.heap.size, 4, none⟩ = some (.slice s.aS s.S.length s.cS) ∧ w'.cell? ⟨w.heap.size, 5, none⟩ = some (.slice s.aJ s.J.length s.cJ) ∧ w'.cell? ⟨b1, f1 + n * 4, none⟩ = some (.int .i64 x0) ∧ w'.cell? ⟨b1, f1 + n * 4 + 1, none⟩ = some (.int .i64 x1) ∧ w'.cell? ⟨b1, f1 + n * 4 + 2, none⟩ = some (.int .i64 x2) ∧ w'.cell? ⟨b1, f1 + n * 4 + 3, none⟩ = some (.int .i64 x3)) (go_keep)
                        ((go_at_call 49
                          refine (HSn.out _).mono ?_
                          rintro E w9 ⟨rfl, hb9⟩
                          have p0 := (hb9.cell (p := ⟨w.heap.size, 0, none⟩) z0).trans p0
                          have p1 := (hb9.cell (p := ⟨w.heap.size, 1, none⟩) z0).trans p1
                          have p2 := (hb9.cell (p := ⟨w.heap.size, 2, none⟩) z0).trans p2
                          have p3 := (hb9.cell (p := ⟨w.heap.size, 3, none⟩) z0).trans p3
                          have p4 := (hb9.cell (p := ⟨w.heap.size, 4, none⟩) z0).trans p4
                          have p5 := (hb9.cell (p := ⟨w.heap.size, 5, none⟩) z0).trans p5
                          have c0 := (hb9.cell (p := ⟨b1, f1 + n * 4, none⟩) zb).trans c0
                          have c1 := (hb9.cell (p := ⟨b1, f1 + n * 4 + 1, none⟩) zb).trans c1
                          have c2 := (hb9.cell (p := ⟨b1, f1 + n * 4 + 2, none⟩) zb).trans c2
                          have c3 := (hb9.cell (p := ⟨b1, f1 + n * 4 + 3, none⟩) zb).trans c3
                          have hBB : ShBox w w9 s := by first | exact (hBB.on (Below.refl _ _).drew).on hb9 | exact hBB.on hb9
                          have hbo : Below wo.heap.size wo w9 := by first | exact (hbo.drew).trans (hb9.mono hbo.size) | exact hbo.trans (hb9.mono hbo.size)))
                      all_goals
                        go_wp2_with fail
                        go_ret
                        rw [HR.out]
                        exact ⟨rfl, hBB.1⟩
                  · obtain rfl : n = l.length := by omega
                    have HR := Lib.hid (HK.out HA1.out)
                    clear HK HFk HC1 HL1 HS HA1 hlt1
                    go_wp2_with fail
                    go_roundw
                    case rel => exact ⟨k + 1, by omega, by go_num, HB.out, HR⟩
                    case measure => simp [intOf]; omega
              · have n8 : (8 : Int) < l.length := by omega
                have HR := Lib.hid (HFk.out fun g => g8 g.1)
                clear HK HFk HC1 HL1 HS
                go_wp2_with fail
                go_ret
                rw [HR.out]
                exact ⟨rfl, hb⟩
            · obtain rfl : k = s.J.length := by omega
              have HR := Lib.hid (HT.out HA.out)
              clear HA HE HF3 HLJ HT hlt
              go_wp2_with fail
              go_ret
              rw [HR.out]
              exact ⟨rfl, hb⟩
end Go.Proofs.Ytmdifgkalooaoaa
