/-
  The walk of the reference Better. By an AI agent.
-/
import Derived.Test.YtanmelbkhojfoaaLightBe
namespace Go.Proofs.Ytanmelbkhojfoaa
set_option linter.unusedVariables false
set_option linter.unusedSimpArgs false
open Go.RowKit

set_option maxRecDepth 100000 in
set_option maxHeartbeats 8000000 in
theorem RefBetter_any (ao ae ar ao' ae' ar' : Option Addr) (o e o' e' : List Int) (r r' : List (List Int)) (co ce cr co' ce' cr' : Nat) (w : World) (hT : TableS w ao ae ar o e r) (hU : TableS w ao' ae' ar' o' e' r') :
    Calls Try.prog 38 #[.agg #[.slice ao o.length co, .slice ae e.length ce, .slice ar r.length cr], .agg #[.slice ao' o'.length co', .slice ae' e'.length ce', .slice ar' r'.length cr']] w fun E w' => E = .returned (.tuple #[.bool (tableB o e r && (tableB o' e' r' && betB o e o' e' r r')), .int .i64 (if tableB o e r && tableB o' e' r' then 0 else 30)]) ∧ Below w.heap.size w w' := by
  have HV : Hid (∀ W, Below w.heap.size w W → Calls Try.prog 22 #[.agg #[.slice ao o.length co, .slice ae e.length ce, .slice ar r.length cr]] W fun E w' => E = .returned (.bool (tableB o e r)) ∧ Below W.heap.size W w') := Lib.hid fun W hW => refValidTable_any ao ae ar o e r co ce cr W (hT.below hW)
  have HU : Hid (∀ W, Below w.heap.size w W → Calls Try.prog 22 #[.agg #[.slice ao' o'.length co', .slice ae' e'.length ce', .slice ar' r'.length cr']] W fun E w' => E = .returned (.bool (tableB o' e' r')) ∧ Below W.heap.size W w') := Lib.hid fun W hW => refValidTable_any ao' ae' ar' o' e' r' co' ce' cr' W (hU.below hW)
  have HO : Hid (∀ W, Below w.heap.size w W → Calls Try.prog 47 #[.slice ao o.length co, .slice ao' o'.length co'] W fun E w' => E = .returned (.bool (sameB o o')) ∧ Below W.heap.size W w') := Lib.hid fun W hW => sameInts_any ao ao' o o' co co' W (hT.1.below hW) (hU.1.below hW)
  have HE : Hid (∀ W, Below w.heap.size w W → Calls Try.prog 47 #[.slice ae e.length ce, .slice ae' e'.length ce'] W fun E w' => E = .returned (.bool (sameB e e')) ∧ Below W.heap.size W w') := Lib.hid fun W hW => sameInts_any ae ae' e e' ce ce' W (hT.2.1.below hW) (hU.2.1.below hW)
  by_cases hb : tableB o e r = true
  · by_cases hb' : tableB o' e' r' = true
    · rw [hb] at HV ⊢
      rw [hb'] at HU ⊢
      by_cases ho : sameB o o' = true
      · by_cases he : sameB e e' = true
        · rw [ho] at HO
          rw [he] at HE
          obtain rfl := same_iff.1 ho
          obtain rfl := same_iff.1 he
          have hK := tableB_iff.1 hb
          have hK' := tableB_iff.1 hb'
          obtain ⟨br, fr, rfl, hrow⟩ := rows_of hT hK
          obtain ⟨br', fr', rfl, hrow'⟩ := rows_of hU hK'
          have HB1 : Hid (BetOk o e r r' → betB o e o e r r' = true) := Lib.hid bet_t
          have HB0 : Hid (∀ i k, i < o.length → k < e.length → ¬ gi (gr r' i) k ≤ gi (gr r i) k → betB o e o e r r' = false) := Lib.hid fun i k hi hk h => bet_f fun g => h (g i hi k hk)
          have HBd : Hid (∀ i k, i < o.length → k < e.length → (0 ≤ gi (gr r i) k ∧ gi (gr r i) k ≤ 100000) ∧ 0 ≤ gi (gr r' i) k ∧ gi (gr r' i) k ≤ 100000) := Lib.hid fun i k hi hk => ⟨tb_bd hK hi hk, tb_bd hK' hi hk⟩
          have HR := Lib.hid hrow
          have HR' := Lib.hid hrow'
          have hr1 : r.length = o.length := hK.2.2.1
          have hr2 : r'.length = o.length := hK'.2.2.1
          have n6 := hK.1.2.1
          have n7 := hK.2.1.2.1
          rw [hr1] at HV ⊢
          rw [hr2] at HU ⊢
          generalize hbb : betB o e o e r r' = bb at *
          clear hbb hT hU hb hb' ho he hK hK' hrow hrow' hr1 hr2
          go_enter Try.func38, Try.ntmps38
          go_wp2_with fail
          refine (HV.out _ box2_start).mono ?_
          rintro E w1 ⟨rfl, hb1⟩
          obtain ⟨hc1, hf1⟩ := bcell hb1
          go_wp2_with fail
          refine (HU.out _ (box2_below hb1)).mono ?_
          rintro E w2 ⟨rfl, hb2⟩
          have hb2 := hb1.trans (hb2.mono hb1.size)
          clear hc1 hf1
          obtain ⟨hc2, hf2⟩ := bcell hb2
          go_wp2_with fail
          refine (HO.out _ (box2_below hb2)).mono ?_
          rintro E w3 ⟨rfl, hb3⟩
          have hb3 := hb2.trans (hb3.mono hb2.size)
          clear hc2 hf2
          obtain ⟨hc3, hf3⟩ := bcell hb3
          go_wp2_with fail
          refine (HE.out _ (box2_below hb3)).mono ?_
          rintro E w4 ⟨rfl, hb4⟩
          have hb4 := hb3.trans (hb4.mono hb3.size)
          clear hc3 hf3
          obtain ⟨hc4, hf4⟩ := bcell hb4
          go_wp2_with fail
          clear hc4 hf4
          go_loopw [6] (fun v wr => ∃ i : Nat, i ≤ o.length ∧ v = .int .i64 i ∧ Below ((w.alloc (.cells #[.slice ao o.length co, .slice ae e.length ce, .slice (some ⟨br, fr, none⟩) o.length cr] 25)).alloc (.cells #[.slice ao' o.length co', .slice ae' e.length ce', .slice (some ⟨br', fr', none⟩) o.length cr'] 25)).heap.size ((w.alloc (.cells #[.slice ao o.length co, .slice ae e.length ce, .slice (some ⟨br, fr, none⟩) o.length cr] 25)).alloc (.cells #[.slice ao' o.length co', .slice ae' e.length ce', .slice (some ⟨br', fr', none⟩) o.length cr'] 25)) wr ∧ Hid (∀ i', i' < i → ∀ k, k < e.length → gi (gr r' i') k ≤ gi (gr r i') k)) (fun v _ => o.length - (intOf v).toNat)
          case atStart => exact ⟨0, Nat.zero_le _, rfl, hb4, Lib.hid fun j hj => absurd hj (Nat.not_lt_zero _)⟩
          case round =>
            obtain ⟨i, hi, rfl, hbr, HA⟩ := hrel
            by_cases hlt : i < o.length
            · obtain ⟨b, f, cp, c0, hcc⟩ := HR.out i hlt
              obtain ⟨b', f', cp', d0, hdd⟩ := HR'.out i hlt
              have HCC := Lib.hid hcc
              have HDD := Lib.hid hdd
              clear hcc hdd
              have HC0 := Lib.hid c0
              have HD0 := Lib.hid d0
              have p0 := (hbr.cell (p := ⟨w.heap.size, 2, none⟩) (by simp; omega)).trans (show _ = some (Value.slice (some ⟨br, fr, none⟩) o.length cr) by simp [go_sem])
              clear c0 d0
              go_wp2_with fail
              clear p0
              obtain ⟨wo, rfl⟩ : ∃ wo : World, wo = wr := ⟨_, rfl⟩
              go_loopw [7] (fun v wr => ∃ k : Nat, k ≤ e.length ∧ v = .int .i64 k ∧ Below ((w.alloc (.cells #[.slice ao o.length co, .slice ae e.length ce, .slice (some ⟨br, fr, none⟩) o.length cr] 25)).alloc (.cells #[.slice ao' o.length co', .slice ae' e.length ce', .slice (some ⟨br', fr', none⟩) o.length cr'] 25)).heap.size ((w.alloc (.cells #[.slice ao o.length co, .slice ae e.length ce, .slice (some ⟨br, fr, none⟩) o.length cr] 25)).alloc (.cells #[.slice ao' o.length co', .slice ae' e.length ce', .slice (some ⟨br', fr', none⟩) o.length cr'] 25)) wr ∧ Hid (∀ k', k' < k → gi (gr r' i) k' ≤ gi (gr r i) k')) (fun v _ => e.length - (intOf v).toNat)
              case atStart => exact ⟨0, Nat.zero_le _, rfl, hbr, Lib.hid fun j hj => absurd hj (Nat.not_lt_zero _)⟩
              case round =>
                obtain ⟨k, hk, rfl, hbq, HK⟩ := hrel
                have hw := box2_below hbq
                have c0 := cell_below HC0.out hw
                have d0 := cell_below HD0.out hw
                have p0 := (hbq.cell (p := ⟨w.heap.size, 2, none⟩) (by simp; omega)).trans (show _ = some (Value.slice (some ⟨br, fr, none⟩) o.length cr) by simp [go_sem])
                have p2 := (hbq.cell (p := ⟨w.heap.size + 1, 2, none⟩) (by simp)).trans (show _ = some (Value.slice (some ⟨br', fr', none⟩) o.length cr') by simp [go_sem])
                have g0 : (0 : Int) ≤ (i : Int) := by omega
                have g1 : (i : Int) < (o.length : Int) := by omega
                have g2 : (0 : Int) ≤ (k : Int) := by omega
                by_cases hkt : k < e.length
                · have x0 := cell_below (HCC.out k hkt) hw
                  have y0 := cell_below (HDD.out k hkt) hw
                  have g3 : (k : Int) < (e.length : Int) := by omega
                  obtain ⟨⟨u0, u1⟩, u2, u3⟩ := HBd.out i k hlt hkt
                  have HN := Lib.hid (HB0.out i k hlt hkt)
                  have HY : Hid (gi (gr r' i) k ≤ gi (gr r i) k → ∀ k', k' < k + 1 → gi (gr r' i) k' ≤ gi (gr r i) k') := Lib.hid fun h k' hk' => by
                    by_cases ek : k' = k
                    · subst ek; exact h
                    · exact HK.out k' (by omega)
                  generalize gi (gr r i) k = x at *
                  generalize gi (gr r' i) k = y at *
                  by_cases hxy : y ≤ x
                  · have HG := Lib.hid (HY.out hxy)
                    have hdx : decide (x < y) = false := by simp; omega
                    clear HY HN HBd
                    go_wp2_with fail
                    go_quiet (fail)
                    go_wp2_with fail
                    go_roundw
                    case rel => exact ⟨k + 1, by omega, by go_num, below_drewN hbq _, HG⟩
                    case measure => simp [intOf]; omega
                  · have HG := Lib.hid (HN.out (by omega))
                    have hdx : decide (x < y) = true := by simp; omega
                    clear HY HN HBd
                    go_wp2_with fail
                    go_quiet (fail)
                    go_wp2_with fail
                    go_ret2
                    rw [HG.out]
                    exact ⟨rfl, below_drewN hw _⟩
                · have HG : Hid (∀ i', i' < i + 1 → ∀ k, k < e.length → gi (gr r' i') k ≤ gi (gr r i') k) := Lib.hid fun i' hi' k' hk' => by
                    by_cases ei : i' = i
                    · subst ei; exact HK.out k' (by omega)
                    · exact HA.out i' (by omega) k' hk'
                  obtain rfl : k = e.length := by omega
                  go_wp2_with fail
                  go_roundw
                  case rel => exact ⟨i + 1, by omega, by go_num, hbq, HG⟩
                  case measure => simp [intOf]; omega
            · have HG := Lib.hid (HB1.out (fun i' hi' => HA.out i' (by omega)))
              have p0 := (hbr.cell (p := ⟨w.heap.size, 2, none⟩) (by simp; omega)).trans (show _ = some (Value.slice (some ⟨br, fr, none⟩) o.length cr) by simp [go_sem])
              obtain rfl : i = o.length := by omega
              go_wp2_with fail
              go_ret2
              rw [HG.out]
              exact ⟨rfl, box2_below hbr⟩
        · have he : sameB e e' = false := by simpa using he
          rw [ho] at HO
          rw [he] at HE
          have hz : betB o e o' e' r r' = false := by unfold betB; rw [he]; simp
          rw [hz]
          clear hT hU hb hb' ho he hz
          go_enter Try.func38, Try.ntmps38
          go_wp2_with fail
          refine (HV.out _ box2_start).mono ?_
          rintro E w1 ⟨rfl, hb1⟩
          obtain ⟨hc1, hf1⟩ := bcell hb1
          go_wp2_with fail
          refine (HU.out _ (box2_below hb1)).mono ?_
          rintro E w2 ⟨rfl, hb2⟩
          have hb2 := hb1.trans (hb2.mono hb1.size)
          clear hc1 hf1
          obtain ⟨hc2, hf2⟩ := bcell hb2
          go_wp2_with fail
          refine (HO.out _ (box2_below hb2)).mono ?_
          rintro E w3 ⟨rfl, hb3⟩
          have hb3 := hb2.trans (hb3.mono hb2.size)
          clear hc2 hf2
          obtain ⟨hc3, hf3⟩ := bcell hb3
          go_wp2_with fail
          refine (HE.out _ (box2_below hb3)).mono ?_
          rintro E w4 ⟨rfl, hb4⟩
          have hb4 := hb3.trans (hb4.mono hb3.size)
          clear hc3 hf3
          obtain ⟨hc4, hf4⟩ := bcell hb4
          go_wp2_with fail
          go_ret2
          exact ⟨rfl, (box2_below hb4)⟩
      · have ho : sameB o o' = false := by simpa using ho
        rw [ho] at HO
        have hz : betB o e o' e' r r' = false := by unfold betB; rw [ho]; simp
        rw [hz]
        clear hT hU hb hb' ho hz
        go_enter Try.func38, Try.ntmps38
        go_wp2_with fail
        refine (HV.out _ box2_start).mono ?_
        rintro E w1 ⟨rfl, hb1⟩
        obtain ⟨hc1, hf1⟩ := bcell hb1
        go_wp2_with fail
        refine (HU.out _ (box2_below hb1)).mono ?_
        rintro E w2 ⟨rfl, hb2⟩
        have hb2 := hb1.trans (hb2.mono hb1.size)
        clear hc1 hf1
        obtain ⟨hc2, hf2⟩ := bcell hb2
        go_wp2_with fail
        refine (HO.out _ (box2_below hb2)).mono ?_
        rintro E w3 ⟨rfl, hb3⟩
        have hb3 := hb2.trans (hb3.mono hb2.size)
        clear hc2 hf2
        obtain ⟨hc3, hf3⟩ := bcell hb3
        go_wp2_with fail
        go_ret2
        exact ⟨rfl, (box2_below hb3)⟩
    · have hb' : tableB o' e' r' = false := by simpa using hb'
      rw [hb] at HV ⊢
      rw [hb'] at HU ⊢
      clear hT hU hb hb'
      go_enter Try.func38, Try.ntmps38
      go_wp2_with fail
      refine (HV.out _ box2_start).mono ?_
      rintro E w1 ⟨rfl, hb1⟩
      obtain ⟨hc1, hf1⟩ := bcell hb1
      go_wp2_with fail
      refine (HU.out _ (box2_below hb1)).mono ?_
      rintro E w2 ⟨rfl, hb2⟩
      have hb2 := hb1.trans (hb2.mono hb1.size)
      clear hc1 hf1
      obtain ⟨hc2, hf2⟩ := bcell hb2
      go_wp2_with fail
      go_ret2
      exact ⟨rfl, (box2_below hb2)⟩
  · have hb : tableB o e r = false := by simpa using hb
    rw [hb] at HV ⊢
    clear hT hU hb
    go_enter Try.func38, Try.ntmps38
    go_wp2_with fail
    refine (HV.out _ box2_start).mono ?_
    rintro E w1 ⟨rfl, hb1⟩
    obtain ⟨hc1, hf1⟩ := bcell hb1
    go_wp2_with fail
    go_ret2
    exact ⟨rfl, (box2_below hb1)⟩
end Go.Proofs.Ytanmelbkhojfoaa
