/-
  The walks of SameInts and of slices.Equal, of both Betters. By an AI agent.
-/
import Derived.Test.YtelehohffcncaaaLightTablesW
namespace Go.Proofs.Ytelehohffcncaaa
set_option linter.unusedVariables false
set_option linter.unusedSimpArgs false
open Go.RowKit

def sameB (l m : List Int) : Bool := decide (l = m)
theorem same_t {l m : List Int} (h : l.length = m.length) (hg : ∀ j, j < l.length → gi l j = gi m j) : sameB l m = true := by
  unfold sameB
  rw [decide_eq_true_eq]
  apply List.ext_getElem h
  intro i h1 h2
  have := hg i h1
  unfold gi at this
  rw [List.getD_eq_getElem?_getD, List.getD_eq_getElem?_getD, List.getElem?_eq_getElem h1, List.getElem?_eq_getElem h2] at this
  simpa using this
theorem same_len {l m : List Int} (h : ¬ l.length = m.length) : sameB l m = false := by unfold sameB; rw [decide_eq_false_iff_not]; intro e; rw [e] at h; exact h rfl
theorem same_gi {l m : List Int} {j : Nat} (h : ¬ gi l j = gi m j) : sameB l m = false := by unfold sameB; rw [decide_eq_false_iff_not]; intro e; rw [e] at h; exact h rfl
theorem same_iff {l m : List Int} : sameB l m = true ↔ l = m := by unfold sameB; simp

set_option maxRecDepth 100000 in
set_option maxHeartbeats 2000000 in
theorem sameInts_any (a c : Option Addr) (l m : List Int) (cap cap' : Nat) (w : World) (hI : IntsS w a l) (hJ : IntsS w c m) :
    Calls Try.prog 23 #[.slice a l.length cap, .slice c m.length cap'] w fun e w' => e = .returned (.bool (sameB l m)) ∧ Below w.heap.size w w' := by
  obtain ⟨hlen, hbd, blk, off, hadr, hc⟩ := hI
  obtain ⟨hlen', hbd', blk', off', hadr', hc'⟩ := hJ
  by_cases hl : l.length = m.length
  · have HT : Hid ((∀ j, j < l.length → gi l j = gi m j) → sameB l m = true) := Lib.hid (same_t hl)
    have HC := Lib.hid hc
    have HC' := Lib.hid hc'
    have HD := Lib.hid hbd
    have HD' := Lib.hid hbd'
    have hne2 : ((m.length : Int) != m.length) = false := by simp
    rw [hl] at HT HC HD ⊢
    have hadr2 : 0 < m.length → a = some ⟨blk, off, none⟩ := fun h => hadr (fun e => by rw [e] at hl; simp at hl; omega)
    have hadr3 : 0 < m.length → c = some ⟨blk', off', none⟩ := fun h => hadr' (fun e => by rw [e] at h; simp at h)
    have HA2 := Lib.hid hadr2
    have HA3 := Lib.hid hadr3
    clear hc hc' hbd hbd' hadr hadr' hadr2 hadr3 hl hlen
    go_enter Try.func23, Try.ntmps23
    go_wp2_with fail
    go_loopw [5] (fun i wr => ∃ k : Nat, k ≤ m.length ∧ i = .int .i64 k ∧ Below w.heap.size w wr ∧ Hid (∀ j, j < k → gi l j = gi m j)) (fun i _ => m.length - (intOf i).toNat)
    case atStart => exact ⟨0, Nat.zero_le _, rfl, Below.refl _ _, Lib.hid fun j hj => absurd hj (Nat.not_lt_zero _)⟩
    case round =>
      obtain ⟨k, hk, rfl, hbr, HA⟩ := hrel
      by_cases hlt : k < m.length
      · obtain rfl := HA2.out (by omega)
        obtain rfl := HA3.out (by omega)
        have c0 := cell_below (HC.out k hlt) hbr
        have c1 := cell_below (HC'.out k hlt) hbr
        obtain ⟨x0, x1⟩ := HD.out k hlt
        obtain ⟨y0, y1⟩ := HD'.out k hlt
        have g0 : (0 : Int) ≤ (k : Int) := by omega
        have g1 : (k : Int) < (m.length : Int) := by omega
        have HK : Hid (gi l k = gi m k → ∀ j, j < k + 1 → gi l j = gi m j) := Lib.hid fun h j hj => by
          by_cases ej : j = k
          · subst ej; exact h
          · exact HA.out j (by omega)
        have HN : Hid (¬ gi l k = gi m k → sameB l m = false) := Lib.hid same_gi
        clear HC HC' HD HD' HT HA2 HA3
        generalize gi l k = x at *
        generalize gi m k = y at *
        by_cases hxy : x = y
        · have HR := Lib.hid (HK.out hxy)
          subst hxy
          have hx1 : (x != x) = false := by simp
          clear HK HN
          go_wp2_with fail
          go_quiet (fail)
          go_wp2_with fail
          go_roundw
          case rel => exact ⟨k + 1, by omega, by go_num, below_drewN hbr _, HR⟩
          case measure => simp [intOf]; omega
        · have HR := Lib.hid (HN.out hxy)
          have hx1 : (x != y) = true := by simpa using hxy
          have hx2 : (x == y) = false := by simpa using hxy
          clear HK HN hxy
          go_wp2_with fail
          go_quiet (fail)
          go_wp2_with fail
          go_ret
          rw [HR.out]
          exact ⟨rfl, below_drewN hbr _⟩
      · have HR := Lib.hid (HT.out (fun j hj => HA.out j (by omega)))
        obtain rfl : k = m.length := by omega
        go_wp2_with fail
        go_ret
        rw [HR.out]
        exact ⟨rfl, hbr⟩
  · have HR := Lib.hid (same_len hl)
    have hn1 : ((l.length : Int) == m.length) = false := by simp; omega
    have hn2 : ((l.length : Int) != m.length) = true := by simp; omega
    clear hc hc' hbd hbd' hadr hadr' hl
    go_enter Try.func23, Try.ntmps23
    go_wp2_with fail
    go_ret
    rw [HR.out]
    exact ⟨rfl, Below.refl _ _⟩

set_option maxRecDepth 100000 in
set_option maxHeartbeats 2000000 in
theorem equal_any (a c : Option Addr) (l m : List Int) (cap cap' : Nat) (w : World) (hI : IntsS w a l) (hJ : IntsS w c m) :
    Calls Try.prog 26 #[.slice a l.length cap, .slice c m.length cap'] w fun e w' => e = .returned (.bool (sameB l m)) ∧ Below w.heap.size w w' := by
  obtain ⟨hlen, hbd, blk, off, hadr, hc⟩ := hI
  obtain ⟨hlen', hbd', blk', off', hadr', hc'⟩ := hJ
  by_cases hl : l.length = m.length
  · have HT : Hid ((∀ j, j < l.length → gi l j = gi m j) → sameB l m = true) := Lib.hid (same_t hl)
    have HC := Lib.hid hc
    have HC' := Lib.hid hc'
    have HD := Lib.hid hbd
    have HD' := Lib.hid hbd'
    have hne2 : ((m.length : Int) != m.length) = false := by simp
    rw [hl] at HT HC HD ⊢
    have hadr2 : 0 < m.length → a = some ⟨blk, off, none⟩ := fun h => hadr (fun e => by rw [e] at hl; simp at hl; omega)
    have hadr3 : 0 < m.length → c = some ⟨blk', off', none⟩ := fun h => hadr' (fun e => by rw [e] at h; simp at h)
    have HA2 := Lib.hid hadr2
    have HA3 := Lib.hid hadr3
    clear hc hc' hbd hbd' hadr hadr' hadr2 hadr3 hl hlen
    go_enter Try.func26, Try.ntmps26
    go_wp2_with fail
    go_loopw [13] (fun i wr => ∃ k : Nat, k ≤ m.length ∧ i = .int .i64 k ∧ Below w.heap.size w wr ∧ Hid (∀ j, j < k → gi l j = gi m j)) (fun i _ => m.length - (intOf i).toNat)
    case atStart => exact ⟨0, Nat.zero_le _, rfl, Below.refl _ _, Lib.hid fun j hj => absurd hj (Nat.not_lt_zero _)⟩
    case round =>
      obtain ⟨k, hk, rfl, hbr, HA⟩ := hrel
      by_cases hlt : k < m.length
      · obtain rfl := HA2.out (by omega)
        obtain rfl := HA3.out (by omega)
        have c0 := cell_below (HC.out k hlt) hbr
        have c1 := cell_below (HC'.out k hlt) hbr
        obtain ⟨x0, x1⟩ := HD.out k hlt
        obtain ⟨y0, y1⟩ := HD'.out k hlt
        have g0 : (0 : Int) ≤ (k : Int) := by omega
        have g1 : (k : Int) < (m.length : Int) := by omega
        have HK : Hid (gi l k = gi m k → ∀ j, j < k + 1 → gi l j = gi m j) := Lib.hid fun h j hj => by
          by_cases ej : j = k
          · subst ej; exact h
          · exact HA.out j (by omega)
        have HN : Hid (¬ gi l k = gi m k → sameB l m = false) := Lib.hid same_gi
        clear HC HC' HD HD' HT HA2 HA3
        generalize gi l k = x at *
        generalize gi m k = y at *
        by_cases hxy : x = y
        · have HR := Lib.hid (HK.out hxy)
          subst hxy
          have hx1 : (x != x) = false := by simp
          clear HK HN
          go_wp2_with fail
          go_quiet (fail)
          go_wp2_with fail
          go_roundw
          case rel => exact ⟨k + 1, by omega, by go_num, below_drewN hbr _, HR⟩
          case measure => simp [intOf]; omega
        · have HR := Lib.hid (HN.out hxy)
          have hx1 : (x != y) = true := by simpa using hxy
          have hx2 : (x == y) = false := by simpa using hxy
          clear HK HN hxy
          go_wp2_with fail
          go_quiet (fail)
          go_wp2_with fail
          go_ret
          rw [HR.out]
          exact ⟨rfl, below_drewN hbr _⟩
      · have HR := Lib.hid (HT.out (fun j hj => HA.out j (by omega)))
        obtain rfl : k = m.length := by omega
        go_wp2_with fail
        go_ret
        rw [HR.out]
        exact ⟨rfl, hbr⟩
  · have HR := Lib.hid (same_len hl)
    have hn1 : ((l.length : Int) == m.length) = false := by simp; omega
    have hn2 : ((l.length : Int) != m.length) = true := by simp; omega
    clear hc hc' hbd hbd' hadr hadr' hl
    go_enter Try.func26, Try.ntmps26
    go_wp2_with fail
    go_ret
    rw [HR.out]
    exact ⟨rfl, Below.refl _ _⟩

theorem rows_of {w : World} {ao ae ar : Option Addr} {o e : List Int} {r : List (List Int)} (hT : TableS w ao ae ar o e r) (hK : TableOk o e r) :
    ∃ br fr, ar = some ⟨br, fr, none⟩ ∧ ∀ i, i < o.length → ∃ b f cp, w.cell? ⟨br, fr + i, none⟩ = some (.slice (some ⟨b, f, none⟩) e.length cp) ∧ ∀ k, k < e.length → w.cell? ⟨b, f + k, none⟩ = some (.int .i64 (gi (gr r i) k)) := by
  have n0 := hK.1.1
  have n1 := hK.2.1.1
  have hrl := hK.2.2.1
  obtain ⟨_, br, fr, ad, cp, hr1, hr2⟩ := hT.2.2
  refine ⟨br, fr, hr1 (fun h => by rw [h] at hrl; simp at hrl; omega), fun i hi => ?_⟩
  obtain ⟨hr3, ⟨_, _, b, f, h1, h2⟩, _⟩ := hr2 i (by omega)
  have hl := (hK.2.2.2 i (by omega)).1
  refine ⟨b, f, cp i, ?_, fun k hk => h2 k (by omega)⟩
  rw [hr3, h1 (fun h => by rw [h] at hl; simp at hl; omega), hl]
/-- Nowhere a lesser coefficient. -/
def BetOk (o e : List Int) (r r' : List (List Int)) : Prop := ∀ i, i < o.length → ∀ k, k < e.length → gi (gr r' i) k ≤ gi (gr r i) k
open Classical in
noncomputable def betB (o e o' e' : List Int) (r r' : List (List Int)) : Bool := sameB o o' && (sameB e e' && decide (BetOk o e r r'))
theorem bet_t {o e : List Int} {r r' : List (List Int)} (h : BetOk o e r r') : betB o e o e r r' = true := by unfold betB sameB; simpa using h
theorem bet_f {o e : List Int} {r r' : List (List Int)} (h : ¬ BetOk o e r r') : betB o e o e r r' = false := by unfold betB sameB; simpa using h

set_option maxRecDepth 100000 in
set_option maxHeartbeats 8000000 in
theorem Better_any (ao ae ar ao' ae' ar' : Option Addr) (o e o' e' : List Int) (r r' : List (List Int)) (co ce cr co' ce' cr' : Nat) (w : World) (hT : TableS w ao ae ar o e r) (hU : TableS w ao' ae' ar' o' e' r') :
    Calls Try.prog 12 #[.agg #[.slice ao o.length co, .slice ae e.length ce, .slice ar r.length cr], .agg #[.slice ao' o'.length co', .slice ae' e'.length ce', .slice ar' r'.length cr']] w fun E w' => E = .returned (.tuple #[.bool (tableB o e r && (tableB o' e' r' && betB o e o' e' r r')), .int .i64 (if tableB o e r && tableB o' e' r' then 0 else 30)]) ∧ Below w.heap.size w w' := by
  have HV : Hid (∀ W, Below w.heap.size w W → Calls Try.prog 18 #[.agg #[.slice ao o.length co, .slice ae e.length ce, .slice ar r.length cr]] W fun E w' => E = .returned (.bool (tableB o e r)) ∧ Below W.heap.size W w') := Lib.hid fun W hW => validTable_any ao ae ar o e r co ce cr W (hT.below hW)
  have HU : Hid (∀ W, Below w.heap.size w W → Calls Try.prog 18 #[.agg #[.slice ao' o'.length co', .slice ae' e'.length ce', .slice ar' r'.length cr']] W fun E w' => E = .returned (.bool (tableB o' e' r')) ∧ Below W.heap.size W w') := Lib.hid fun W hW => validTable_any ao' ae' ar' o' e' r' co' ce' cr' W (hU.below hW)
  have HO : Hid (∀ W, Below w.heap.size w W → Calls Try.prog 26 #[.slice ao o.length co, .slice ao' o'.length co'] W fun E w' => E = .returned (.bool (sameB o o')) ∧ Below W.heap.size W w') := Lib.hid fun W hW => equal_any ao ao' o o' co co' W (hT.1.below hW) (hU.1.below hW)
  have HE : Hid (∀ W, Below w.heap.size w W → Calls Try.prog 26 #[.slice ae e.length ce, .slice ae' e'.length ce'] W fun E w' => E = .returned (.bool (sameB e e')) ∧ Below W.heap.size W w') := Lib.hid fun W hW => equal_any ae ae' e e' ce ce' W (hT.2.1.below hW) (hU.2.1.below hW)
  by_cases hb : tableB o e r = true
  · by_cases hb' : tableB o' e' r' = true
    · rw [hb] at HV ⊢
      rw [hb'] at HU ⊢
      by_cases ho : sameB o o' = true
      · by_cases he : sameB e e' = true
        · rw [ho] at HO
          rw [he] at HE
          obtain rfl := same_iff.1 ho
          obtain rfl := same_iff.1 he
          have hK := tableB_iff.1 hb
          have hK' := tableB_iff.1 hb'
          obtain ⟨br, fr, rfl, hrow⟩ := rows_of hT hK
          obtain ⟨br', fr', rfl, hrow'⟩ := rows_of hU hK'
          have HB1 : Hid (BetOk o e r r' → betB o e o e r r' = true) := Lib.hid bet_t
          have HB0 : Hid (∀ i k, i < o.length → k < e.length → ¬ gi (gr r' i) k ≤ gi (gr r i) k → betB o e o e r r' = false) := Lib.hid fun i k hi hk h => bet_f fun g => h (g i hi k hk)
          have HBd : Hid (∀ i k, i < o.length → k < e.length → (0 ≤ gi (gr r i) k ∧ gi (gr r i) k ≤ 100000) ∧ 0 ≤ gi (gr r' i) k ∧ gi (gr r' i) k ≤ 100000) := Lib.hid fun i k hi hk => ⟨tb_bd hK hi hk, tb_bd hK' hi hk⟩
          have HR := Lib.hid hrow
          have HR' := Lib.hid hrow'
          have hr1 : r.length = o.length := hK.2.2.1
          have hr2 : r'.length = o.length := hK'.2.2.1
          have n6 := hK.1.2.1
          have n7 := hK.2.1.2.1
          rw [hr1] at HV ⊢
          rw [hr2] at HU ⊢
          generalize hbb : betB o e o e r r' = bb at *
          clear hbb hT hU hb hb' ho he hK hK' hrow hrow' hr1 hr2
          go_enter Try.func12, Try.ntmps12
          go_wp2_with fail
          refine (HV.out _ box2_start).mono ?_
          rintro E w1 ⟨rfl, hb1⟩
          obtain ⟨hc1, hf1⟩ := bcell hb1
          go_wp2_with fail
          refine (HU.out _ (box2_below hb1)).mono ?_
          rintro E w2 ⟨rfl, hb2⟩
          have hb2 := hb1.trans (hb2.mono hb1.size)
          clear hc1 hf1
          obtain ⟨hc2, hf2⟩ := bcell hb2
          go_wp2_with fail
          refine (HO.out _ (box2_below hb2)).mono ?_
          rintro E w3 ⟨rfl, hb3⟩
          have hb3 := hb2.trans (hb3.mono hb2.size)
          clear hc2 hf2
          obtain ⟨hc3, hf3⟩ := bcell hb3
          go_wp2_with fail
          refine (HE.out _ (box2_below hb3)).mono ?_
          rintro E w4 ⟨rfl, hb4⟩
          have hb4 := hb3.trans (hb4.mono hb3.size)
          clear hc3 hf3
          obtain ⟨hc4, hf4⟩ := bcell hb4
          have hw := box2_below hb4
          have p2 := (hb4.cell (p := ⟨w.heap.size + 1, 2, none⟩) (by simp)).trans (show _ = some (Value.slice (some ⟨br', fr', none⟩) o.length cr') by simp [go_sem])
          go_wp2_with fail
          go_loop [35] (fun v => ∃ i : Nat, i ≤ o.length ∧ v = .int .i64 i ∧ Hid (∀ i', i' < i → ∀ k, k < e.length → gi (gr r' i') k ≤ gi (gr r i') k)) (fun v => o.length - (intOf v).toNat)
          case atStart => exact ⟨0, Nat.zero_le _, rfl, Lib.hid fun j hj => absurd hj (Nat.not_lt_zero _)⟩
          case round =>
            obtain ⟨i, hi, rfl, HA⟩ := hrel
            by_cases hlt : i < o.length
            · obtain ⟨b, f, cp, c0, hcc⟩ := HR.out i hlt
              obtain ⟨b', f', cp', d0, hdd⟩ := HR'.out i hlt
              have c0 := cell_below c0 hw
              have d0 := cell_below d0 hw
              have HCC := Lib.hid hcc
              have HDD := Lib.hid hdd
              clear hcc hdd
              go_wp2_with fail
              go_loop [42] (fun v => ∃ k : Nat, k ≤ e.length ∧ v = .int .i64 k ∧ Hid (∀ k', k' < k → gi (gr r' i) k' ≤ gi (gr r i) k')) (fun v => e.length - (intOf v).toNat)
              case atStart => exact ⟨0, Nat.zero_le _, rfl, Lib.hid fun j hj => absurd hj (Nat.not_lt_zero _)⟩
              case round =>
                obtain ⟨k, hk, rfl, HK⟩ := hrel
                by_cases hkt : k < e.length
                · have x0 := cell_below (HCC.out k hkt) hw
                  have y0 := cell_below (HDD.out k hkt) hw
                  obtain ⟨⟨u0, u1⟩, u2, u3⟩ := HBd.out i k hlt hkt
                  have HN := Lib.hid (HB0.out i k hlt hkt)
                  have HY : Hid (gi (gr r' i) k ≤ gi (gr r i) k → ∀ k', k' < k + 1 → gi (gr r' i) k' ≤ gi (gr r i) k') := Lib.hid fun h k' hk' => by
                    by_cases ek : k' = k
                    · subst ek; exact h
                    · exact HK.out k' (by omega)
                  generalize gi (gr r i) k = x at *
                  generalize gi (gr r' i) k = y at *
                  by_cases hxy : y ≤ x
                  · have HG := Lib.hid (HY.out hxy)
                    clear HY HN HBd
                    go_wp2_with fail
                    go_round
                    case rel => exact ⟨k + 1, by omega, by go_num, HG⟩
                    case measure => simp [intOf]; omega
                  · have HG := Lib.hid (HN.out (by omega))
                    clear HY HN HBd
                    go_wp2_with fail
                    go_ret2
                    rw [HG.out]
                    exact ⟨rfl, hw⟩
                · have HG : Hid (∀ i', i' < i + 1 → ∀ k, k < e.length → gi (gr r' i') k ≤ gi (gr r i') k) := Lib.hid fun i' hi' k' hk' => by
                    by_cases ei : i' = i
                    · subst ei; exact HK.out k' (by omega)
                    · exact HA.out i' (by omega) k' hk'
                  obtain rfl : k = e.length := by omega
                  go_wp2_with fail
                  go_round
                  case rel => exact ⟨i + 1, by omega, by go_num, HG⟩
                  case measure => simp [intOf]; omega
            · have HG := Lib.hid (HB1.out (fun i' hi' => HA.out i' (by omega)))
              obtain rfl : i = o.length := by omega
              go_wp2_with fail
              go_ret2
              rw [HG.out]
              exact ⟨rfl, hw⟩
        · have he : sameB e e' = false := by simpa using he
          rw [ho] at HO
          rw [he] at HE
          have hz : betB o e o' e' r r' = false := by unfold betB; rw [he]; simp
          rw [hz]
          clear hT hU hb hb' ho he hz
          go_enter Try.func12, Try.ntmps12
          go_wp2_with fail
          refine (HV.out _ box2_start).mono ?_
          rintro E w1 ⟨rfl, hb1⟩
          obtain ⟨hc1, hf1⟩ := bcell hb1
          go_wp2_with fail
          refine (HU.out _ (box2_below hb1)).mono ?_
          rintro E w2 ⟨rfl, hb2⟩
          have hb2 := hb1.trans (hb2.mono hb1.size)
          clear hc1 hf1
          obtain ⟨hc2, hf2⟩ := bcell hb2
          go_wp2_with fail
          refine (HO.out _ (box2_below hb2)).mono ?_
          rintro E w3 ⟨rfl, hb3⟩
          have hb3 := hb2.trans (hb3.mono hb2.size)
          clear hc2 hf2
          obtain ⟨hc3, hf3⟩ := bcell hb3
          go_wp2_with fail
          refine (HE.out _ (box2_below hb3)).mono ?_
          rintro E w4 ⟨rfl, hb4⟩
          have hb4 := hb3.trans (hb4.mono hb3.size)
          clear hc3 hf3
          obtain ⟨hc4, hf4⟩ := bcell hb4
          go_wp2_with fail
          go_ret2
          exact ⟨rfl, (box2_below hb4)⟩
      · have ho : sameB o o' = false := by simpa using ho
        rw [ho] at HO
        have hz : betB o e o' e' r r' = false := by unfold betB; rw [ho]; simp
        rw [hz]
        clear hT hU hb hb' ho hz
        go_enter Try.func12, Try.ntmps12
        go_wp2_with fail
        refine (HV.out _ box2_start).mono ?_
        rintro E w1 ⟨rfl, hb1⟩
        obtain ⟨hc1, hf1⟩ := bcell hb1
        go_wp2_with fail
        refine (HU.out _ (box2_below hb1)).mono ?_
        rintro E w2 ⟨rfl, hb2⟩
        have hb2 := hb1.trans (hb2.mono hb1.size)
        clear hc1 hf1
        obtain ⟨hc2, hf2⟩ := bcell hb2
        go_wp2_with fail
        refine (HO.out _ (box2_below hb2)).mono ?_
        rintro E w3 ⟨rfl, hb3⟩
        have hb3 := hb2.trans (hb3.mono hb2.size)
        clear hc2 hf2
        obtain ⟨hc3, hf3⟩ := bcell hb3
        go_wp2_with fail
        go_ret2
        exact ⟨rfl, (box2_below hb3)⟩
    · have hb' : tableB o' e' r' = false := by simpa using hb'
      rw [hb] at HV ⊢
      rw [hb'] at HU ⊢
      clear hT hU hb hb'
      go_enter Try.func12, Try.ntmps12
      go_wp2_with fail
      refine (HV.out _ box2_start).mono ?_
      rintro E w1 ⟨rfl, hb1⟩
      obtain ⟨hc1, hf1⟩ := bcell hb1
      go_wp2_with fail
      refine (HU.out _ (box2_below hb1)).mono ?_
      rintro E w2 ⟨rfl, hb2⟩
      have hb2 := hb1.trans (hb2.mono hb1.size)
      clear hc1 hf1
      obtain ⟨hc2, hf2⟩ := bcell hb2
      go_wp2_with fail
      go_ret2
      exact ⟨rfl, (box2_below hb2)⟩
  · have hb : tableB o e r = false := by simpa using hb
    rw [hb] at HV ⊢
    clear hT hU hb
    go_enter Try.func12, Try.ntmps12
    go_wp2_with fail
    refine (HV.out _ box2_start).mono ?_
    rintro E w1 ⟨rfl, hb1⟩
    obtain ⟨hc1, hf1⟩ := bcell hb1
    go_wp2_with fail
    go_ret2
    exact ⟨rfl, (box2_below hb1)⟩
end Go.Proofs.Ytelehohffcncaaa
