/-
  The walks of Due and of its reference. By an AI agent.
-/
import Derived.Test.YtpkafkhdococeaaLightVV
namespace Go.Proofs.Ytpkafkhdococeaa
set_option linter.unusedVariables false
set_option linter.unusedSimpArgs false
open Go.RowKit

noncomputable def dueB (z0 z1 z2 z3 side : Int) (l : List (Int × Int)) (least : Int) : Bool := hisB z0 z1 z2 z3 side l && btw least 0 100000
def dueN (d : Int) : Nat := ((100000 - d) / 365).toNat + 1
noncomputable def dueY (z0 z1 z2 z3 side : Int) (l : List (Int × Int)) (least : Int) : Option Nat := if dueB z0 z1 z2 z3 side l least then dueIx (gp l (l.length - 1)).2 (keepOf z0 z1 z2 z3 side) least (dueN (gp l (l.length - 1)).1) else none
def dueD (d : Int) : Option Nat → Int
  | some y => d + y * 365
  | none => 0
noncomputable def dueE (z0 z1 z2 z3 side : Int) (l : List (Int × Int)) (least : Int) : Int := if dueB z0 z1 z2 z3 side l least then 0 else 2
def DueEnd (z0 z1 z2 z3 side : Int) (l : List (Int × Int)) (least : Int) (e : Ending) : Prop := e = .returned (.tuple #[.int .i64 (dueD (gp l (l.length - 1)).1 (dueY z0 z1 z2 z3 side l least)), .bool (dueY z0 z1 z2 z3 side l least).isSome, .int .i64 (dueE z0 z1 z2 z3 side l least)])
theorem due_no {z0 z1 z2 z3 side : Int} {l : List (Int × Int)} {least : Int} (h : dueB z0 z1 z2 z3 side l least = false) : DueEnd z0 z1 z2 z3 side l least (.returned (.tuple #[.int .i64 0, .bool false, .int .i64 2])) := by
  have e1 : dueY z0 z1 z2 z3 side l least = none := by unfold dueY; rw [h]; rfl
  have e2 : dueE z0 z1 z2 z3 side l least = 2 := by unfold dueE; rw [h]; rfl
  unfold DueEnd
  rw [e1, e2]; rfl
theorem due_some {z0 z1 z2 z3 side : Int} {l : List (Int × Int)} {least : Int} {y : Nat} (h : dueB z0 z1 z2 z3 side l least = true) (hy : dueIx (gp l (l.length - 1)).2 (keepOf z0 z1 z2 z3 side) least (dueN (gp l (l.length - 1)).1) = some y) {v : Int} (hv : v = (gp l (l.length - 1)).1 + y * 365) : DueEnd z0 z1 z2 z3 side l least (.returned (.tuple #[.int .i64 v, .bool true, .int .i64 0])) := by
  have e1 : dueY z0 z1 z2 z3 side l least = some y := by unfold dueY; rw [if_pos h, hy]
  have e2 : dueE z0 z1 z2 z3 side l least = 0 := by unfold dueE; rw [if_pos h]
  unfold DueEnd
  rw [e1, e2, hv]; rfl
theorem due_none {z0 z1 z2 z3 side : Int} {l : List (Int × Int)} {least : Int} (h : dueB z0 z1 z2 z3 side l least = true) (hy : dueIx (gp l (l.length - 1)).2 (keepOf z0 z1 z2 z3 side) least (dueN (gp l (l.length - 1)).1) = none) : DueEnd z0 z1 z2 z3 side l least (.returned (.tuple #[.int .i64 0, .bool false, .int .i64 0])) := by
  have e1 : dueY z0 z1 z2 z3 side l least = none := by unfold dueY; rw [if_pos h, hy]
  have e2 : dueE z0 z1 z2 z3 side l least = 0 := by unfold dueE; rw [if_pos h]
  unfold DueEnd
  rw [e1, e2]; rfl

set_option maxRecDepth 100000 in
set_option maxHeartbeats 4000000 in
theorem due_any (z0 z1 z2 z3 side least : Int) (a : Option Addr) (l : List (Int × Int)) (cap : Nat) (w : World) (hP : PairsS w a l) (hl : I64 least) :
    Calls Try.prog 72 #[.agg #[.int .i64 z0, .int .i64 z1, .int .i64 z2, .int .i64 z3], .int .i64 side, .slice a l.length cap, .int .i64 least] w fun e w' => DueEnd z0 z1 z2 z3 side l least e ∧ Below w.heap.size w w' := by
  have HH : Hid (∀ W, Below w.heap.size w W → Calls Try.prog 90 #[.agg #[.int .i64 z0, .int .i64 z1, .int .i64 z2, .int .i64 z3], .int .i64 side, .slice a l.length cap] W fun e w' => e = .returned (.bool (hisB z0 z1 z2 z3 side l)) ∧ Below W.heap.size W w') := Lib.hid fun W hW => historyValid_any z0 z1 z2 z3 side a l cap W (hP.below hW)
  by_cases h : hisB z0 z1 z2 z3 side l = true
  · rw [h] at HH
    by_cases hb : btw least 0 100000 = true
    · have HB := Lib.hid hb
      have HD : dueB z0 z1 z2 z3 side l least = true := by unfold dueB; rw [h, hb]; rfl
      obtain ⟨b0, b1⟩ := (btw_iff _ _ _).1 hb
      have hM := (hisB_iff.1 h).2.2.2.2.2
      have hs := (hisB_iff.1 h).2.2.2.2.1
      have hkb := keep_bd h
      obtain ⟨s, rfl⟩ : ∃ s : Nat, side = s := ⟨side.toNat, by omega⟩
      have hs3 : s ≤ 3 := by omega
      have HKC := Lib.hid (keep_cell (z0 := z0) (z1 := z1) (z2 := z2) (z3 := z3) hs3)
      have HS : Hid (∀ (y : Nat) v, dueIx (gp l (l.length - 1)).2 (keepOf z0 z1 z2 z3 s) least (dueN (gp l (l.length - 1)).1) = some y → v = (gp l (l.length - 1)).1 + y * 365 → DueEnd z0 z1 z2 z3 s l least (.returned (.tuple #[.int .i64 v, .bool true, .int .i64 0]))) := Lib.hid fun y v h1 h2 => due_some HD h1 h2
      have HN : Hid (dueIx (gp l (l.length - 1)).2 (keepOf z0 z1 z2 z3 s) least (dueN (gp l (l.length - 1)).1) = none → DueEnd z0 z1 z2 z3 s l least (.returned (.tuple #[.int .i64 0, .bool false, .int .i64 0]))) := Lib.hid fun h1 => due_none HD h1
      have n0 := hM.1
      have n1 := hM.2.1
      obtain ⟨m0, m1, m2, m3⟩ := mes_day hM (show l.length - 1 < l.length by omega)
      obtain ⟨hlen, hbd, blk, off, hadr, hc⟩ := hP
      obtain rfl := hadr (fun h => by rw [h] at n0; simp at n0)
      obtain ⟨c0, c1⟩ := hc (l.length - 1) (by omega)
      obtain ⟨kb0, kb1⟩ := hkb
      clear hc hbd hadr h hb HD hM hs
      generalize keepOf z0 z1 z2 z3 s = kp at *
      generalize (gp l (l.length - 1)).1 = d at *
      generalize (gp l (l.length - 1)).2 = r at *
      obtain ⟨q, hq⟩ : ∃ q : Nat, (100000 - d) / 365 = q := ⟨((100000 - d) / 365).toNat, by omega⟩
      unfold dueN at HS HN
      rw [hq, Int.toNat_natCast] at HS HN
      have hq3 : q ≤ 300 := by omega
      have hq4 : 100000 - d < (q : Int) * 365 + 365 := by omega
      have hq5 : (q : Int) * 365 ≤ 100000 - d := by omega
      obtain ⟨m, hm⟩ : ∃ m, l.length = m + 1 := ⟨l.length - 1, by omega⟩
      rw [hm, Nat.add_sub_cancel] at c0 c1
      have hm1 : m ≤ 49 := by omega
      rw [hm] at HH ⊢
      have hbk := block_lt c0
      have HB0 : Hid (∀ k : Nat, 0 ≤ agV r kp k ∧ agV r kp k ≤ 100000) := Lib.hid fun k => agV_bd m2 m3 kb0 kb1 k
      clear hm n0 n1 hlen
      go_enter Try.func72, Try.ntmps72
      go_wp2_with fail
      refine (HH.out _ ((Below.refl _ _).alloc (Nat.le_refl _) _)).mono ?_
      rintro e w1 ⟨rfl, hb1⟩
      have q0 := cell_below c0 (box_below hb1)
      have q1 := cell_below c1 (box_below hb1)
      have p0 := (hb1.cell (p := ⟨w.heap.size, s, none⟩) (by simp)).trans (HKC.out w 62)
      have hz1 : w.heap.size < w1.heap.size := by have := hb1.size; simp at this; omega
      have hbw1 : blk < w1.heap.size := block_lt q0
      have hbw := box_below hb1
      have g0 : (0 : Int) ≤ (s : Int) := by omega
      have g1 : (s : Int) < 4 := by omega
      clear HKC c0 c1 HH hb1
      go_wp2_with (go_at_call 91; refine (coefValid_any _ _).mono ?_; rintro e w' ⟨rfl, rfl⟩; rw [HB.out])
      try simp only [hq]
      clear hq
      go_loop [12, 37] (fun x i => ∃ k : Nat, k ≤ q + 1 ∧ i = .int .i64 k ∧ x = .int .i64 (agV r kp k) ∧ Hid (dueIx r kp least k = none)) (fun _ i => q + 1 - (intOf i).toNat)
      case atStart => exact ⟨0, Nat.zero_le _, rfl, rfl, Lib.hid rfl⟩
      case round =>
        obtain ⟨k, hk, rfl, rfl, HA⟩ := hrel
        by_cases hlt : k < q + 1
        · obtain ⟨v0, v1⟩ := HB0.out k
          have HHit : Hid (agV r kp k < least → dueIx r kp least (q + 1) = some k) := Lib.hid fun h => dueIx_hit HA.out h _ hlt
          have HMiss : Hid (¬ agV r kp k < least → dueIx r kp least (k + 1) = none) := Lib.hid fun h => dueIx_miss HA.out h
          have HV : Hid (agV r kp (k + 1) = agV r kp k * kp / 1000) := Lib.hid rfl
          generalize agV r kp k = v at *
          by_cases hv : v < least
          · have HR := Lib.hid (HS.out k (d + k * 365) (HHit.out hv) rfl)
            clear HHit HMiss HS HN
            go_wp2_with fail
            go_returns
            exact ⟨HR.out, hbw.alloc (by omega) _⟩
          · have HR := Lib.hid (HMiss.out hv)
            clear HHit HMiss
            go_wp2_with (go_at_call 92; refine (afterYear_any _ _ _ v0 v1 kb0 kb1).mono ?_; rintro e w' ⟨rfl, rfl⟩)
            go_round
            case rel => exact ⟨k + 1, by omega, by go_num, by rw [HV.out], HR⟩
            case measure => simp [intOf]; omega
        · obtain rfl : k = q + 1 := by omega
          have HR := Lib.hid (HN.out HA.out)
          generalize agV r kp (q + 1) = v at *
          go_wp2_with fail
          go_returns
          exact ⟨HR.out, hbw.alloc (by omega) _⟩
    · have hb : btw least 0 100000 = false := by simpa using hb
      have HB := Lib.hid hb
      have HE := Lib.hid (due_no (z0 := z0) (z1 := z1) (z2 := z2) (z3 := z3) (side := side) (l := l) (least := least) (by unfold dueB; rw [h, hb]; rfl))
      clear hP h hb hl
      go_enter Try.func72, Try.ntmps72
      go_wp2_with fail
      refine (HH.out _ ((Below.refl _ _).alloc (Nat.le_refl _) _)).mono ?_
      rintro e w1 ⟨rfl, hb1⟩
      go_wp2_with (go_at_call 91; refine (coefValid_any _ _).mono ?_; rintro e w' ⟨rfl, rfl⟩; rw [HB.out])
      go_returns
      exact ⟨HE.out, box_below hb1⟩
  · have h : hisB z0 z1 z2 z3 side l = false := by simpa using h
    rw [h] at HH
    have HE := Lib.hid (due_no (z0 := z0) (z1 := z1) (z2 := z2) (z3 := z3) (side := side) (l := l) (least := least) (by unfold dueB; rw [h]; rfl))
    clear hP h hl
    go_enter Try.func72, Try.ntmps72
    go_wp2_with fail
    refine (HH.out _ ((Below.refl _ _).alloc (Nat.le_refl _) _)).mono ?_
    rintro e w1 ⟨rfl, hb1⟩
    go_wp2_with fail
    go_returns
    exact ⟨HE.out, box_below hb1⟩

set_option maxRecDepth 100000 in
set_option maxHeartbeats 4000000 in
theorem refDue_any (z0 z1 z2 z3 side least : Int) (a : Option Addr) (l : List (Int × Int)) (cap : Nat) (w : World) (hP : PairsS w a l) (hl : I64 least) :
    Calls Try.prog 74 #[.agg #[.int .i64 z0, .int .i64 z1, .int .i64 z2, .int .i64 z3], .int .i64 side, .slice a l.length cap, .int .i64 least] w fun e w' => DueEnd z0 z1 z2 z3 side l least e ∧ Below w.heap.size w w' := by
  have HH : Hid (∀ W, Below w.heap.size w W → Calls Try.prog 93 #[.agg #[.int .i64 z0, .int .i64 z1, .int .i64 z2, .int .i64 z3], .int .i64 side, .slice a l.length cap] W fun e w' => e = .returned (.bool (hisB z0 z1 z2 z3 side l)) ∧ Below W.heap.size W w') := Lib.hid fun W hW => refMeasures_any z0 z1 z2 z3 side a l cap W (hP.below hW)
  by_cases h : hisB z0 z1 z2 z3 side l = true
  · rw [h] at HH
    by_cases hb : btw least 0 100000 = true
    · have HB := Lib.hid hb
      have HD : dueB z0 z1 z2 z3 side l least = true := by unfold dueB; rw [h, hb]; rfl
      obtain ⟨b0, b1⟩ := (btw_iff _ _ _).1 hb
      have hM := (hisB_iff.1 h).2.2.2.2.2
      have hs := (hisB_iff.1 h).2.2.2.2.1
      have hkb := keep_bd h
      obtain ⟨s, rfl⟩ : ∃ s : Nat, side = s := ⟨side.toNat, by omega⟩
      have hs3 : s ≤ 3 := by omega
      have HKC := Lib.hid (keep_cell (z0 := z0) (z1 := z1) (z2 := z2) (z3 := z3) hs3)
      have HS : Hid (∀ (y : Nat) v, dueIx (gp l (l.length - 1)).2 (keepOf z0 z1 z2 z3 s) least (dueN (gp l (l.length - 1)).1) = some y → v = (gp l (l.length - 1)).1 + y * 365 → DueEnd z0 z1 z2 z3 s l least (.returned (.tuple #[.int .i64 v, .bool true, .int .i64 0]))) := Lib.hid fun y v h1 h2 => due_some HD h1 h2
      have HN : Hid (dueIx (gp l (l.length - 1)).2 (keepOf z0 z1 z2 z3 s) least (dueN (gp l (l.length - 1)).1) = none → DueEnd z0 z1 z2 z3 s l least (.returned (.tuple #[.int .i64 0, .bool false, .int .i64 0]))) := Lib.hid fun h1 => due_none HD h1
      have n0 := hM.1
      have n1 := hM.2.1
      obtain ⟨m0, m1, m2, m3⟩ := mes_day hM (show l.length - 1 < l.length by omega)
      obtain ⟨hlen, hbd, blk, off, hadr, hc⟩ := hP
      obtain rfl := hadr (fun h => by rw [h] at n0; simp at n0)
      obtain ⟨c0, c1⟩ := hc (l.length - 1) (by omega)
      obtain ⟨kb0, kb1⟩ := hkb
      clear hc hbd hadr h hb HD hM hs
      generalize keepOf z0 z1 z2 z3 s = kp at *
      generalize (gp l (l.length - 1)).1 = d at *
      generalize (gp l (l.length - 1)).2 = r at *
      obtain ⟨q, hq⟩ : ∃ q : Nat, (100000 - d) / 365 = q := ⟨((100000 - d) / 365).toNat, by omega⟩
      unfold dueN at HS HN
      rw [hq, Int.toNat_natCast] at HS HN
      have hq3 : q ≤ 300 := by omega
      have hq4 : 100000 - d < (q : Int) * 365 + 365 := by omega
      have hq5 : (q : Int) * 365 ≤ 100000 - d := by omega
      obtain ⟨m, hm⟩ : ∃ m, l.length = m + 1 := ⟨l.length - 1, by omega⟩
      rw [hm, Nat.add_sub_cancel] at c0 c1
      have hm1 : m ≤ 49 := by omega
      rw [hm] at HH ⊢
      have hbk := block_lt c0
      have HB0 : Hid (∀ k : Nat, 0 ≤ agV r kp k ∧ agV r kp k ≤ 100000) := Lib.hid fun k => agV_bd m2 m3 kb0 kb1 k
      clear hm n0 n1 hlen
      go_enter Try.func74, Try.ntmps74
      go_wp2_with fail
      refine (HH.out _ ((Below.refl _ _).alloc (Nat.le_refl _) _)).mono ?_
      rintro e w1 ⟨rfl, hb1⟩
      have q0 := cell_below c0 (box_below hb1)
      have q1 := cell_below c1 (box_below hb1)
      have p0 := (hb1.cell (p := ⟨w.heap.size, s, none⟩) (by simp)).trans (HKC.out w 62)
      have hz1 : w.heap.size < w1.heap.size := by have := hb1.size; simp at this; omega
      have hbw1 : blk < w1.heap.size := block_lt q0
      have hbw := box_below hb1
      have g0 : (0 : Int) ≤ (s : Int) := by omega
      have g1 : (s : Int) < 4 := by omega
      clear HKC c0 c1 HH hb1
      go_wp2_with (go_at_call 94; refine (within_any _ _ _ _).mono ?_; rintro e w' ⟨rfl, rfl⟩; rw [HB.out])
      try simp only [hq]
      clear hq
      go_loop [12, 13] (fun x i => ∃ (k : Nat) (dv : Int), k ≤ q + 1 ∧ dv = d + k * 365 ∧ i = .int .i64 dv ∧ x = .int .i64 (agV r kp k) ∧ Hid (dueIx r kp least k = none)) (fun _ i => (101000 - intOf i).toNat)
      case atStart => exact ⟨0, d, Nat.zero_le _, by simp, rfl, rfl, Lib.hid rfl⟩
      case round =>
        obtain ⟨k, dv, hk, hdv, rfl, rfl, HA⟩ := hrel
        by_cases hlt : k < q + 1
        · obtain ⟨v0, v1⟩ := HB0.out k
          have HHit : Hid (agV r kp k < least → dueIx r kp least (q + 1) = some k) := Lib.hid fun h => dueIx_hit HA.out h _ hlt
          have HMiss : Hid (¬ agV r kp k < least → dueIx r kp least (k + 1) = none) := Lib.hid fun h => dueIx_miss HA.out h
          have HV : Hid (agV r kp (k + 1) = agV r kp k * kp / 1000) := Lib.hid rfl
          have dv0 : 0 ≤ dv := by omega
          have dv1 : dv ≤ 100000 := by omega
          have HDV := Lib.hid hdv
          clear hdv
          generalize agV r kp k = v at *
          obtain ⟨pq, hpq, pq0, pq1⟩ : ∃ t, v * kp = t ∧ 0 ≤ t ∧ t ≤ 100000 * 1000 := ⟨_, rfl, prod_bd v0 v1 kb0 kb1⟩
          rw [hpq] at HV
          by_cases hv : v < least
          · have HR := Lib.hid (HS.out k dv (HHit.out hv) HDV.out)
            clear HHit HMiss HS HN hpq
            go_wp2_with fail
            go_returns
            exact ⟨HR.out, hbw.alloc (by omega) _⟩
          · have HR := Lib.hid (HMiss.out hv)
            clear HHit HMiss
            go_wp2_with fail
            go_round
            case rel => exact ⟨k + 1, dv + 365, by omega, by have := HDV.out; omega, rfl, by rw [HV.out], HR⟩
            case measure => simp [intOf]; omega
        · obtain rfl : k = q + 1 := by omega
          have HR := Lib.hid (HN.out HA.out)
          have dv1 : ¬ dv ≤ 100000 := by omega
          have dv2 : dv ≤ 1000000 := by omega
          clear hdv
          generalize agV r kp (q + 1) = v at *
          go_wp2_with fail
          go_returns
          exact ⟨HR.out, hbw.alloc (by omega) _⟩
    · have hb : btw least 0 100000 = false := by simpa using hb
      have HB := Lib.hid hb
      have HE := Lib.hid (due_no (z0 := z0) (z1 := z1) (z2 := z2) (z3 := z3) (side := side) (l := l) (least := least) (by unfold dueB; rw [h, hb]; rfl))
      clear hP h hb hl
      go_enter Try.func74, Try.ntmps74
      go_wp2_with fail
      refine (HH.out _ ((Below.refl _ _).alloc (Nat.le_refl _) _)).mono ?_
      rintro e w1 ⟨rfl, hb1⟩
      go_wp2_with (go_at_call 94; refine (within_any _ _ _ _).mono ?_; rintro e w' ⟨rfl, rfl⟩; rw [HB.out])
      go_returns
      exact ⟨HE.out, box_below hb1⟩
  · have h : hisB z0 z1 z2 z3 side l = false := by simpa using h
    rw [h] at HH
    have HE := Lib.hid (due_no (z0 := z0) (z1 := z1) (z2 := z2) (z3 := z3) (side := side) (l := l) (least := least) (by unfold dueB; rw [h]; rfl))
    clear hP h hl
    go_enter Try.func74, Try.ntmps74
    go_wp2_with fail
    refine (HH.out _ ((Below.refl _ _).alloc (Nat.le_refl _) _)).mono ?_
    rintro e w1 ⟨rfl, hb1⟩
    go_wp2_with fail
    go_returns
    exact ⟨HE.out, box_below hb1⟩
end Go.Proofs.Ytpkafkhdococeaa
