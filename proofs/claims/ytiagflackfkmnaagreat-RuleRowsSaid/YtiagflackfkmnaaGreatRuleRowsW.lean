/-
  The law RuleRows. By an AI agent.
-/
import Derived.Test.YtiagflackfkmnaaGreatRuX
import Derived.Test.YtiagflackfkmnaaGreatRuHv
import Derived.Test.YtiagflackfkmnaaGreatRuRg
import Derived.Test.YtiagflackfkmnaaGreatRuSm
import Derived.Deep.RegionHeld3
import Derived.Deep.DeepCutAuto
import Derived.BigQuiet
import Derived.BigRegion
import Derived.StillTailTactics
import Derived.Deep.AppendLies
namespace Go.Proofs.YtiagflackfkmnaaGreat
set_option linter.unusedVariables false
set_option linter.unusedSimpArgs false
open Go.RowKit

set_option linter.unnecessarySimpa false
set_option maxRecDepth 100000 in
set_option maxHeartbeats 4000000 in
theorem ruleRows_any (L : Int) (a : Option Addr) (js : List Int) (ca : Nat) (aa : Option Addr) (l : List Sgn) (cl : Nat) (ae : Option Addr) (q : List Edc) (cq : Nat) (q0 q1 q2 q3 : Int) (w : World) (hI : IntsS w a js) (hA : SgnS w aa l) (hE : EdS w ae q) : Calls Tryz.prog 3 #[.agg #[.int .i64 L, .slice a js.length ca, .slice aa l.length cl, .slice ae q.length cq, .int .i64 q0, .int .i64 q1, .int .i64 q2, .int .i64 q3]] w fun e w' => e = .returned (.bool true) ∧ Below w.heap.size w w' := by
  have HH := Lib.hid (fun W (hW : Below w.heap.size w W) => Heavy_any L a js ca aa l cl ae q cq q0 q1 q2 q3 W (hI.below hW) (hA.below hW) (hE.below hW))
  have HP := Lib.hid (fun W (hW : Below w.heap.size w W) => Row_any L a js ca aa l cl q0 q1 (edcsB L js q) W (hI.below hW) (hA.below hW))
  have HW := Lib.hid (fun W (hW : Below w.heap.size w W) r => why_r L a js ca aa l cl ae q cq q0 q1 q2 q3 true false r W (hI.below hW) (hA.below hW) (hE.below hW))
  have HR := Lib.hid (fun (hV : lstE L js l [] = 0) W (hW : Below w.heap.size w W) => by
    obtain ⟨⟨hL1, hL2⟩, hJ, hC, hn⟩ := lst_good hV
    exact refRow_z L a js.length ca aa l cl q0 q1 hL1 hL2 (fun j hj => (hC j hj).1) hn W (hA.below hW))
  have HV0 : Hid (whyK (lineB L js) true (sgnsB L js l) false (edcsB L js q) (btw q0 0 10000000 && dirB q1) = 0 → lstE L js l [] = 0) := Lib.hid fun h => by
    by_cases hV : lstE L js l [] = 0
    · exact hV
    · rw [(lst_s L js l true _ _).1 hV] at h; exact absurd h hV
  have HN1 : Hid (lstE L js l [] = 0 → ∀ k, k < l.length → 1 ≤ (gs l k).n ∧ (gs l k).n ≤ 1000000000) := Lib.hid fun h => (sgn_nums (lst_sgns h)).1
  have HLen : Hid (lstE L js l [] = 0 → l.length ≤ 1000) := Lib.hid fun h => (lst_good h).2.2.2
  obtain ⟨hlen, blk, off, ad, cp, hadr, hc⟩ := hA
  have HC := Lib.hid hc
  have HL : Hid (0 < l.length → aa = some ⟨blk, off, none⟩) := Lib.hid fun h => hadr (List.ne_nil_of_length_pos h)
  obtain ⟨n0, hi, hz0, hz1, hz2⟩ := info_parts infoInt
  clear hI hE hc hadr
  go_enter Tryz.func3, Tryz.ntmps3
  go_wp2_with fail
  obtain ⟨wB, hwB⟩ : ∃ wB, w.alloc (.cells #[.int .i64 L, .slice a js.length ca, .slice aa l.length cl, .slice ae q.length cq, .int .i64 q0, .int .i64 q1, .int .i64 q2, .int .i64 q3] 28) = wB := ⟨_, rfl⟩
  have hb : Below w.heap.size w wB := by rw [← hwB]; exact (Below.refl _ _).alloc (Nat.le_refl _) _
  have p0 : wB.cell? ⟨w.heap.size, 0, none⟩ = some (.int .i64 L) := by rw [← hwB]; simp [go_sem]
  have p1 : wB.cell? ⟨w.heap.size, 1, none⟩ = some (.slice a js.length ca) := by rw [← hwB]; simp [go_sem]
  have p2 : wB.cell? ⟨w.heap.size, 2, none⟩ = some (.slice aa l.length cl) := by rw [← hwB]; simp [go_sem]
  have p3 : wB.cell? ⟨w.heap.size, 3, none⟩ = some (.slice ae q.length cq) := by rw [← hwB]; simp [go_sem]
  have p4 : wB.cell? ⟨w.heap.size, 4, none⟩ = some (.int .i64 q0) := by rw [← hwB]; simp [go_sem]
  have p5 : wB.cell? ⟨w.heap.size, 5, none⟩ = some (.int .i64 q1) := by rw [← hwB]; simp [go_sem]
  have p6 : wB.cell? ⟨w.heap.size, 6, none⟩ = some (.int .i64 q2) := by rw [← hwB]; simp [go_sem]
  have p7 : wB.cell? ⟨w.heap.size, 7, none⟩ = some (.int .i64 q3) := by rw [← hwB]; simp [go_sem]
  rw [hwB]
  clear hwB
  refine (HH.out _ hb).mono ?_
  rintro e wX ⟨bv, -, rfl, hb1⟩
  replace p0 := cell_below p0 hb1
  replace p1 := cell_below p1 hb1
  replace p2 := cell_below p2 hb1
  replace p3 := cell_below p3 hb1
  replace p4 := cell_below p4 hb1
  replace p5 := cell_below p5 hb1
  replace p6 := cell_below p6 hb1
  replace p7 := cell_below p7 hb1
  have hbw := hb.trans (hb1.mono hb.size)
  clear HH hb1
  cases bv with
  | true =>
    clear HP HW HR HV0 HN1 HLen HC HL
    go_wp2_with (go_at_call 12; refine (first_any _).mono ?_; rintro e w9 ⟨rfl, hb9⟩)
    go_ret
    exact ⟨rfl, hbw.trans (hb9.mono hbw.size)⟩
  | false =>
    have hz := block_lt p0
    have Z0 := Lib.hid p0
    have Z1 := Lib.hid p1
    have Z2 := Lib.hid p2
    have Z3 := Lib.hid p3
    have Z4 := Lib.hid p4
    have Z5 := Lib.hid p5
    have Z6 := Lib.hid p6
    have Z7 := Lib.hid p7
    have HBW := Lib.hid hbw
    clear p0 p1 p2 p3 p4 p5 p6 p7 hb hbw
    go_wp2_with fail
    go_loopw [3] (fun i wr => ∃ k : Nat, k ≤ l.length ∧ i = .int .i64 k ∧ Below wX.heap.size wX wr) (fun i _ => l.length - (intOf i).toNat)
    case atStart => exact ⟨0, Nat.zero_le _, rfl, Below.refl _ _⟩
    case round =>
      obtain ⟨k, hk, rfl, hbr⟩ := hrel
      have hbw := HBW.out.trans (hbr.mono HBW.out.size)
      by_cases hlt : k < l.length
      · obtain rfl := HL.out (by omega)
        have p2 := cell_below Z2.out hbr
        have p4 := cell_below Z4.out hbr
        have hzr := block_lt p2
        obtain ⟨⟨c0, c1, c2, c3, c4, c5, c6, c7⟩, c8, hP⟩ := HC.out k hlt
        have HS1 := Lib.hid (fun W (hW : Below wr.heap.size wr W) => Speaks_r (gs l k) (ad k) (cp k) q0 W ((hP.below hbw).below hW))
        have HS2 := Lib.hid (fun W (hW : Below wr.heap.size wr W) => refSpeaks_r (gs l k) (ad k) (cp k) q0 W ((hP.below hbw).below hW))
        have c0 := cell_below c0 hbw
        have c1 := cell_below c1 hbw
        have c2 := cell_below c2 hbw
        have c3 := cell_below c3 hbw
        have c4 := cell_below c4 hbw
        have c5 := cell_below c5 hbw
        have c6 := cell_below c6 hbw
        have c7 := cell_below c7 hbw
        have c8 := cell_below c8 hbw
        have D0 := Lib.hid c0
        have D1 := Lib.hid c1
        have D2 := Lib.hid c2
        have D3 := Lib.hid c3
        have D4 := Lib.hid c4
        have D5 := Lib.hid c5
        have D6 := Lib.hid c6
        have D7 := Lib.hid c7
        have D8 := Lib.hid c8
        have hzb := block_lt c0
        have P2 := Lib.hid p2
        have P4 := Lib.hid p4
        have HBR := Lib.hid hbr
        have g1 : (k : Int) < (l.length : Int) := by omega
        clear hP HC HL HP HW HR HV0 HN1 HLen hbw hbr
        generalize ad k = adk at *
        generalize cp k = cpk at *
        obtain ⟨x, hx⟩ : ∃ x, gs l k = x := ⟨_, rfl⟩
        rw [hx] at HS1 HS2 c0 c1 c2 c3 c4 c5 c6 c7 c8 D0 D1 D2 D3 D4 D5 D6 D7 D8
        clear hx
        generalize spkB x q0 = bb at *
        have t1 : (bb != bb) = false := by cases bb <;> rfl
        have hB : Below wr.heap.size wr wr := Below.refl _ _
        go_wp2_with fail
        go_region_held3 (fun w' => w'.cell? ⟨w.heap.size, 2, none⟩ = some (.slice (some ⟨blk, off, none⟩) l.length cl) ∧ w'.cell? ⟨w.heap.size, 4, none⟩ = some (.int .i64 q0) ∧ w'.cell? ⟨blk, off + k * 9, none⟩ = some (.int .i64 x.n) ∧ w'.cell? ⟨blk, off + k * 9 + 1, none⟩ = some (.int .i64 x.k) ∧ w'.cell? ⟨blk, off + k * 9 + 2, none⟩ = some (.int .i64 x.v) ∧ w'.cell? ⟨blk, off + k * 9 + 3, none⟩ = some (.int .i64 x.c) ∧ w'.cell? ⟨blk, off + k * 9 + 4, none⟩ = some (.int .i64 x.d) ∧ w'.cell? ⟨blk, off + k * 9 + 5, none⟩ = some (.int .i64 x.rk) ∧ w'.cell? ⟨blk, off + k * 9 + 6, none⟩ = some (.int .i64 x.up) ∧ w'.cell? ⟨blk, off + k * 9 + 7, none⟩ = some (.int .i64 x.dn) ∧ w'.cell? ⟨blk, off + k * 9 + 8, none⟩ = some (.slice adk x.cv.length cpk)) (go_keep)
          (first
            | (go_at_call 13
               refine (HS1.out _ (by first | exact hB | exact hB.drew)).mono ?_
               rintro e w9 ⟨rfl, hb9⟩
               replace hB : Below wr.heap.size wr w9 := (show Below wr.heap.size wr _ by first | exact hB | exact hB.drew).trans (hb9.mono (by have := hB.size; simpa using this))
               have p2 := (hB.cell (p := ⟨w.heap.size, 2, none⟩) hzr).trans P2.out
               have p4 := (hB.cell (p := ⟨w.heap.size, 4, none⟩) hzr).trans P4.out
               have c0 := (hB.cell (p := ⟨blk, off + k * 9, none⟩) hzb).trans D0.out
               have c1 := (hB.cell (p := ⟨blk, off + k * 9 + 1, none⟩) hzb).trans D1.out
               have c2 := (hB.cell (p := ⟨blk, off + k * 9 + 2, none⟩) hzb).trans D2.out
               have c3 := (hB.cell (p := ⟨blk, off + k * 9 + 3, none⟩) hzb).trans D3.out
               have c4 := (hB.cell (p := ⟨blk, off + k * 9 + 4, none⟩) hzb).trans D4.out
               have c5 := (hB.cell (p := ⟨blk, off + k * 9 + 5, none⟩) hzb).trans D5.out
               have c6 := (hB.cell (p := ⟨blk, off + k * 9 + 6, none⟩) hzb).trans D6.out
               have c7 := (hB.cell (p := ⟨blk, off + k * 9 + 7, none⟩) hzb).trans D7.out
               have c8 := (hB.cell (p := ⟨blk, off + k * 9 + 8, none⟩) hzb).trans D8.out
               skip)
            | (go_at_call 14
               refine (HS2.out _ (by first | exact hB | exact hB.drew)).mono ?_
               rintro e w9 ⟨rfl, hb9⟩
               replace hB : Below wr.heap.size wr w9 := (show Below wr.heap.size wr _ by first | exact hB | exact hB.drew).trans (hb9.mono (by have := hB.size; simpa using this))
               have p2 := (hB.cell (p := ⟨w.heap.size, 2, none⟩) hzr).trans P2.out
               have p4 := (hB.cell (p := ⟨w.heap.size, 4, none⟩) hzr).trans P4.out
               have c0 := (hB.cell (p := ⟨blk, off + k * 9, none⟩) hzb).trans D0.out
               have c1 := (hB.cell (p := ⟨blk, off + k * 9 + 1, none⟩) hzb).trans D1.out
               have c2 := (hB.cell (p := ⟨blk, off + k * 9 + 2, none⟩) hzb).trans D2.out
               have c3 := (hB.cell (p := ⟨blk, off + k * 9 + 3, none⟩) hzb).trans D3.out
               have c4 := (hB.cell (p := ⟨blk, off + k * 9 + 4, none⟩) hzb).trans D4.out
               have c5 := (hB.cell (p := ⟨blk, off + k * 9 + 5, none⟩) hzb).trans D5.out
               have c6 := (hB.cell (p := ⟨blk, off + k * 9 + 6, none⟩) hzb).trans D6.out
               have c7 := (hB.cell (p := ⟨blk, off + k * 9 + 7, none⟩) hzb).trans D7.out
               have c8 := (hB.cell (p := ⟨blk, off + k * 9 + 8, none⟩) hzb).trans D8.out
               skip))
        all_goals
          go_wp2_with fail
          go_roundw
          case rel => exact ⟨k + 1, by omega, by go_num, HBR.out.trans (hB.mono HBR.out.size)⟩
          case measure => simp [intOf]; omega
      · obtain rfl : k = l.length := by omega
        have r4 : Hid (∀ R, R = (btw q0 0 10000000 && dirB q1) → Hid (Calls Tryz.prog 15 #[.agg #[.int .i64 L, .slice a js.length ca], .slice aa l.length cl, .int .i64 q0, .int .i64 q1] wr (RwA (if whyK (lineB L js) true (sgnsB L js l) false (edcsB L js q) R = 0 then numsR L q1 q0 l else []) (whyK (lineB L js) true (sgnsB L js l) false (edcsB L js q) R) wr))) := Lib.hid fun R hR => Lib.hid (by rw [hR]; exact HP.out _ hbw)
        have HRw := r4.out _ rfl
        clear r4 HP HC HL hk hlt
        have HH1 := Lib.hid (fun W => hour_r q0 W)
        have HH2 := Lib.hid (fun W => way_r q1 W)
        generalize btw q0 0 10000000 = bh at *
        generalize dirB q1 = bw at *
        have HE0 : Hid (whyK (lineB L js) true (sgnsB L js l) false (edcsB L js q) (bh && bw) = 0 → lstE L js l [] = 0) := HV0
        clear HV0
        have HWy : Hid (∀ W, Below wr.heap.size wr W → Calls Tryz.prog 16 #[.agg #[.int .i64 L, .slice a js.length ca, .slice aa l.length cl, .slice ae q.length cq, .int .i64 q0, .int .i64 q1, .int .i64 q2, .int .i64 q3], .bool true, .bool false, .bool (bh && bw)] W fun e9 w' => e9 = .returned (.int .i64 (whyK (lineB L js) true (sgnsB L js l) false (edcsB L js q) (bh && bw))) ∧ Below W.heap.size W w') := Lib.hid fun W hW => HW.out W (hbw.trans (hW.mono hbw.size)) _
        clear HW
        have HFl : Hid (bh = false → whyK (lineB L js) true (sgnsB L js l) false (edcsB L js q) (bh && bw) ≠ 0) := Lib.hid (by rintro rfl; rw [Bool.false_and]; unfold whyK; cases lineB L js <;> cases sgnsB L js l <;> cases edcsB L js q <;> decide)
        have HEX : Hid (∃ E, whyK (lineB L js) true (sgnsB L js l) false (edcsB L js q) (bh && bw) = E) := Lib.hid ⟨_, rfl⟩
        obtain ⟨E, hE⟩ := HEX.out
        rw [hE] at HRw HE0 HWy HFl
        clear hE HEX
        have HXL : Hid (E ≠ 0 → (if E = 0 then numsR L q1 q0 l else []).length = 0) := Lib.hid fun h => by rw [if_neg h]; rfl
        have HXE : Hid (E = 0 → (if E = 0 then numsR L q1 q0 l else []) = numsR L q1 q0 l) := Lib.hid fun h => if_pos h
        generalize (if E = 0 then numsR L q1 q0 l else []) = X at *
        have p0 := cell_below Z0.out hbr
        have p1 := cell_below Z1.out hbr
        have p2 := cell_below Z2.out hbr
        have p3 := cell_below Z3.out hbr
        have p4 := cell_below Z4.out hbr
        have p5 := cell_below Z5.out hbr
        have p6 := cell_below Z6.out hbr
        have p7 := cell_below Z7.out hbr
        have hzr := block_lt p0
        have P := Lib.hid hbr
        clear hbr
        go_wp2_with (go_at_call 15; refine HRw.out.mono ?_; rintro e w1 ⟨b, c, rfl, hX, hb1⟩; have HX := Lib.hid hX; clear hX)
        replace p0 := cell_below p0 hb1
        replace p1 := cell_below p1 hb1
        replace p2 := cell_below p2 hb1
        replace p3 := cell_below p3 hb1
        replace p4 := cell_below p4 hb1
        replace p5 := cell_below p5 hb1
        replace p6 := cell_below p6 hb1
        replace p7 := cell_below p7 hb1
        have hbw1 := hbw.trans (hb1.mono hbw.size)
        have HB1 := Lib.hid hb1
        have HBW1 := Lib.hid hbw1
        have HWy1 : Hid (∀ W, Below w1.heap.size w1 W → Calls Tryz.prog 16 #[.agg #[.int .i64 L, .slice a js.length ca, .slice aa l.length cl, .slice ae q.length cq, .int .i64 q0, .int .i64 q1, .int .i64 q2, .int .i64 q3], .bool true, .bool false, .bool (bh && bw)] W fun e9 w' => e9 = .returned (.int .i64 E) ∧ Below W.heap.size W w') := Lib.hid fun W hW => HWy.out W (hb1.trans (hW.mono hb1.size))
        clear HWy HRw hb1 hbw hbw1
        have hzz := block_lt p0
        have Y0 := Lib.hid p0
        have Y1 := Lib.hid p1
        have Y2 := Lib.hid p2
        have Y3 := Lib.hid p3
        have Y4 := Lib.hid p4
        have Y5 := Lib.hid p5
        have Y6 := Lib.hid p6
        have Y7 := Lib.hid p7
        cases bh with
        | true =>
          rw [Bool.true_and] at HWy1
          have hB : Below w1.heap.size w1 w1 := Below.refl _ _
          go_region_held3 (fun w' => w'.cell? ⟨w.heap.size, 0, none⟩ = some (.int .i64 L) ∧ w'.cell? ⟨w.heap.size, 1, none⟩ = some (.slice a js.length ca) ∧ w'.cell? ⟨w.heap.size, 2, none⟩ = some (.slice aa l.length cl) ∧ w'.cell? ⟨w.heap.size, 3, none⟩ = some (.slice ae q.length cq) ∧ w'.cell? ⟨w.heap.size, 4, none⟩ = some (.int .i64 q0) ∧ w'.cell? ⟨w.heap.size, 5, none⟩ = some (.int .i64 q1) ∧ w'.cell? ⟨w.heap.size, 6, none⟩ = some (.int .i64 q2) ∧ w'.cell? ⟨w.heap.size, 7, none⟩ = some (.int .i64 q3)) (go_keep)
            (first
              | (go_at_call 17
                 refine (HH1.out _).mono ?_
                 rintro e w9 ⟨rfl, rfl⟩
                 skip)
              | (go_at_call 18
                 refine (HH2.out _).mono ?_
                 rintro e w9 ⟨rfl, rfl⟩
                 skip)
              | (go_at_call 16
                 refine (HWy1.out _ (by first | exact hB | exact hB.drew)).mono ?_
                 rintro e w9 ⟨rfl, hb9⟩
                 replace hB : Below w1.heap.size w1 w9 := (show Below w1.heap.size w1 _ by first | exact hB | exact hB.drew).trans (hb9.mono (by have := hB.size; simpa using this))
                 have p0 := (hB.cell (p := ⟨w.heap.size, 0, none⟩) hzz).trans Y0.out
                 have p1 := (hB.cell (p := ⟨w.heap.size, 1, none⟩) hzz).trans Y1.out
                 have p2 := (hB.cell (p := ⟨w.heap.size, 2, none⟩) hzz).trans Y2.out
                 have p3 := (hB.cell (p := ⟨w.heap.size, 3, none⟩) hzz).trans Y3.out
                 have p4 := (hB.cell (p := ⟨w.heap.size, 4, none⟩) hzz).trans Y4.out
                 have p5 := (hB.cell (p := ⟨w.heap.size, 5, none⟩) hzz).trans Y5.out
                 have p6 := (hB.cell (p := ⟨w.heap.size, 6, none⟩) hzz).trans Y6.out
                 have p7 := (hB.cell (p := ⟨w.heap.size, 7, none⟩) hzz).trans Y7.out
                 skip))
          all_goals
            by_cases hE : E = 0
            · skip
              clear HFl HXL
              obtain rfl := hE
              have hV := HE0.out rfl
              have hXe := HXE.out rfl
              have hbX := HBW1.out.trans (hB.mono HBW1.out.size)
              have HXX := Lib.hid (HX.out.below hB)
              obtain ⟨R, hR⟩ : ∃ R, insR L q1 q0 l l.length = R := ⟨_, rfl⟩
              have HRZ := Lib.hid (show Calls Tryz.prog 19 #[.agg #[.int .i64 L, .slice a js.length ca], .slice aa l.length cl, .int .i64 q0, .int .i64 q1] _ (RrQ X R _) from by rw [hXe, ← hR]; exact HR.out hV _ hbX)
              have hXR : X = R.map (·.n) := by rw [hXe, ← hR]; rfl
              have HXR : Hid (X.length = R.length) := Lib.hid (by rw [hXR, List.length_map])
              have hRl : R.length ≤ 1000 := by
                have h1 := insR_len L q1 q0 l l.length
                have h2 := HLen.out hV
                rw [hR] at h1
                omega
              have hXl : X.length ≤ 1000 := by have := HXR.out; omega
              have HSt : Hid (∀ k, k < X.length → clI (X.take (k + 1)) = clI (X.take k) ++ [.int .i64 (gs R k).n]) := Lib.hid fun k hk => by
                subst hXR
                exact nums_step R hk
              have HBX := Lib.hid hbX
              have HBB := Lib.hid hB
              clear hXR hR hXe hV HE0 HXE HR HN1 HLen HX Z0 Z1 Z2 Z3 Z4 Z5 Z6 Z7 Y0 Y1 Y2 Y3 Y4 Y5 Y6 Y7 HH1 HH2 HWy1 hbX hB
              go_wp2_with (go_at_call 19; refine HRZ.out.mono ?_; rintro e w2 ⟨rb, rc, rfl, hS, hb2⟩; have HS := Lib.hid hS; clear hS; have HB2 := Lib.hid hb2; clear hb2)
              clear HRZ p0 p1 p2 p3 p4 p5 p6 p7
              obtain ⟨-, rblk, roff, rad, rcp, hra, hrc⟩ := HS.out
              have HRC := Lib.hid hrc
              have HRA : Hid (0 < X.length → rb = some ⟨rblk, roff, none⟩) := Lib.hid fun h => hra (List.ne_nil_of_length_pos (by have := HXR.out; omega))
              have HBZ := Lib.hid (HBX.out.trans (HB2.out.mono HBX.out.size))
              have HX2 := Lib.hid (HXX.out.below HB2.out)
              clear hra hrc HXX HBX HB2
              go_loopw [8, 9] (fun v i wr => ∃ k : Nat, k ≤ X.length ∧ i = .int .i64 k ∧ (∃ a c, v = .slice a k c) ∧ Hid (wr.ownsRow w2.heap.size 3 1 v k (clI (X.take k))) ∧ Below w2.heap.size w2 wr) (fun _ i _ => X.length - (intOf i).toNat)
              case atStart => exact ⟨0, Nat.zero_le _, rfl, ⟨none, 0, rfl⟩, Lib.hid ⟨rfl, .inl ⟨rfl, rfl⟩⟩, Below.refl _ _⟩
              case round =>
                obtain ⟨k, hk, rfl, ⟨av, cv, rfl⟩, HRow, hbr⟩ := hrel
                by_cases hlt : k < X.length
                · obtain rfl := HRA.out (by omega)
                  obtain ⟨⟨c0, -⟩, -⟩ := HRC.out k (by have := HXR.out; omega)
                  have c0 := cell_below c0 hbr
                  have HNk := Lib.hid (HSt.out k hlt)
                  clear HRC HRA HSt HXR HX2 HS
                  obtain ⟨x, hx⟩ : ∃ x, (gs R k).n = x := ⟨_, rfl⟩
                  rw [hx] at HNk c0
                  clear hx
                  have hsr := hbr.size
                  have hown := Lib.hid (HRow.out.alloc (.cells #[.int .i64 x] 3))
                  have hbq : Below w2.heap.size w2 (wr.alloc (.cells #[.int .i64 x] 3)) := hbr.alloc hsr _
                  clear HRow
                  go_wp2_with (first | (at_builtin; go_loud (refine wpList_append_lies _ rfl _ _ 22 rfl w2.heap.size 3 n0 _ 1 8 Tryz.underlying22 hi hz0 hz1 hz2 rfl (by decide) (.slice av k cv) k _ (by rfl) hown.out ⟨wr.heap.size, 0, none⟩ 1 1 [.int .i64 x] (by rfl) (by rfl) ?d1 ?d2 (by decide) ?d3 ?d4 ?d5 _ rfl ?_)))
                  case d1 =>
                    refine World.news_of_block (cs := #[.int .i64 x]) (t := 3) (fr := (0, 0)) ?_
                    have := heap_alloc_new wr (.cells #[.int .i64 x] 3)
                    simpa using this
                  case d2 => simp [Value.oneCell']
                  case d3 => unfold maxLen; omega
                  case d4 => omega
                  case d5 => first | (simp; omega) | simp | omega
                  intro g6 c6 w6 hown6 hgrow6 hat6 hlt6
                  have hb6 : Below w2.heap.size w2 w6 := hbq.grown hgrow6 (by first | (simp; omega) | simp | omega) (fun z hz => owns_blockI hown.out hz)
                  have HRow6 : Hid (w6.ownsRow w2.heap.size 3 1 (.slice (some ⟨g6, 0, none⟩) (k + 1) c6) (k + 1) (clI (X.take (k + 1)))) := Lib.hid (by rw [HNk.out]; exact hown6)
                  clear hown6 hown hbq hgrow6 hat6 hlt6 HNk
                  go_wp2_with fail
                  go_roundw
                  case rel => exact ⟨k + 1, by omega, by go_num, ⟨_, c6, rfl⟩, HRow6, hb6⟩
                  case measure => simp [intOf]; omega
                · obtain rfl : k = X.length := by omega
                  have HI1 := Lib.hid (HX2.out.below hbr)
                  have HI2 : Hid (IntsS wr av X) := Lib.hid (by
                    have h1 := HRow.out
                    rw [List.take_of_length_le (Nat.le_refl _)] at h1
                    exact ints_own h1 (by omega) (fun j hj => HX2.out.2.1 j hj))
                  have HSm := Lib.hid (sameInts_r b av X c cv wr HI1.out HI2.out)
                  have HBr := Lib.hid (HBZ.out.trans (hbr.mono HBZ.out.size))
                  clear HRow HRC HRA HSt HXR HX2 HI1 HI2 hbr HS
                  go_wp2_with (first | (go_at_call 20; refine HSm.out.mono ?_; rintro e w8 ⟨rfl, hb8⟩; have HB8 := Lib.hid (HBr.out.trans (hb8.mono HBr.out.size)); clear hb8) | (go_at_call 12; refine (first_any _).mono ?_; rintro e w9 ⟨rfl, hb9⟩))
                  go_ret
                  exact ⟨rfl, HB8.out.trans (hb9.mono HB8.out.size)⟩
            · clear HFl
              have dE : (E != 0) = true := by simp [hE]
              have dE2 : (E == E) = true := by simp
              have hXl := HXL.out hE
              clear HXL HXE HE0 hE HR HN1 HLen HX Z0 Z1 Z2 Z3 Z4 Z5 Z6 Z7
              obtain rfl : X = [] := List.eq_nil_of_length_eq_zero hXl
              clear hXl
              go_wp2_with (go_at_call 12; refine (first_any _).mono ?_; rintro e w9 ⟨rfl, hb9⟩)
              go_ret
              exact ⟨rfl, (HBW1.out.trans (hB.mono HBW1.out.size)).trans (hb9.mono (HBW1.out.trans (hB.mono HBW1.out.size)).size)⟩
        | false =>
          rw [Bool.false_and] at HWy1
          have hB : Below w1.heap.size w1 w1 := Below.refl _ _
          refine wp_region_still_tail 9 (by kernel_rfl) (by kernel_rfl) ?_
          simp only [List.take_succ_cons, List.take_zero, List.drop_succ_cons, List.drop_zero]
          repeat ((with_reducible refine wpStill_step (fun K hK => ?_)); go_simp; first | (with_reducible refine hK _ ?_; clear hK K) | (refine ⟨_, (HH1.out _).mono (fun e w' h => ⟨h.1, h.2.symm⟩), hK _ ?_⟩; clear hK K))
          with_reducible refine wpStill_nil ?_
          change wpList _ _ _ _ _ w1.drew
          have hB := hB.drew
          generalize w1.drew = w4 at hB ⊢
          have hE : E ≠ 0 := HFl.out (by trivial)
          clear HFl
          have dE : (E != 0) = true := by simp [hE]
          have dE2 : (E == E) = true := by simp
          have hXl := HXL.out hE
          clear HXL HXE HE0 hE HR HN1 HLen HX Z0 Z1 Z2 Z3 Z4 Z5 Z6 Z7
          obtain rfl : X = [] := List.eq_nil_of_length_eq_zero hXl
          clear hXl
          go_wp2_with (first | (go_at_call 16; refine (HWy1.out _ hB).mono ?_; rintro e w9 ⟨rfl, hb9⟩; replace hB := hB.trans (hb9.mono hB.size); skip) | (go_at_call 12; refine (first_any _).mono ?_; rintro e w9 ⟨rfl, hb9⟩))
          go_ret
          exact ⟨rfl, (HBW1.out.trans (hB.mono HBW1.out.size)).trans (hb9.mono (HBW1.out.trans (hB.mono HBW1.out.size)).size)⟩
end Go.Proofs.YtiagflackfkmnaaGreat
