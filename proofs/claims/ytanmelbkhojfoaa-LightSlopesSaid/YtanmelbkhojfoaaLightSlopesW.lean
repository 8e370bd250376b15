/-
  The walk of the law LightSlopes: it answers true. By an AI agent.
-/
import Derived.Test.YtanmelbkhojfoaaLightCoefficientsW
import Derived.Deep.RegionHeld3
namespace Go.Proofs.Ytanmelbkhojfoaa
set_option linter.unusedVariables false
set_option linter.unusedSimpArgs false
open Go.RowKit

theorem box3_below {w w' : World} {o1 o2 o3 : Obj} (h : Below (((w.alloc o1).alloc o2).alloc o3).heap.size (((w.alloc o1).alloc o2).alloc o3) w') : Below w.heap.size w w' := box_below (box_below (box_below h))
theorem box3_start {w : World} {o1 o2 o3 : Obj} : Below w.heap.size w (((w.alloc o1).alloc o2).alloc o3) := box3_below (Below.refl _ _)
set_option maxRecDepth 100000 in
set_option maxHeartbeats 8000000 in
theorem lightSlopes_any (ao ae ar : Option Addr) (o e : List Int) (r : List (List Int)) (co ce cr : Nat) (x x' y y' : Int) (w : World) (hT : TableS w ao ae ar o e r) (hco : o.length ≤ co) (hce : e.length ≤ ce) (hx : 0 ≤ x ∧ x ≤ 4294967295) (hx' : 0 ≤ x' ∧ x' ≤ 4294967295) (hy : 0 ≤ y ∧ y ≤ 4294967295) (hy' : 0 ≤ y' ∧ y' ≤ 4294967295) :
    Calls Try.prog 14 #[.agg #[.slice ao o.length co, .slice ae e.length ce, .slice ar r.length cr], .agg #[.int .u32 x, .int .u32 x'], .agg #[.int .u32 y, .int .u32 y']] w fun E w' => E = .returned (.bool true) ∧ Below w.heap.size w w' := by
  have HL : Hid (∀ W, Below w.heap.size w W → Calls Try.prog 19 #[.agg #[.slice ao o.length co, .slice ae e.length ce, .slice ar r.length cr]] W fun E w' => SomeBool E ∧ Below W.heap.size W w') := Lib.hid fun W hW => long_any ao ae ar o e r co ce cr W (hT.below hW)
  have HV : Hid (∀ W, Below w.heap.size w W → Calls Try.prog 22 #[.agg #[.slice ao o.length co, .slice ae e.length ce, .slice ar r.length cr]] W fun E w' => E = .returned (.bool (tableB o e r)) ∧ Below W.heap.size W w') := Lib.hid fun W hW => refValidTable_any ao ae ar o e r co ce cr W (hT.below hW)
  have H1 : Hid (∀ W, Below w.heap.size w W → Calls Try.prog 20 #[] W fun e w' => e = .returned (.bool true) ∧ Below W.heap.size W w') := Lib.hid fun W _ => first_any W
  by_cases hb : tableB o e r = true
  · have hK := tableB_iff.1 hb
    have HC : Hid (∀ X Y, 0 ≤ X → 0 ≤ Y → X ≤ 9000000000 → Y ≤ 9000000000 → ∀ W, Below w.heap.size w W → Calls Try.prog 25 #[.agg #[.slice ao o.length co, .slice ae e.length ce, .slice ar r.length cr], .int .i64 X, .int .i64 Y] W fun E w' => E = .returned (.tuple #[.int .i64 (coefV o e r X Y), .int .i64 0]) ∧ Below W.heap.size W w') := Lib.hid fun X Y h1 h2 h3 h4 W hW => by
      have := Coefficient_any ao ae ar o e r co ce cr X Y W (hT.below hW) hco hce (by unfold I64; omega) (by unfold I64; omega)
      rwa [show coV o e r X Y = coefV o e r X Y from by unfold coV; rw [if_pos ⟨hb, h1, h2⟩], show coE o e r X Y = 0 from by unfold coE; rw [if_pos hb, if_pos ⟨h1, h2⟩]] at this
    rw [hb] at HV
    have HCT : Hid (∀ i k : Nat, i < o.length → k < e.length → ∀ W, Below w.heap.size w W → Calls Try.prog 25 #[.agg #[.slice ao o.length co, .slice ae e.length ce, .slice ar r.length cr], .int .i64 (gi o i), .int .i64 (gi e k)] W fun E w' => E = .returned (.tuple #[.int .i64 (gi (gr r i) k), .int .i64 0]) ∧ Below W.heap.size W w') := Lib.hid fun i k hi hk W hW => by
      have b1 := slopes_bd hK.1 hi
      have b2 := slopes_bd hK.2.1 hk
      have := HC.out (gi o i) (gi e k) (by omega) (by omega) (by omega) (by omega) W hW
      rwa [coefV_table hK hi hk] at this
    obtain ⟨x0, x1⟩ := hx
    obtain ⟨x2, x3⟩ := hx'
    obtain ⟨y0, y1⟩ := hy
    obtain ⟨y2, y3⟩ := hy'
    have HC1 := Lib.hid (HC.out x y x0 y0 (by omega) (by omega))
    have HC2 := Lib.hid (HC.out (x + x') (y + y') (by omega) (by omega) (by omega) (by omega))
    have m1 := coefV_mono hK (show x ≤ x + x' by omega) (show y ≤ y + y' by omega)
    have m2 := (coefV_bd hK (x + x') (y + y')).1
    have n0 := hK.1.1
    have n1 := hK.2.1.1
    have m3 : coefV o e r x y ≤ gi (gr r 0) 0 := by
      have h := coefV_mono hK (show min x (gi o 0) ≤ x by omega) (show min y (gi e 0) ≤ y by omega)
      have h2 : coefV o e r (min x (gi o 0)) (min y (gi e 0)) = coefV o e r (gi o 0) (gi e 0) := by
        have e1 : above o (min x (gi o 0)) ↔ above o (gi o 0) := by
          have := slopes_le hK.1 (show 0 ≤ o.length - 1 by omega) (by omega)
          unfold above; omega
        have e2 : above e (min y (gi e 0)) ↔ above e (gi e 0) := by
          have := slopes_le hK.2.1 (show 0 ≤ e.length - 1 by omega) (by omega)
          unfold above; omega
        have e3 : clip o (min x (gi o 0)) = clip o (gi o 0) := by unfold clip; omega
        have e4 : clip e (min y (gi e 0)) = clip e (gi e 0) := by unfold clip; omega
        have e5 : (above o (min x (gi o 0)) ∨ above e (min y (gi e 0))) ↔ (above o (gi o 0) ∨ above e (gi e 0)) := by rw [e1, e2]
        unfold coefV
        rw [e3, e4]
        by_cases ha : above o (gi o 0) ∨ above e (gi e 0)
        · rw [if_pos ha, if_pos (e5.2 ha)]
        · rw [if_neg ha, if_neg (fun h => ha (e5.1 h))]
      rw [h2, coefV_table hK (show 0 < o.length by omega) (show 0 < e.length by omega)] at h
      exact h
    obtain ⟨bo, fo, be, fe, br, fr, b0, f0, cp, rfl, rfl, rfl, d1, d2, d3, d4⟩ := table_cell hT hK (show 0 < o.length by omega) (show 0 < e.length by omega)
    rw [Nat.add_zero] at d3 d4
    have hrn : r.length = o.length := hK.2.2.1
    have HD : Hid (∀ i k : Nat, i < o.length → k < e.length → ∃ b f cp, w.cell? ⟨bo, fo + i, none⟩ = some (.int .i64 (gi o i)) ∧ w.cell? ⟨be, fe + k, none⟩ = some (.int .i64 (gi e k)) ∧ w.cell? ⟨br, fr + i, none⟩ = some (.slice (some ⟨b, f, none⟩) e.length cp) ∧ w.cell? ⟨b, f + k, none⟩ = some (.int .i64 (gi (gr r i) k))) := Lib.hid fun i k hi hk => by
      obtain ⟨bo', fo', be', fe', br', fr', b, f, cp, g1, g2, g3, a1, a2, a3, a4⟩ := table_cell hT hK hi hk
      simp only [Option.some.injEq, Addr.mk.injEq, and_true] at g1 g2 g3
      obtain ⟨rfl, rfl⟩ := g1
      obtain ⟨rfl, rfl⟩ := g2
      obtain ⟨rfl, rfl⟩ := g3
      exact ⟨b, f, cp, a1, a2, a3, a4⟩
    have HBd : Hid (∀ i k : Nat, i < o.length → k < e.length → (1 ≤ gi o i ∧ gi o i ≤ 1000000) ∧ (1 ≤ gi e k ∧ gi e k ≤ 1000000) ∧ 0 ≤ gi (gr r i) k ∧ gi (gr r i) k ≤ 100000) := Lib.hid fun i k hi hk => ⟨slopes_bd hK.1 hi, slopes_bd hK.2.1 hk, tb_bd hK hi hk⟩
    have t0 := tb_bd hK (show 0 < o.length by omega) (show 0 < e.length by omega)
    obtain ⟨t00, t01⟩ := t0
    have l1 := block_lt d1
    have l2 := block_lt d2
    have l3 := block_lt d3
    have l4 := block_lt d4
    have q0 : 0 < o.length := by omega
    have q1 : 0 < e.length := by omega
    have b1 := coefV_bd hK x y
    have b2 := coefV_bd hK (x + x') (y + y')
    have n6 := hK.1.2.1
    have n7 := hK.2.1.2.1
    rw [hrn] at HL HV HC1 HC2 HCT ⊢
    clear hT hb hK hco hce HC hrn d1 d2
    generalize coefV o e r x y = V1 at *
    generalize coefV o e r (x + x') (y + y') = V2 at *
    generalize gi (gr r 0) 0 = g00 at *
    obtain ⟨v10, v11⟩ := b1
    obtain ⟨v20, v21⟩ := b2
    have HZ := Lib.hid (And.intro d3 (And.intro d4 (And.intro m1 (And.intro m2 m3))))
    clear d3 d4 m1 m2 m3
    go_enter Try.func14, Try.ntmps14
    go_wp2_with fail
    refine (HL.out _ box3_start).mono ?_
    rintro E w1 ⟨⟨b, rfl⟩, hb1⟩
    obtain ⟨hc1, hf1⟩ := bcell hb1
    cases b with
    | true =>
      go_wp2_with fail
      refine (H1.out _ (box3_below hb1)).mono ?_
      rintro E w2 ⟨rfl, hb2⟩
      have hb2 := hb1.trans (hb2.mono hb1.size)
      clear hc1 hf1
      obtain ⟨hc2, hf2⟩ := bcell hb2
      go_wp2_with fail
      go_ret
      exact ⟨rfl, (box3_below hb2)⟩
    | false =>
      go_wp2_with fail
      refine (HV.out _ (box3_below hb1)).mono ?_
      rintro E w2 ⟨rfl, hb2⟩
      have hb2 := hb1.trans (hb2.mono hb1.size)
      clear hc1 hf1
      obtain ⟨hc2, hf2⟩ := bcell hb2
      go_wp2_with fail
      refine (HC1.out _ (box3_below hb2)).mono ?_
      rintro E w3 ⟨rfl, hb3⟩
      have hb3 := hb2.trans (hb3.mono hb2.size)
      clear hc2 hf2
      obtain ⟨hc3, hf3⟩ := bcell hb3
      go_wp2_with fail
      refine (HC2.out _ (box3_below hb3)).mono ?_
      rintro E w4 ⟨rfl, hb4⟩
      have hb4 := hb3.trans (hb4.mono hb3.size)
      clear hc3 hf3
      obtain ⟨hc4, hf4⟩ := bcell hb4
      obtain ⟨d3, d4, m1, m2, m3⟩ := HZ.out
      have e3 := cell_below d3 (box3_below hb4)
      have e4 := cell_below d4 (box3_below hb4)
      go_wp2_with fail
      clear hc4 hf4
      go_loopw [11] (fun v wr => ∃ i : Nat, i ≤ o.length ∧ v = .int .i64 i ∧ Below (((w.alloc (.cells #[.slice (some ⟨bo, fo, none⟩) o.length co, .slice (some ⟨be, fe, none⟩) e.length ce, .slice (some ⟨br, fr, none⟩) o.length cr] 25)).alloc (.cells #[.int .u32 x, .int .u32 x'] 84)).alloc (.cells #[.int .u32 y, .int .u32 y'] 84)).heap.size (((w.alloc (.cells #[.slice (some ⟨bo, fo, none⟩) o.length co, .slice (some ⟨be, fe, none⟩) e.length ce, .slice (some ⟨br, fr, none⟩) o.length cr] 25)).alloc (.cells #[.int .u32 x, .int .u32 x'] 84)).alloc (.cells #[.int .u32 y, .int .u32 y'] 84)) wr) (fun v _ => o.length - (intOf v).toNat)
      case atStart => exact ⟨0, Nat.zero_le _, rfl, hb4⟩
      case round =>
        obtain ⟨i, hi, rfl, hbr⟩ := hrel
        obtain ⟨hcr, hfr⟩ := bcell hbr
        by_cases hlt : i < o.length
        · clear e3 e4
          go_wp2_with fail
          clear hcr hfr
          obtain ⟨wo, rfl⟩ : ∃ wo : World, wo = wr := ⟨_, rfl⟩
          go_loopw [12] (fun v wr => ∃ k : Nat, k ≤ e.length ∧ v = .int .i64 k ∧ Below (((w.alloc (.cells #[.slice (some ⟨bo, fo, none⟩) o.length co, .slice (some ⟨be, fe, none⟩) e.length ce, .slice (some ⟨br, fr, none⟩) o.length cr] 25)).alloc (.cells #[.int .u32 x, .int .u32 x'] 84)).alloc (.cells #[.int .u32 y, .int .u32 y'] 84)).heap.size (((w.alloc (.cells #[.slice (some ⟨bo, fo, none⟩) o.length co, .slice (some ⟨be, fe, none⟩) e.length ce, .slice (some ⟨br, fr, none⟩) o.length cr] 25)).alloc (.cells #[.int .u32 x, .int .u32 x'] 84)).alloc (.cells #[.int .u32 y, .int .u32 y'] 84)) wr) (fun v _ => e.length - (intOf v).toNat)
          case atStart => exact ⟨0, Nat.zero_le _, rfl, hbr⟩
          case round =>
            obtain ⟨k, hk, rfl, hbq⟩ := hrel
            by_cases hkt : k < e.length
            · obtain ⟨b, f, cp, a1, a2, a3, a4⟩ := HD.out i k hlt hkt
              have hw := box3_below hbq
              have a1 := cell_below a1 hw
              have a2 := cell_below a2 hw
              have a3 := cell_below a3 hw
              have a4 := cell_below a4 hw
              have p0 : wr.cell? ⟨w.heap.size, 0, none⟩ = some (.slice (some ⟨bo, fo, none⟩) o.length co) := (hbq.cell (p := ⟨w.heap.size, 0, none⟩) (by simp; omega)).trans (by simp [go_sem])
              have p1 : wr.cell? ⟨w.heap.size, 1, none⟩ = some (.slice (some ⟨be, fe, none⟩) e.length ce) := (hbq.cell (p := ⟨w.heap.size, 1, none⟩) (by simp; omega)).trans (by simp [go_sem])
              have p2 : wr.cell? ⟨w.heap.size, 2, none⟩ = some (.slice (some ⟨br, fr, none⟩) o.length cr) := (hbq.cell (p := ⟨w.heap.size, 2, none⟩) (by simp; omega)).trans (by simp [go_sem])
              have HCk := Lib.hid (HCT.out i k hlt hkt)
              obtain ⟨⟨z0, z1⟩, ⟨z2, z3⟩, z4, z5⟩ := HBd.out i k hlt hkt
              clear HBd HD HCT
              generalize gi o i = oi at *
              generalize gi e k = ek at *
              generalize gi (gr r i) k = rk at *
              have hwz : w.heap.size < wr.heap.size := by have := hbq.size; simp at this; omega
              have hbo := block_lt a1
              have hbe := block_lt a2
              have hbR := block_lt a3
              have hbc := block_lt a4
              have g0 : (0 : Int) ≤ (i : Int) := by omega
              have g1 : (i : Int) < (o.length : Int) := by omega
              have g2 : (0 : Int) ≤ (k : Int) := by omega
              have g3 : (k : Int) < (e.length : Int) := by omega
              go_wp2_with fail
              go_region_held3 (fun w' => w'.cell? ⟨w.heap.size, 0, none⟩ = some (.slice (some ⟨bo, fo, none⟩) o.length co) ∧ w'.cell? ⟨w.heap.size, 1, none⟩ = some (.slice (some ⟨be, fe, none⟩) e.length ce) ∧ w'.cell? ⟨w.heap.size, 2, none⟩ = some (.slice (some ⟨br, fr, none⟩) o.length cr) ∧ w'.cell? ⟨bo, fo + i, none⟩ = some (.int .i64 oi) ∧ w'.cell? ⟨be, fe + k, none⟩ = some (.int .i64 ek)) (go_keep)
                (first
                  | (go_at_call 25
                     refine (HCk.out _ hw.drew).mono ?_
                     rintro E w6 ⟨rfl, hb6⟩
                     have p0 := (hb6.cell (p := ⟨w.heap.size, 0, none⟩) hwz).trans p0
                     have p1 := (hb6.cell (p := ⟨w.heap.size, 1, none⟩) hwz).trans p1
                     have p2 := (hb6.cell (p := ⟨w.heap.size, 2, none⟩) hwz).trans p2
                     have a1 := (hb6.cell (p := ⟨bo, fo + i, none⟩) hbo).trans a1
                     have a2 := (hb6.cell (p := ⟨be, fe + k, none⟩) hbe).trans a2
                     have a3 := (hb6.cell (p := ⟨br, fr + i, none⟩) hbR).trans a3
                     have a4 := (hb6.cell (p := ⟨b, f + k, none⟩) hbc).trans a4))
              all_goals
                go_wp2_with fail
                go_roundw
                case rel => exact ⟨k + 1, by omega, by go_num, (hbq.drew).trans (hb6.mono hbq.size)⟩
                case measure => simp [intOf]; omega
            · obtain ⟨hcq, hfq⟩ := bcell hbq
              obtain rfl : k = e.length := by omega
              go_wp2_with fail
              go_roundw
              case rel => exact ⟨i + 1, by omega, by go_num, hbq⟩
              case measure => simp [intOf]; omega
        · obtain rfl : i = o.length := by omega
          go_wp2_with fail
          refine (H1.out _ (box3_below hbr)).mono ?_
          rintro E w9 ⟨rfl, hb9⟩
          go_wp2_with fail
          go_ret
          exact ⟨rfl, (box3_below hbr).trans (hb9.mono (box3_below hbr).size)⟩
  · have hb : tableB o e r = false := by simpa using hb
    rw [hb] at HV
    clear hT hb hco hce hx hx' hy hy'
    go_enter Try.func14, Try.ntmps14
    go_wp2_with fail
    refine (HL.out _ box3_start).mono ?_
    rintro E w1 ⟨⟨b, rfl⟩, hb1⟩
    obtain ⟨hc1, hf1⟩ := bcell hb1
    cases b with
    | true =>
      go_wp2_with fail
      refine (H1.out _ (box3_below hb1)).mono ?_
      rintro E w2 ⟨rfl, hb2⟩
      have hb2 := hb1.trans (hb2.mono hb1.size)
      clear hc1 hf1
      obtain ⟨hc2, hf2⟩ := bcell hb2
      go_wp2_with fail
      go_ret
      exact ⟨rfl, (box3_below hb2)⟩
    | false =>
      go_wp2_with fail
      refine (HV.out _ (box3_below hb1)).mono ?_
      rintro E w2 ⟨rfl, hb2⟩
      have hb2 := hb1.trans (hb2.mono hb1.size)
      clear hc1 hf1
      obtain ⟨hc2, hf2⟩ := bcell hb2
      go_wp2_with fail
      refine (H1.out _ (box3_below hb2)).mono ?_
      rintro E w3 ⟨rfl, hb3⟩
      have hb3 := hb2.trans (hb3.mono hb2.size)
      clear hc2 hf2
      obtain ⟨hc3, hf3⟩ := bcell hb3
      go_wp2_with fail
      go_ret
      exact ⟨rfl, (box3_below hb3)⟩
end Go.Proofs.Ytanmelbkhojfoaa
