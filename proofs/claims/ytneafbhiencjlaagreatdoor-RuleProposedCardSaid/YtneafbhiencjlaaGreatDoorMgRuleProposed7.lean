/-
  The reference's Row. By an AI agent.; The reference's ValidSigns. By an AI agent.; The reference's ValidEdicts. By an AI agent.; why, hour and way of package rule's laws. By an AI agent.; told: the course of what signs make hold. By an AI agent.
-/
import Derived.Test.YtneafbhiencjlaaGreatDoorMgRuleProposed5
import Derived.Test.YtneafbhiencjlaaGreatDoorMgRuleProposed6
import Derived.Deep.RegionHeld3
import Derived.Deep.RegionLawGrows
import Derived.Deep.AppendLies
import Derived.Deep.DeepCutAuto
import Derived.BigQuiet
import Derived.BigRegion

namespace Go.Proofs.YtneafbhiencjlaaGreatDoor
set_option linter.unusedVariables false
set_option linter.unusedSimpArgs false
open Go.RowKit

/-- The reference's row comes back. -/
def RrwE (L dir h : Int) (l : List Sgn) (w : World) (e : Ending) (w' : World) : Prop := ∃ b c, e = .returned (.slice b (insR L dir h l l.length).length c) ∧ SgnS w' b (insR L dir h l l.length) ∧ Below w.heap.size w w'
end Go.Proofs.YtneafbhiencjlaaGreatDoor

namespace Go.Proofs.YtneafbhiencjlaaGreatDoor
set_option linter.unusedVariables false
set_option linter.unusedSimpArgs false
open Go.RowKit

set_option maxRecDepth 100000 in
set_option maxHeartbeats 2000000 in
theorem refValidSigns_r (L : Int) (a : Option Addr) (js : List Int) (ca : Nat) (aa : Option Addr) (l : List Sgn) (cl : Nat) (w : World) (hI : IntsS w a js) (hA : SgnS w aa l) :
    Calls Tryz.prog 19 #[.agg #[.int .i64 L, .slice a js.length ca], .slice aa l.length cl] w fun e w' => e = .returned (.bool (sgnsB L js l)) ∧ Below w.heap.size w w' := by
  have HV := Lib.hid (fun W (hW : Below w.heap.size w W) => refValidLine_r L a js ca W (hI.below hW))
  have hlen := hA.1
  cases h0 : lineB L js with
  | false =>
    rw [s_bad0 h0]
    rw [h0] at HV
    clear hI hA h0
    go_enter Tryz.func19, Tryz.ntmps19
    go_wp2_with fail
    obtain ⟨wB, hwB⟩ : ∃ wB, w.alloc (.cells #[.int .i64 L, .slice a js.length ca] 24) = wB := ⟨_, rfl⟩
    have hb : Below w.heap.size w wB := by rw [← hwB]; exact (Below.refl _ _).alloc (Nat.le_refl _) _
    have p0 : wB.cell? ⟨w.heap.size, 0, none⟩ = some (.int .i64 L) := by rw [← hwB]; simp [go_sem]
    have p1 : wB.cell? ⟨w.heap.size, 1, none⟩ = some (.slice a js.length ca) := by rw [← hwB]; simp [go_sem]
    rw [hwB]
    clear hwB
    go_wp2_with (go_at_call 48; refine (HV.out _ hb).mono ?_; rintro e w1 ⟨rfl, hb1⟩)
    go_ret
    exact ⟨rfl, hb.trans (hb1.mono hb.size)⟩
  | true =>
    rw [h0] at HV
    by_cases h9 : 100 < l.length
    · rw [s_bad9 h9]
      have h9i : (100 : Int) < (l.length : Int) := by omega
      clear hI hA h0
      go_enter Tryz.func19, Tryz.ntmps19
      go_wp2_with fail
      obtain ⟨wB, hwB⟩ : ∃ wB, w.alloc (.cells #[.int .i64 L, .slice a js.length ca] 24) = wB := ⟨_, rfl⟩
      have hb : Below w.heap.size w wB := by rw [← hwB]; exact (Below.refl _ _).alloc (Nat.le_refl _) _
      have p0 : wB.cell? ⟨w.heap.size, 0, none⟩ = some (.int .i64 L) := by rw [← hwB]; simp [go_sem]
      have p1 : wB.cell? ⟨w.heap.size, 1, none⟩ = some (.slice a js.length ca) := by rw [← hwB]; simp [go_sem]
      rw [hwB]
      clear hwB
      go_wp2_with (go_at_call 48; refine (HV.out _ hb).mono ?_; rintro e w1 ⟨rfl, hb1⟩)
      go_ret
      exact ⟨rfl, hb.trans (hb1.mono hb.size)⟩
    · have h9i : ¬ (100 : Int) < (l.length : Int) := by omega
      have HB1 : Hid (∀ k, k < l.length → btw (gs l k).n 1 1000000000 = false → sgnsB L js l = false) := Lib.hid fun k hk h => s_bad1 hk h
      have HB2 : Hid (∀ k, k < l.length → sgnB L (gs l k) = false → sgnsB L js l = false) := Lib.hid fun k hk h => s_bad2 hk h
      have HB3 : Hid (∀ k j, k < l.length → j < k → (gs l j).n = (gs l k).n → sgnsB L js l = false) := Lib.hid fun k j hk hj h => s_bad3 hk hj h
      have HE : Hid ((∀ k, k < l.length → sRt L l k) → sgnsB L js l = true) := Lib.hid fun h => s_end h0 (by omega) h
      obtain ⟨-, blk, off, ad, cp, hadr, hc⟩ := hA
      have HC := Lib.hid hc
      have HL : Hid (0 < l.length → aa = some ⟨blk, off, none⟩) := Lib.hid fun h => hadr (List.ne_nil_of_length_pos h)
      clear hI h0 hc hadr
      go_enter Tryz.func19, Tryz.ntmps19
      go_wp2_with fail
      obtain ⟨wB, hwB⟩ : ∃ wB, w.alloc (.cells #[.int .i64 L, .slice a js.length ca] 24) = wB := ⟨_, rfl⟩
      have hb : Below w.heap.size w wB := by rw [← hwB]; exact (Below.refl _ _).alloc (Nat.le_refl _) _
      have p0 : wB.cell? ⟨w.heap.size, 0, none⟩ = some (.int .i64 L) := by rw [← hwB]; simp [go_sem]
      have p1 : wB.cell? ⟨w.heap.size, 1, none⟩ = some (.slice a js.length ca) := by rw [← hwB]; simp [go_sem]
      rw [hwB]
      clear hwB
      go_wp2_with (go_at_call 48; refine (HV.out _ hb).mono ?_; rintro e w1 ⟨rfl, hb1⟩; have hbw := hb.trans (hb1.mono hb.size); replace p0 := cell_below p0 hb1; clear p1)
      clear HV hb1
      go_loopw [5] (fun i wr => ∃ k : Nat, k ≤ l.length ∧ i = .int .i64 k ∧ Hid (∀ j, j < k → sRt L l j) ∧ Below w1.heap.size w1 wr) (fun i _ => l.length - (intOf i).toNat)
      case atStart => exact ⟨0, Nat.zero_le _, rfl, Lib.hid fun j hj => absurd hj (Nat.not_lt_zero _), Below.refl _ _⟩
      case round =>
        obtain ⟨k, hk, rfl, HN, hbr⟩ := hrel
        have p0 := cell_below p0 hbr
        have hz : w.heap.size < wr.heap.size := block_lt p0
        by_cases hlt : k < l.length
        · obtain rfl := HL.out (by omega)
          obtain ⟨⟨c0, c1, c2, c3, c4, c5, c6, c7⟩, c8, hpr⟩ := HC.out k hlt
          have hbo := hbw.trans (hbr.mono hbw.size)
          have c0 := cell_below c0 hbo
          have c1 := cell_below c1 hbo
          have c2 := cell_below c2 hbo
          have c3 := cell_below c3 hbo
          have c4 := cell_below c4 hbo
          have c5 := cell_below c5 hbo
          have c6 := cell_below c6 hbo
          have c7 := cell_below c7 hbo
          have c8 := cell_below c8 hbo
          have HPr := Lib.hid (hpr.below hbo)
          clear hpr
          have hkl : (k : Int) < (l.length : Int) := by omega
          have hmeas : l.length - (k + 1) < l.length - k := by omega
          have HB1k := Lib.hid (HB1.out k hlt)
          have HB2k := Lib.hid (HB2.out k hlt)
          have HB3k := Lib.hid (fun j hj => HB3.out k j hlt hj)
          have HS : Hid (sRt L l k → ∀ j, j < k + 1 → sRt L l j) := Lib.hid fun h j hj => by
            by_cases e : j = k
            · subst e; exact h
            · exact HN.out j (by omega)
          have HRt : Hid (sRt L l k = (btw (gs l k).n 1 1000000000 = true ∧ sgnB L (gs l k) = true ∧ ∀ j, j < k → (gs l j).n ≠ (gs l k).n)) := Lib.hid rfl
          have HCj : Hid (∀ j, j < k → wr.cell? ⟨blk, off + j * 9, none⟩ = some (.int .i64 (gs l j).n)) := Lib.hid fun j hj => cell_below (HC.out j (by omega)).1.1 hbo
          clear HC HL HE HB1 HB2 HB3 HN
          generalize ad k = adk at *
          generalize cp k = cpk at *
          obtain ⟨x, hx⟩ : ∃ x, gs l k = x := ⟨_, rfl⟩
          rw [hx] at HB1k HB2k HB3k HRt c0 c1 c2 c3 c4 c5 c6 c7 c8 HPr
          clear hx
          generalize sRt L l k = RT at *
          obtain ⟨s, hs⟩ : ∃ s, sgnsB L js l = s := ⟨_, rfl⟩
          rw [hs] at HB1k HB2k HB3k
          have HSE := Lib.hid hs
          clear hs
          have Q0 : Hid (∀ W, Calls Tryz.prog 51 #[.int .i64 x.n, .int .i64 1, .int .i64 1000000000] W fun e w7 => e = .returned (.bool (btw x.n 1 1000000000)) ∧ W = w7) := Lib.hid fun W => refWithin_r 1 1000000000 x.n W
          have Q1 : Hid (∀ W, Calls Tryz.prog 52 #[.int .i64 x.k, .int .i64 x.v] W fun e w7 => e = .returned (.bool (valB x.k x.v)) ∧ W = w7) := Lib.hid fun W => refValue_r x.k x.v W
          have Q2 : Hid (∀ W, Calls Tryz.prog 51 #[.int .i64 x.c, .int .i64 0, .int .i64 L] W fun e w7 => e = .returned (.bool (btw x.c 0 L)) ∧ W = w7) := Lib.hid fun W => refWithin_r 0 L x.c W
          have Q3 : Hid (∀ W, Calls Tryz.prog 53 #[.int .i64 x.d] W fun e w7 => e = .returned (.bool (dirB x.d)) ∧ W = w7) := Lib.hid fun W => refDir_r x.d W
          have Q4 : Hid (∀ W, Calls Tryz.prog 51 #[.int .i64 x.rk, .int .i64 1, .int .i64 9] W fun e w7 => e = .returned (.bool (btw x.rk 1 9)) ∧ W = w7) := Lib.hid fun W => refWithin_r 1 9 x.rk W
          have Q5 : Hid (∀ W, Calls Tryz.prog 54 #[.int .i64 x.up, .int .i64 x.dn] W fun e w7 => e = .returned (.bool (timeB x.up x.dn)) ∧ W = w7) := Lib.hid fun W => refHours_r x.up x.dn W
          have HSEo := Lib.hid HSE.out
          cases g0 : btw x.n 1 1000000000 with
          | false =>
            have hr : s = false := HB1k.out g0
            rw [g0] at Q0
            subst hr
            clear HB1k HB2k HB3k HS HRt HCj HPr HSE g0
            go_wp2_with (first | (go_at_call 51; with_reducible refine Calls.mono (Q0.out _) ?_; rintro e w7 ⟨rfl, rfl⟩) | (go_at_call 52; with_reducible refine Calls.mono (Q1.out _) ?_; rintro e w7 ⟨rfl, rfl⟩) | (go_at_call 51; with_reducible refine Calls.mono (Q2.out _) ?_; rintro e w7 ⟨rfl, rfl⟩) | (go_at_call 53; with_reducible refine Calls.mono (Q3.out _) ?_; rintro e w7 ⟨rfl, rfl⟩) | (go_at_call 51; with_reducible refine Calls.mono (Q4.out _) ?_; rintro e w7 ⟨rfl, rfl⟩) | (go_at_call 54; with_reducible refine Calls.mono (Q5.out _) ?_; rintro e w7 ⟨rfl, rfl⟩))
            go_ret
            exact ⟨by rw [HSEo.out] <;> rfl, hbo.alloc hbo.size _⟩
          | true =>
            rw [g0] at Q0
            cases g1 : valB x.k x.v with
            | false =>
              have hr : s = false := HB2k.out (by unfold sgnB; rw [g1]; simp)
              rw [g1] at Q1
              subst hr
              clear HB1k HB2k HB3k HS HRt HCj HPr HSE g0 g1
              go_wp2_with (first | (go_at_call 51; with_reducible refine Calls.mono (Q0.out _) ?_; rintro e w7 ⟨rfl, rfl⟩) | (go_at_call 52; with_reducible refine Calls.mono (Q1.out _) ?_; rintro e w7 ⟨rfl, rfl⟩) | (go_at_call 51; with_reducible refine Calls.mono (Q2.out _) ?_; rintro e w7 ⟨rfl, rfl⟩) | (go_at_call 53; with_reducible refine Calls.mono (Q3.out _) ?_; rintro e w7 ⟨rfl, rfl⟩) | (go_at_call 51; with_reducible refine Calls.mono (Q4.out _) ?_; rintro e w7 ⟨rfl, rfl⟩) | (go_at_call 54; with_reducible refine Calls.mono (Q5.out _) ?_; rintro e w7 ⟨rfl, rfl⟩))
              go_ret
              exact ⟨by rw [HSEo.out] <;> rfl, hbo.alloc hbo.size _⟩
            | true =>
              rw [g1] at Q1
              cases g2 : btw x.c 0 L with
              | false =>
                have hr : s = false := HB2k.out (by unfold sgnB; rw [g2]; simp)
                rw [g2] at Q2
                subst hr
                clear HB1k HB2k HB3k HS HRt HCj HPr HSE g0 g1 g2
                go_wp2_with (first | (go_at_call 51; with_reducible refine Calls.mono (Q0.out _) ?_; rintro e w7 ⟨rfl, rfl⟩) | (go_at_call 52; with_reducible refine Calls.mono (Q1.out _) ?_; rintro e w7 ⟨rfl, rfl⟩) | (go_at_call 51; with_reducible refine Calls.mono (Q2.out _) ?_; rintro e w7 ⟨rfl, rfl⟩) | (go_at_call 53; with_reducible refine Calls.mono (Q3.out _) ?_; rintro e w7 ⟨rfl, rfl⟩) | (go_at_call 51; with_reducible refine Calls.mono (Q4.out _) ?_; rintro e w7 ⟨rfl, rfl⟩) | (go_at_call 54; with_reducible refine Calls.mono (Q5.out _) ?_; rintro e w7 ⟨rfl, rfl⟩))
                go_ret
                exact ⟨by rw [HSEo.out] <;> rfl, hbo.alloc hbo.size _⟩
              | true =>
                rw [g2] at Q2
                cases g3 : dirB x.d with
                | false =>
                  have hr : s = false := HB2k.out (by unfold sgnB; rw [g3]; simp)
                  rw [g3] at Q3
                  subst hr
                  clear HB1k HB2k HB3k HS HRt HCj HPr HSE g0 g1 g2 g3
                  go_wp2_with (first | (go_at_call 51; with_reducible refine Calls.mono (Q0.out _) ?_; rintro e w7 ⟨rfl, rfl⟩) | (go_at_call 52; with_reducible refine Calls.mono (Q1.out _) ?_; rintro e w7 ⟨rfl, rfl⟩) | (go_at_call 51; with_reducible refine Calls.mono (Q2.out _) ?_; rintro e w7 ⟨rfl, rfl⟩) | (go_at_call 53; with_reducible refine Calls.mono (Q3.out _) ?_; rintro e w7 ⟨rfl, rfl⟩) | (go_at_call 51; with_reducible refine Calls.mono (Q4.out _) ?_; rintro e w7 ⟨rfl, rfl⟩) | (go_at_call 54; with_reducible refine Calls.mono (Q5.out _) ?_; rintro e w7 ⟨rfl, rfl⟩))
                  go_ret
                  exact ⟨by rw [HSEo.out] <;> rfl, hbo.alloc hbo.size _⟩
                | true =>
                  rw [g3] at Q3
                  cases g4 : btw x.rk 1 9 with
                  | false =>
                    have hr : s = false := HB2k.out (by unfold sgnB; rw [g4]; simp)
                    rw [g4] at Q4
                    subst hr
                    clear HB1k HB2k HB3k HS HRt HCj HPr HSE g0 g1 g2 g3 g4
                    go_wp2_with (first | (go_at_call 51; with_reducible refine Calls.mono (Q0.out _) ?_; rintro e w7 ⟨rfl, rfl⟩) | (go_at_call 52; with_reducible refine Calls.mono (Q1.out _) ?_; rintro e w7 ⟨rfl, rfl⟩) | (go_at_call 51; with_reducible refine Calls.mono (Q2.out _) ?_; rintro e w7 ⟨rfl, rfl⟩) | (go_at_call 53; with_reducible refine Calls.mono (Q3.out _) ?_; rintro e w7 ⟨rfl, rfl⟩) | (go_at_call 51; with_reducible refine Calls.mono (Q4.out _) ?_; rintro e w7 ⟨rfl, rfl⟩) | (go_at_call 54; with_reducible refine Calls.mono (Q5.out _) ?_; rintro e w7 ⟨rfl, rfl⟩))
                    go_ret
                    exact ⟨by rw [HSEo.out] <;> rfl, hbo.alloc hbo.size _⟩
                  | true =>
                    rw [g4] at Q4
                    cases g5 : timeB x.up x.dn with
                    | false =>
                      have hr : s = false := HB2k.out (by unfold sgnB; rw [g5]; simp)
                      rw [g5] at Q5
                      subst hr
                      clear HB1k HB2k HB3k HS HRt HCj HPr HSE g0 g1 g2 g3 g4 g5
                      go_wp2_with (first | (go_at_call 51; with_reducible refine Calls.mono (Q0.out _) ?_; rintro e w7 ⟨rfl, rfl⟩) | (go_at_call 52; with_reducible refine Calls.mono (Q1.out _) ?_; rintro e w7 ⟨rfl, rfl⟩) | (go_at_call 51; with_reducible refine Calls.mono (Q2.out _) ?_; rintro e w7 ⟨rfl, rfl⟩) | (go_at_call 53; with_reducible refine Calls.mono (Q3.out _) ?_; rintro e w7 ⟨rfl, rfl⟩) | (go_at_call 51; with_reducible refine Calls.mono (Q4.out _) ?_; rintro e w7 ⟨rfl, rfl⟩) | (go_at_call 54; with_reducible refine Calls.mono (Q5.out _) ?_; rintro e w7 ⟨rfl, rfl⟩))
                      go_ret
                      exact ⟨by rw [HSEo.out] <;> rfl, hbo.alloc hbo.size _⟩
                    | true =>
                      rw [g5] at Q5
                      have hup : ¬ (10000000 : Int) < x.up := by
                        have h := g5
                        simp only [timeB, Bool.and_eq_true, decide_eq_true_eq] at h
                        omega
                      by_cases h10 : 10 < x.cv.length
                      · have hr : s = false := HB2k.out (by unfold sgnB; rw [decide_eq_false (by omega : ¬ x.cv.length ≤ 10)]; simp)
                        have h10i : (10 : Int) < (x.cv.length : Int) := by omega
                        subst hr
                        clear HB1k HB2k HB3k HS HRt HCj HPr HSE g0 g1 g2 g3 g4 g5
                        go_wp2_with (first | (go_at_call 51; with_reducible refine Calls.mono (Q0.out _) ?_; rintro e w7 ⟨rfl, rfl⟩) | (go_at_call 52; with_reducible refine Calls.mono (Q1.out _) ?_; rintro e w7 ⟨rfl, rfl⟩) | (go_at_call 51; with_reducible refine Calls.mono (Q2.out _) ?_; rintro e w7 ⟨rfl, rfl⟩) | (go_at_call 53; with_reducible refine Calls.mono (Q3.out _) ?_; rintro e w7 ⟨rfl, rfl⟩) | (go_at_call 51; with_reducible refine Calls.mono (Q4.out _) ?_; rintro e w7 ⟨rfl, rfl⟩) | (go_at_call 54; with_reducible refine Calls.mono (Q5.out _) ?_; rintro e w7 ⟨rfl, rfl⟩))
                        go_ret
                        exact ⟨by rw [HSEo.out] <;> rfl, hbo.alloc hbo.size _⟩
                      · have h10i : ¬ (10 : Int) < (x.cv.length : Int) := by omega
                        have HSg : Hid (covB x.cv = true → sgnB L x = true) := Lib.hid fun h => by unfold sgnB; rw [g1, g2, g3, g4, g5, h, decide_eq_true (by omega : x.cv.length ≤ 10)]; rfl
                        have HSb : Hid (covB x.cv = false → s = false) := Lib.hid fun h => HB2k.out (by unfold sgnB; rw [h]; simp)
                        have HRt2 : Hid (covB x.cv = true → (∀ j, j < k → (gs l j).n ≠ x.n) → RT) := Lib.hid fun h1 h2 => by rw [HRt.out]; exact ⟨g0, HSg.out h1, h2⟩
                        have HSbox : Hid (Below w.heap.size w (wr.alloc (.cells #[.int .i64 x.n, .int .i64 x.k, .int .i64 x.v, .int .i64 x.c, .int .i64 x.d, .int .i64 x.rk, .int .i64 x.up, .int .i64 x.dn, .slice adk x.cv.length cpk] 51))) := Lib.hid (hbo.alloc hbo.size _)
                        clear HB1k HB2k HRt HSg HSE g0 g1 g2 g3 g4 g5
                        go_wp2_with (first | (go_at_call 51; with_reducible refine Calls.mono (Q0.out _) ?_; rintro e w7 ⟨rfl, rfl⟩) | (go_at_call 52; with_reducible refine Calls.mono (Q1.out _) ?_; rintro e w7 ⟨rfl, rfl⟩) | (go_at_call 51; with_reducible refine Calls.mono (Q2.out _) ?_; rintro e w7 ⟨rfl, rfl⟩) | (go_at_call 53; with_reducible refine Calls.mono (Q3.out _) ?_; rintro e w7 ⟨rfl, rfl⟩) | (go_at_call 51; with_reducible refine Calls.mono (Q4.out _) ?_; rintro e w7 ⟨rfl, rfl⟩) | (go_at_call 54; with_reducible refine Calls.mono (Q5.out _) ?_; rintro e w7 ⟨rfl, rfl⟩))
                        clear Q0 Q1 Q2 Q3 Q4 Q5
                        obtain ⟨wS, hwS⟩ : ∃ wS, wr.alloc (.cells #[.int .i64 x.n, .int .i64 x.k, .int .i64 x.v, .int .i64 x.c, .int .i64 x.d, .int .i64 x.rk, .int .i64 x.up, .int .i64 x.dn, .slice adk x.cv.length cpk] 51) = wS := ⟨_, rfl⟩
                        rw [hwS] at HSbox
                        have hbS0 : Below wr.heap.size wr wS := by rw [← hwS]; exact (Below.refl _ _).alloc (Nat.le_refl _) _
                        have x0 : wS.cell? ⟨wr.heap.size, 0, none⟩ = some (.int .i64 x.n) := by rw [← hwS]; simp [go_sem]
                        have x8 : wS.cell? ⟨wr.heap.size, 8, none⟩ = some (.slice adk x.cv.length cpk) := by rw [← hwS]; simp [go_sem]
                        rw [hwS]
                        clear hwS
                        have HCj : Hid (∀ j, j < k → wS.cell? ⟨blk, off + j * 9, none⟩ = some (.int .i64 (gs l j).n)) := Lib.hid fun j hj => cell_below (HCj.out j hj) hbS0
                        have HPr := Lib.hid (HPr.out.below hbS0)
                        have hbS := hbr.trans (hbS0.mono hbr.size)
                        have hsS := hbS0.size
                        have HBS := Lib.hid hbS
                        obtain ⟨rb, hrb⟩ : ∃ rb, wr.heap.size = rb := ⟨_, rfl⟩
                        rw [hrb] at x0 x8 ⊢
                        clear c0 c1 c2 c3 c4 c5 c6 c7 c8 hbr hbo hbS0 hbS hsS hrb p0 hz
                        obtain ⟨-, -, pb, po, hpa, hpc⟩ := HPr.out
                        have HPA : Hid (0 < x.cv.length → adk = some ⟨pb, po, none⟩) := Lib.hid fun h => hpa (List.ne_nil_of_length_pos h)
                        have HPC := Lib.hid hpc
                        clear hpa hpc
                        go_loopw [7] (fun i wr => ∃ j : Nat, j ≤ x.cv.length ∧ i = .int .i64 j ∧ Hid (∀ i, i < j → timeB (gp x.cv i).1 (gp x.cv i).2 = true) ∧ Below wS.heap.size wS wr) (fun i _ => x.cv.length - (intOf i).toNat)
                        case atStart => exact ⟨0, Nat.zero_le _, rfl, Lib.hid fun j hj => absurd hj (Nat.not_lt_zero _), Below.refl _ _⟩
                        case round =>
                          obtain ⟨j, hj, rfl, HJ, hbr⟩ := hrel
                          have x0 := cell_below x0 hbr
                          have x8 := cell_below x8 hbr
                          by_cases hjl : j < x.cv.length
                          · obtain rfl := HPA.out (by omega)
                            obtain ⟨q0, q1⟩ := HPC.out j hjl
                            have q0 := cell_below q0 hbr
                            have q1 := cell_below q1 hbr
                            have hji : (j : Int) < (x.cv.length : Int) := by omega
                            have hmeas2 : x.cv.length - (j + 1) < x.cv.length - j := by omega
                            have HJ2 : Hid (timeB (gp x.cv j).1 (gp x.cv j).2 = true → ∀ i, i < j + 1 → timeB (gp x.cv i).1 (gp x.cv i).2 = true) := Lib.hid fun h i hi => by
                              by_cases e : i = j
                              · subst e; exact h
                              · exact HJ.out i (by omega)
                            have HCv : Hid (timeB (gp x.cv j).1 (gp x.cv j).2 = false → covB x.cv = false) := Lib.hid fun h => by unfold covB; rw [anyK_true (j := j) (by simp [h]) _ hjl]; rfl
                            have hbz : Below w.heap.size w wr := HSbox.out.trans (hbr.mono HSbox.out.size)
                            clear HJ HPC HPA
                            generalize (gp x.cv j).1 = y0 at *
                            generalize (gp x.cv j).2 = y1 at *
                            cases gt : timeB y0 y1 with
                            | false =>
                              have QH : Hid (∀ W, Calls Tryz.prog 54 #[.int .i64 y0, .int .i64 y1] W fun e w7 => e = .returned (.bool false) ∧ W = w7) := Lib.hid fun W => by have := refHours_r y0 y1 W; rwa [gt] at this
                              have hr := HSb.out (HCv.out gt)
                              subst hr
                              clear HJ2 HCv gt HSb HRt2
                              go_wp2_with fail
                              go_quiet ((go_at_call 54; exact Calls.quiet_of_same ((QH.out _).mono fun e w7 h => ⟨h.1, h.2.symm⟩)))
                              go_wp2_with fail
                              go_ret
                              exact ⟨by rw [HSEo.out] <;> rfl, below_drewN hbz _⟩
                            | true =>
                              have QH : Hid (∀ W, Calls Tryz.prog 54 #[.int .i64 y0, .int .i64 y1] W fun e w7 => e = .returned (.bool true) ∧ W = w7) := Lib.hid fun W => by have := refHours_r y0 y1 W; rwa [gt] at this
                              have HJ3 := Lib.hid (HJ2.out gt)
                              clear HJ2 HCv gt HSb HRt2
                              go_wp2_with fail
                              go_quiet ((go_at_call 54; exact Calls.quiet_of_same ((QH.out _).mono fun e w7 h => ⟨h.1, h.2.symm⟩)))
                              go_wp2_with fail
                              go_roundw
                              case rel => exact ⟨j + 1, by omega, by go_num, HJ3, below_drewN hbr _⟩
                              case measure => first | (simp [intOf]; exact hmeas2) | simpa [intOf] using hmeas2
                          · obtain rfl : j = x.cv.length := by omega
                            have hcv : covB x.cv = true := by unfold covB; rw [(anyK_iff _).2 (fun i hi => by simp [HJ.out i hi])]; rfl
                            have HRt3 := Lib.hid (HRt2.out hcv)
                            have hbz : Below w.heap.size w wr := HSbox.out.trans (hbr.mono HSbox.out.size)
                            have HCj := Lib.hid (fun j hj => cell_below (HCj.out j hj) hbr)
                            have HBZ := Lib.hid (HBS.out.trans (hbr.mono HBS.out.size))
                            clear hcv HRt2 HJ HPC HPA HSb HBS hbr HPr HSbox
                            go_wp2_with fail
                            obtain ⟨wo, rfl⟩ : ∃ wo : World, wo = wr := ⟨_, rfl⟩
                            go_loopw [8] (fun i wr => ∃ j : Nat, j ≤ k ∧ i = .int .i64 j ∧ Hid (∀ i, i < j → (gs l i).n ≠ x.n) ∧ Below wo.heap.size wo wr) (fun i _ => k - (intOf i).toNat)
                            case atStart => exact ⟨0, Nat.zero_le _, rfl, Lib.hid fun j hj => absurd hj (Nat.not_lt_zero _), Below.refl _ _⟩
                            case round =>
                        obtain ⟨j, hj, rfl, HJ, hbr⟩ := hrel
                        have x0 := cell_below x0 hbr
                        by_cases hjk : j < k
                        · have q0 := cell_below (HCj.out j hjk) hbr
                          have hji : (j : Int) < (k : Int) := by omega
                          have hjl : (j : Int) < (l.length : Int) := by omega
                          have hmeas2 : k - (j + 1) < k - j := by omega
                          have HJ2 : Hid ((gs l j).n ≠ x.n → ∀ i, i < j + 1 → (gs l i).n ≠ x.n) := Lib.hid fun h i hi => by
                            by_cases e : i = j
                            · subst e; exact h
                            · exact HJ.out i (by omega)
                          have HB3j := Lib.hid (HB3k.out j hjk)
                          have hbz2 : Below w.heap.size w wr := hbz.trans (hbr.mono hbz.size)
                          clear HJ HB3k HCj
                          generalize (gs l j).n = y at *
                          by_cases hy : y = x.n
                          · have hr := HB3j.out hy
                            subst hr
                            subst hy
                            have d : (x.n == x.n) = true := beq_self_eq_true _
                            clear HJ2 HB3j HRt3
                            go_wp2_with fail
                            go_quiet (fail)
                            go_wp2_with fail
                            go_ret
                            exact ⟨by rw [HSEo.out] <;> rfl, below_drewN hbz2 _⟩
                          · have d : (y == x.n) = false := beq_false_of_ne hy
                            have HJ3 := Lib.hid (HJ2.out hy)
                            clear HJ2 HB3j HRt3 hy
                            go_wp2_with fail
                            go_quiet (fail)
                            go_wp2_with fail
                            go_roundw
                            case rel => exact ⟨j + 1, by omega, by go_num, HJ3, below_drewN hbr _⟩
                            case measure => first | (simp [intOf]; exact hmeas2) | simpa [intOf] using hmeas2
                        · obtain rfl : j = k := by omega
                          have HSk := Lib.hid (HS.out (HRt3.out HJ.out))
                          have hbf := HBZ.out.trans (hbr.mono HBZ.out.size)
                          clear HJ HRt3 HS HB3k HCj HBZ
                          go_wp2_with fail
                          go_roundw
                          case rel => exact ⟨j + 1, by omega, by go_num, HSk, hbf⟩
                          case measure => first | (simp [intOf]; exact hmeas) | simpa [intOf] using hmeas
        · obtain rfl : k = l.length := by omega
          have hr := Lib.hid (HE.out HN.out)
          have hbo := hbw.trans (hbr.mono hbw.size)
          clear HC HL HE HB1 HB2 HB3 HN
          go_wp2_with fail
          go_ret
          exact ⟨by rw [hr.out] <;> rfl, hbo⟩
end Go.Proofs.YtneafbhiencjlaaGreatDoor

namespace Go.Proofs.YtneafbhiencjlaaGreatDoor
set_option linter.unusedVariables false
set_option linter.unusedSimpArgs false
open Go.RowKit

set_option maxRecDepth 100000 in
set_option maxHeartbeats 2000000 in
theorem refValidEdicts_r (L : Int) (a : Option Addr) (js : List Int) (ca : Nat) (aa : Option Addr) (l : List Edc) (cl : Nat) (w : World) (hI : IntsS w a js) (hA : EdS w aa l) :
    Calls Tryz.prog 20 #[.agg #[.int .i64 L, .slice a js.length ca], .slice aa l.length cl] w fun e w' => e = .returned (.bool (edcsB L js l)) ∧ Below w.heap.size w w' := by
  have HV := Lib.hid (fun W (hW : Below w.heap.size w W) => refValidLine_r L a js ca W (hI.below hW))
  have hlen := hA.1
  cases h0 : lineB L js with
  | false =>
    rw [e_bad0 h0]
    rw [h0] at HV
    clear hI hA h0
    go_enter Tryz.func20, Tryz.ntmps20
    go_wp2_with fail
    obtain ⟨wB, hwB⟩ : ∃ wB, w.alloc (.cells #[.int .i64 L, .slice a js.length ca] 24) = wB := ⟨_, rfl⟩
    have hb : Below w.heap.size w wB := by rw [← hwB]; exact (Below.refl _ _).alloc (Nat.le_refl _) _
    have p0 : wB.cell? ⟨w.heap.size, 0, none⟩ = some (.int .i64 L) := by rw [← hwB]; simp [go_sem]
    have p1 : wB.cell? ⟨w.heap.size, 1, none⟩ = some (.slice a js.length ca) := by rw [← hwB]; simp [go_sem]
    rw [hwB]
    clear hwB
    go_wp2_with (go_at_call 48; refine (HV.out _ hb).mono ?_; rintro e w1 ⟨rfl, hb1⟩)
    go_ret
    exact ⟨rfl, hb.trans (hb1.mono hb.size)⟩
  | true =>
    rw [h0] at HV
    by_cases h9 : 50 < l.length
    · rw [e_bad9 h9]
      have h9i : (50 : Int) < (l.length : Int) := by omega
      clear hI hA h0
      go_enter Tryz.func20, Tryz.ntmps20
      go_wp2_with fail
      obtain ⟨wB, hwB⟩ : ∃ wB, w.alloc (.cells #[.int .i64 L, .slice a js.length ca] 24) = wB := ⟨_, rfl⟩
      have hb : Below w.heap.size w wB := by rw [← hwB]; exact (Below.refl _ _).alloc (Nat.le_refl _) _
      have p0 : wB.cell? ⟨w.heap.size, 0, none⟩ = some (.int .i64 L) := by rw [← hwB]; simp [go_sem]
      have p1 : wB.cell? ⟨w.heap.size, 1, none⟩ = some (.slice a js.length ca) := by rw [← hwB]; simp [go_sem]
      rw [hwB]
      clear hwB
      go_wp2_with (go_at_call 48; refine (HV.out _ hb).mono ?_; rintro e w1 ⟨rfl, hb1⟩)
      go_ret
      exact ⟨rfl, hb.trans (hb1.mono hb.size)⟩
    · have h9i : ¬ (50 : Int) < (l.length : Int) := by omega
      have HB1 : Hid (∀ k, k < l.length → btw (ge l k).n 1 1000000000 = false → edcsB L js l = false) := Lib.hid fun k hk h => e_bad1 hk h
      have HB2 : Hid (∀ k, k < l.length → edcB L (ge l k) = false → edcsB L js l = false) := Lib.hid fun k hk h => e_bad2 hk h
      have HB3 : Hid (∀ k j, k < l.length → j < k → (ge l j).n = (ge l k).n → edcsB L js l = false) := Lib.hid fun k j hk hj h => e_bad3 hk hj h
      have HE : Hid ((∀ k, k < l.length → eRt L l k) → edcsB L js l = true) := Lib.hid fun h => e_end h0 (by omega) h
      obtain ⟨-, blk, off, hadr, hc⟩ := hA
      have HC := Lib.hid hc
      have HL : Hid (0 < l.length → aa = some ⟨blk, off, none⟩) := Lib.hid fun h => hadr (List.ne_nil_of_length_pos h)
      clear hI h0 hc hadr
      go_enter Tryz.func20, Tryz.ntmps20
      go_wp2_with fail
      obtain ⟨wB, hwB⟩ : ∃ wB, w.alloc (.cells #[.int .i64 L, .slice a js.length ca] 24) = wB := ⟨_, rfl⟩
      have hb : Below w.heap.size w wB := by rw [← hwB]; exact (Below.refl _ _).alloc (Nat.le_refl _) _
      have p0 : wB.cell? ⟨w.heap.size, 0, none⟩ = some (.int .i64 L) := by rw [← hwB]; simp [go_sem]
      have p1 : wB.cell? ⟨w.heap.size, 1, none⟩ = some (.slice a js.length ca) := by rw [← hwB]; simp [go_sem]
      rw [hwB]
      clear hwB
      go_wp2_with (go_at_call 48; refine (HV.out _ hb).mono ?_; rintro e w1 ⟨rfl, hb1⟩; have hbw := hb.trans (hb1.mono hb.size); replace p0 := cell_below p0 hb1; clear p1)
      clear HV hb1
      go_loopw [5] (fun i wr => ∃ k : Nat, k ≤ l.length ∧ i = .int .i64 k ∧ Hid (∀ j, j < k → eRt L l j) ∧ Below w1.heap.size w1 wr) (fun i _ => l.length - (intOf i).toNat)
      case atStart => exact ⟨0, Nat.zero_le _, rfl, Lib.hid fun j hj => absurd hj (Nat.not_lt_zero _), Below.refl _ _⟩
      case round =>
        obtain ⟨k, hk, rfl, HN, hbr⟩ := hrel
        have p0 := cell_below p0 hbr
        have hz : w.heap.size < wr.heap.size := block_lt p0
        by_cases hlt : k < l.length
        · obtain rfl := HL.out (by omega)
          obtain ⟨c0, c1, c2, c3, c4, c5, c6, c7⟩ := HC.out k hlt
          have hbo := hbw.trans (hbr.mono hbw.size)
          have c0 := cell_below c0 hbo
          have c1 := cell_below c1 hbo
          have c2 := cell_below c2 hbo
          have c3 := cell_below c3 hbo
          have c4 := cell_below c4 hbo
          have c5 := cell_below c5 hbo
          have c6 := cell_below c6 hbo
          have c7 := cell_below c7 hbo
          have hkl : (k : Int) < (l.length : Int) := by omega
          have hmeas : l.length - (k + 1) < l.length - k := by omega
          have HB1k := Lib.hid (HB1.out k hlt)
          have HB2k := Lib.hid (HB2.out k hlt)
          have HB3k := Lib.hid (fun j hj => HB3.out k j hlt hj)
          have HS : Hid (eRt L l k → ∀ j, j < k + 1 → eRt L l j) := Lib.hid fun h j hj => by
            by_cases e : j = k
            · subst e; exact h
            · exact HN.out j (by omega)
          have HRt : Hid (eRt L l k = (btw (ge l k).n 1 1000000000 = true ∧ edcB L (ge l k) = true ∧ ∀ j, j < k → (ge l j).n ≠ (ge l k).n)) := Lib.hid rfl
          have HCj : Hid (∀ j, j < k → wr.cell? ⟨blk, off + j * 8, none⟩ = some (.int .i64 (ge l j).n)) := Lib.hid fun j hj => cell_below (HC.out j (by omega)).1 hbo
          clear HC HL HE HB1 HB2 HB3 HN
          obtain ⟨x, hx⟩ : ∃ x, ge l k = x := ⟨_, rfl⟩
          rw [hx] at HB1k HB2k HB3k HRt c0 c1 c2 c3 c4 c5 c6 c7
          clear hx
          generalize eRt L l k = RT at *
          obtain ⟨s, hs⟩ : ∃ s, edcsB L js l = s := ⟨_, rfl⟩
          rw [hs] at HB1k HB2k HB3k
          have HSE := Lib.hid hs
          clear hs
          have Q0 : Hid (∀ W, Calls Tryz.prog 51 #[.int .i64 x.v, .int .i64 10, .int .i64 200] W fun e w7 => e = .returned (.bool (btw x.v 10 200)) ∧ W = w7) := Lib.hid fun W => refWithin_r 10 200 x.v W
          have Q1 : Hid (∀ W, Calls Tryz.prog 51 #[.int .i64 x.n, .int .i64 1, .int .i64 1000000000] W fun e w7 => e = .returned (.bool (btw x.n 1 1000000000)) ∧ W = w7) := Lib.hid fun W => refWithin_r 1 1000000000 x.n W
          have Q2 : Hid (∀ W, Calls Tryz.prog 53 #[.int .i64 x.d] W fun e w7 => e = .returned (.bool (dirB x.d)) ∧ W = w7) := Lib.hid fun W => refDir_r x.d W
          have Q3 : Hid (∀ W, Calls Tryz.prog 54 #[.int .i64 x.st, .int .i64 x.en] W fun e w7 => e = .returned (.bool (timeB x.st x.en)) ∧ W = w7) := Lib.hid fun W => refHours_r x.st x.en W
          have HSEo := Lib.hid HSE.out
          by_cases t1 : x.tp = 1
          · have d1 : (x.tp == 1) = true := by rw [t1]; rfl
            have d2 : (x.tp == 2) = false := by rw [t1]; rfl
            cases g0 : btw x.v 10 200 with
            | false =>
              have hr : s = false := HB2k.out (by unfold edcB edV; rw [d1, d2, g0]; simp)
              subst hr
              rw [g0] at Q0
              clear g0 t1
              clear HB1k HB2k HB3k HS HRt HCj HSE
              go_wp2_with (first | (go_at_call 51; with_reducible refine Calls.mono (Q0.out _) ?_; rintro e w7 ⟨rfl, rfl⟩) | (go_at_call 51; with_reducible refine Calls.mono (Q1.out _) ?_; rintro e w7 ⟨rfl, rfl⟩) | (go_at_call 53; with_reducible refine Calls.mono (Q2.out _) ?_; rintro e w7 ⟨rfl, rfl⟩) | (go_at_call 54; with_reducible refine Calls.mono (Q3.out _) ?_; rintro e w7 ⟨rfl, rfl⟩))
              go_ret
              exact ⟨by rw [HSEo.out] <;> rfl, hbo.alloc hbo.size _⟩
            | true =>
              have HV : Hid (edV x.tp x.v = true) := Lib.hid (by unfold edV; rw [d1, g0]; rfl)
              rw [g0] at Q0
              clear g0 t1
              cases g1 : btw x.n 1 1000000000 with
              | false =>
                have hr : s = false := HB1k.out g1
                subst hr
                rw [g1] at Q1
                clear g1
                clear HB1k HB2k HB3k HS HRt HCj HSE
                go_wp2_with (first | (go_at_call 51; with_reducible refine Calls.mono (Q0.out _) ?_; rintro e w7 ⟨rfl, rfl⟩) | (go_at_call 51; with_reducible refine Calls.mono (Q1.out _) ?_; rintro e w7 ⟨rfl, rfl⟩) | (go_at_call 53; with_reducible refine Calls.mono (Q2.out _) ?_; rintro e w7 ⟨rfl, rfl⟩) | (go_at_call 54; with_reducible refine Calls.mono (Q3.out _) ?_; rintro e w7 ⟨rfl, rfl⟩))
                go_ret
                exact ⟨by rw [HSEo.out] <;> rfl, hbo.alloc hbo.size _⟩
              | true =>
                rw [g1] at Q1
                cases g2 : dirB x.d with
                | false =>
                  have hr : s = false := HB2k.out (by unfold edcB; rw [g2]; simp)
                  subst hr
                  rw [g2] at Q2
                  clear g2
                  clear HB1k HB2k HB3k HS HRt HCj HSE
                  go_wp2_with (first | (go_at_call 51; with_reducible refine Calls.mono (Q0.out _) ?_; rintro e w7 ⟨rfl, rfl⟩) | (go_at_call 51; with_reducible refine Calls.mono (Q1.out _) ?_; rintro e w7 ⟨rfl, rfl⟩) | (go_at_call 53; with_reducible refine Calls.mono (Q2.out _) ?_; rintro e w7 ⟨rfl, rfl⟩) | (go_at_call 54; with_reducible refine Calls.mono (Q3.out _) ?_; rintro e w7 ⟨rfl, rfl⟩))
                  go_ret
                  exact ⟨by rw [HSEo.out] <;> rfl, hbo.alloc hbo.size _⟩
                | true =>
                  rw [g2] at Q2
                  by_cases ha : x.fr < 0
                  · have hr : s = false := HB2k.out (by unfold edcB; rw [decide_eq_false (by omega : ¬ 0 ≤ x.fr)]; simp)
                    subst hr
                    clear g1 g2
                    clear HB1k HB2k HB3k HS HRt HCj HSE
                    go_wp2_with (first | (go_at_call 51; with_reducible refine Calls.mono (Q0.out _) ?_; rintro e w7 ⟨rfl, rfl⟩) | (go_at_call 51; with_reducible refine Calls.mono (Q1.out _) ?_; rintro e w7 ⟨rfl, rfl⟩) | (go_at_call 53; with_reducible refine Calls.mono (Q2.out _) ?_; rintro e w7 ⟨rfl, rfl⟩) | (go_at_call 54; with_reducible refine Calls.mono (Q3.out _) ?_; rintro e w7 ⟨rfl, rfl⟩))
                    go_ret
                    exact ⟨by rw [HSEo.out] <;> rfl, hbo.alloc hbo.size _⟩
                  · skip
                    by_cases hb : x.tt ≤ x.fr
                    · have hr : s = false := HB2k.out (by unfold edcB; rw [decide_eq_false (by omega : ¬ x.fr < x.tt)]; simp)
                      subst hr
                      clear g1 g2
                      clear HB1k HB2k HB3k HS HRt HCj HSE
                      go_wp2_with (first | (go_at_call 51; with_reducible refine Calls.mono (Q0.out _) ?_; rintro e w7 ⟨rfl, rfl⟩) | (go_at_call 51; with_reducible refine Calls.mono (Q1.out _) ?_; rintro e w7 ⟨rfl, rfl⟩) | (go_at_call 53; with_reducible refine Calls.mono (Q2.out _) ?_; rintro e w7 ⟨rfl, rfl⟩) | (go_at_call 54; with_reducible refine Calls.mono (Q3.out _) ?_; rintro e w7 ⟨rfl, rfl⟩))
                      go_ret
                      exact ⟨by rw [HSEo.out] <;> rfl, hbo.alloc hbo.size _⟩
                    · skip
                      by_cases hc : L < x.tt
                      · have hr : s = false := HB2k.out (by unfold edcB; rw [decide_eq_false (by omega : ¬ x.tt ≤ L)]; simp)
                        subst hr
                        clear g1 g2
                        clear HB1k HB2k HB3k HS HRt HCj HSE
                        go_wp2_with (first | (go_at_call 51; with_reducible refine Calls.mono (Q0.out _) ?_; rintro e w7 ⟨rfl, rfl⟩) | (go_at_call 51; with_reducible refine Calls.mono (Q1.out _) ?_; rintro e w7 ⟨rfl, rfl⟩) | (go_at_call 53; with_reducible refine Calls.mono (Q2.out _) ?_; rintro e w7 ⟨rfl, rfl⟩) | (go_at_call 54; with_reducible refine Calls.mono (Q3.out _) ?_; rintro e w7 ⟨rfl, rfl⟩))
                        go_ret
                        exact ⟨by rw [HSEo.out] <;> rfl, hbo.alloc hbo.size _⟩
                      · skip
                        cases g3 : timeB x.st x.en with
                        | false =>
                          have hr : s = false := HB2k.out (by unfold edcB; rw [g3]; simp)
                          subst hr
                          rw [g3] at Q3
                          clear g1 g2 g3
                          clear HB1k HB2k HB3k HS HRt HCj HSE
                          go_wp2_with (first | (go_at_call 51; with_reducible refine Calls.mono (Q0.out _) ?_; rintro e w7 ⟨rfl, rfl⟩) | (go_at_call 51; with_reducible refine Calls.mono (Q1.out _) ?_; rintro e w7 ⟨rfl, rfl⟩) | (go_at_call 53; with_reducible refine Calls.mono (Q2.out _) ?_; rintro e w7 ⟨rfl, rfl⟩) | (go_at_call 54; with_reducible refine Calls.mono (Q3.out _) ?_; rintro e w7 ⟨rfl, rfl⟩))
                          go_ret
                          exact ⟨by rw [HSEo.out] <;> rfl, hbo.alloc hbo.size _⟩
                        | true =>
                          rw [g3] at Q3
                          have HSg : Hid (edcB L x = true) := Lib.hid (by unfold edcB; rw [HV.out, g2, g3, decide_eq_true (by omega : 0 ≤ x.fr), decide_eq_true (by omega : x.fr < x.tt), decide_eq_true (by omega : x.tt ≤ L)]; rfl)
                          have HRt3 : Hid ((∀ j, j < k → (ge l j).n ≠ x.n) → RT) := Lib.hid fun h2 => by rw [HRt.out]; exact ⟨g1, HSg.out, h2⟩
                          have HSbox : Hid (Below w.heap.size w (wr.alloc (.cells #[.int .i64 x.n, .int .i64 x.tp, .int .i64 x.v, .int .i64 x.d, .int .i64 x.fr, .int .i64 x.tt, .int .i64 x.st, .int .i64 x.en] 104))) := Lib.hid (hbo.alloc hbo.size _)
                          clear HB1k HB2k HRt HSg HSE g1 g2 g3
                          go_wp2_with (first | (go_at_call 51; with_reducible refine Calls.mono (Q0.out _) ?_; rintro e w7 ⟨rfl, rfl⟩) | (go_at_call 51; with_reducible refine Calls.mono (Q1.out _) ?_; rintro e w7 ⟨rfl, rfl⟩) | (go_at_call 53; with_reducible refine Calls.mono (Q2.out _) ?_; rintro e w7 ⟨rfl, rfl⟩) | (go_at_call 54; with_reducible refine Calls.mono (Q3.out _) ?_; rintro e w7 ⟨rfl, rfl⟩))
                          clear Q0 Q1 Q2 Q3
                          obtain ⟨wS, hwS⟩ : ∃ wS, wr.alloc (.cells #[.int .i64 x.n, .int .i64 x.tp, .int .i64 x.v, .int .i64 x.d, .int .i64 x.fr, .int .i64 x.tt, .int .i64 x.st, .int .i64 x.en] 104) = wS := ⟨_, rfl⟩
                          rw [hwS] at HSbox
                          have hbS0 : Below wr.heap.size wr wS := by rw [← hwS]; exact (Below.refl _ _).alloc (Nat.le_refl _) _
                          have x0 : wS.cell? ⟨wr.heap.size, 0, none⟩ = some (.int .i64 x.n) := by rw [← hwS]; simp [go_sem]
                          rw [hwS]
                          clear hwS
                          have HCj : Hid (∀ j, j < k → wS.cell? ⟨blk, off + j * 8, none⟩ = some (.int .i64 (ge l j).n)) := Lib.hid fun j hj => cell_below (HCj.out j hj) hbS0
                          have HBZ := Lib.hid (hbr.trans (hbS0.mono hbr.size))
                          have hbz := HSbox.out
                          obtain ⟨rb, hrb⟩ : ∃ rb, wr.heap.size = rb := ⟨_, rfl⟩
                          rw [hrb] at x0 ⊢
                          clear c0 c1 c2 c3 c4 c5 c6 c7 hbr hbo hbS0 hrb p0 hz HSbox
                          go_loopw [8] (fun i wr => ∃ j : Nat, j ≤ k ∧ i = .int .i64 j ∧ Hid (∀ i, i < j → (ge l i).n ≠ x.n) ∧ Below wS.heap.size wS wr) (fun i _ => k - (intOf i).toNat)
                          case atStart => exact ⟨0, Nat.zero_le _, rfl, Lib.hid fun j hj => absurd hj (Nat.not_lt_zero _), Below.refl _ _⟩
                          case round =>
                            obtain ⟨j, hj, rfl, HJ, hbr⟩ := hrel
                            have x0 := cell_below x0 hbr
                            by_cases hjk : j < k
                            · have q0 := cell_below (HCj.out j hjk) hbr
                              have hji : (j : Int) < (k : Int) := by omega
                              have hjl : (j : Int) < (l.length : Int) := by omega
                              have hmeas2 : k - (j + 1) < k - j := by omega
                              have HJ2 : Hid ((ge l j).n ≠ x.n → ∀ i, i < j + 1 → (ge l i).n ≠ x.n) := Lib.hid fun h i hi => by
                                by_cases e : i = j
                                · subst e; exact h
                                · exact HJ.out i (by omega)
                              have HB3j := Lib.hid (HB3k.out j hjk)
                              have hbz2 : Below w.heap.size w wr := hbz.trans (hbr.mono hbz.size)
                              clear HJ HB3k HCj
                              generalize (ge l j).n = y at *
                              by_cases hy : y = x.n
                              · have hr := HB3j.out hy
                                subst hr
                                subst hy
                                have d : (x.n == x.n) = true := beq_self_eq_true _
                                clear HJ2 HB3j HRt3
                                go_wp2_with fail
                                go_quiet (fail)
                                go_wp2_with fail
                                go_ret
                                exact ⟨by rw [HSEo.out] <;> rfl, below_drewN hbz2 _⟩
                              · have d : (y == x.n) = false := beq_false_of_ne hy
                                have HJ3 := Lib.hid (HJ2.out hy)
                                clear HJ2 HB3j HRt3 hy
                                go_wp2_with fail
                                go_quiet (fail)
                                go_wp2_with fail
                                go_roundw
                                case rel => exact ⟨j + 1, by omega, by go_num, HJ3, below_drewN hbr _⟩
                                case measure => first | (simp [intOf]; exact hmeas2) | simpa [intOf] using hmeas2
                            · obtain rfl : j = k := by omega
                              have HSk := Lib.hid (HS.out (HRt3.out HJ.out))
                              have hbf := HBZ.out.trans (hbr.mono HBZ.out.size)
                              clear HJ HRt3 HS HB3k HCj HBZ
                              go_wp2_with fail
                              go_roundw
                              case rel => exact ⟨j + 1, by omega, by go_num, HSk, hbf⟩
                              case measure => first | (simp [intOf]; exact hmeas) | simpa [intOf] using hmeas
          · have d1 : (x.tp == 1) = false := beq_false_of_ne t1
            by_cases t2 : x.tp = 2
            · have d2 : (x.tp == 2) = true := by rw [t2]; rfl
              by_cases v1 : x.v = 1
              · have d3 : (x.v == 1) = true := by rw [v1]; rfl
                have HV : Hid (edV x.tp x.v = true) := Lib.hid (by unfold edV; rw [d2, d3]; simp)
                clear t1 t2 v1
                cases g1 : btw x.n 1 1000000000 with
                | false =>
                  have hr : s = false := HB1k.out g1
                  subst hr
                  rw [g1] at Q1
                  clear g1
                  clear HB1k HB2k HB3k HS HRt HCj HSE
                  go_wp2_with (first | (go_at_call 51; with_reducible refine Calls.mono (Q0.out _) ?_; rintro e w7 ⟨rfl, rfl⟩) | (go_at_call 51; with_reducible refine Calls.mono (Q1.out _) ?_; rintro e w7 ⟨rfl, rfl⟩) | (go_at_call 53; with_reducible refine Calls.mono (Q2.out _) ?_; rintro e w7 ⟨rfl, rfl⟩) | (go_at_call 54; with_reducible refine Calls.mono (Q3.out _) ?_; rintro e w7 ⟨rfl, rfl⟩))
                  go_ret
                  exact ⟨by rw [HSEo.out] <;> rfl, hbo.alloc hbo.size _⟩
                | true =>
                  rw [g1] at Q1
                  cases g2 : dirB x.d with
                  | false =>
                    have hr : s = false := HB2k.out (by unfold edcB; rw [g2]; simp)
                    subst hr
                    rw [g2] at Q2
                    clear g2
                    clear HB1k HB2k HB3k HS HRt HCj HSE
                    go_wp2_with (first | (go_at_call 51; with_reducible refine Calls.mono (Q0.out _) ?_; rintro e w7 ⟨rfl, rfl⟩) | (go_at_call 51; with_reducible refine Calls.mono (Q1.out _) ?_; rintro e w7 ⟨rfl, rfl⟩) | (go_at_call 53; with_reducible refine Calls.mono (Q2.out _) ?_; rintro e w7 ⟨rfl, rfl⟩) | (go_at_call 54; with_reducible refine Calls.mono (Q3.out _) ?_; rintro e w7 ⟨rfl, rfl⟩))
                    go_ret
                    exact ⟨by rw [HSEo.out] <;> rfl, hbo.alloc hbo.size _⟩
                  | true =>
                    rw [g2] at Q2
                    by_cases ha : x.fr < 0
                    · have hr : s = false := HB2k.out (by unfold edcB; rw [decide_eq_false (by omega : ¬ 0 ≤ x.fr)]; simp)
                      subst hr
                      clear g1 g2
                      clear HB1k HB2k HB3k HS HRt HCj HSE
                      go_wp2_with (first | (go_at_call 51; with_reducible refine Calls.mono (Q0.out _) ?_; rintro e w7 ⟨rfl, rfl⟩) | (go_at_call 51; with_reducible refine Calls.mono (Q1.out _) ?_; rintro e w7 ⟨rfl, rfl⟩) | (go_at_call 53; with_reducible refine Calls.mono (Q2.out _) ?_; rintro e w7 ⟨rfl, rfl⟩) | (go_at_call 54; with_reducible refine Calls.mono (Q3.out _) ?_; rintro e w7 ⟨rfl, rfl⟩))
                      go_ret
                      exact ⟨by rw [HSEo.out] <;> rfl, hbo.alloc hbo.size _⟩
                    · skip
                      by_cases hb : x.tt ≤ x.fr
                      · have hr : s = false := HB2k.out (by unfold edcB; rw [decide_eq_false (by omega : ¬ x.fr < x.tt)]; simp)
                        subst hr
                        clear g1 g2
                        clear HB1k HB2k HB3k HS HRt HCj HSE
                        go_wp2_with (first | (go_at_call 51; with_reducible refine Calls.mono (Q0.out _) ?_; rintro e w7 ⟨rfl, rfl⟩) | (go_at_call 51; with_reducible refine Calls.mono (Q1.out _) ?_; rintro e w7 ⟨rfl, rfl⟩) | (go_at_call 53; with_reducible refine Calls.mono (Q2.out _) ?_; rintro e w7 ⟨rfl, rfl⟩) | (go_at_call 54; with_reducible refine Calls.mono (Q3.out _) ?_; rintro e w7 ⟨rfl, rfl⟩))
                        go_ret
                        exact ⟨by rw [HSEo.out] <;> rfl, hbo.alloc hbo.size _⟩
                      · skip
                        by_cases hc : L < x.tt
                        · have hr : s = false := HB2k.out (by unfold edcB; rw [decide_eq_false (by omega : ¬ x.tt ≤ L)]; simp)
                          subst hr
                          clear g1 g2
                          clear HB1k HB2k HB3k HS HRt HCj HSE
                          go_wp2_with (first | (go_at_call 51; with_reducible refine Calls.mono (Q0.out _) ?_; rintro e w7 ⟨rfl, rfl⟩) | (go_at_call 51; with_reducible refine Calls.mono (Q1.out _) ?_; rintro e w7 ⟨rfl, rfl⟩) | (go_at_call 53; with_reducible refine Calls.mono (Q2.out _) ?_; rintro e w7 ⟨rfl, rfl⟩) | (go_at_call 54; with_reducible refine Calls.mono (Q3.out _) ?_; rintro e w7 ⟨rfl, rfl⟩))
                          go_ret
                          exact ⟨by rw [HSEo.out] <;> rfl, hbo.alloc hbo.size _⟩
                        · skip
                          cases g3 : timeB x.st x.en with
                          | false =>
                            have hr : s = false := HB2k.out (by unfold edcB; rw [g3]; simp)
                            subst hr
                            rw [g3] at Q3
                            clear g1 g2 g3
                            clear HB1k HB2k HB3k HS HRt HCj HSE
                            go_wp2_with (first | (go_at_call 51; with_reducible refine Calls.mono (Q0.out _) ?_; rintro e w7 ⟨rfl, rfl⟩) | (go_at_call 51; with_reducible refine Calls.mono (Q1.out _) ?_; rintro e w7 ⟨rfl, rfl⟩) | (go_at_call 53; with_reducible refine Calls.mono (Q2.out _) ?_; rintro e w7 ⟨rfl, rfl⟩) | (go_at_call 54; with_reducible refine Calls.mono (Q3.out _) ?_; rintro e w7 ⟨rfl, rfl⟩))
                            go_ret
                            exact ⟨by rw [HSEo.out] <;> rfl, hbo.alloc hbo.size _⟩
                          | true =>
                            rw [g3] at Q3
                            have HSg : Hid (edcB L x = true) := Lib.hid (by unfold edcB; rw [HV.out, g2, g3, decide_eq_true (by omega : 0 ≤ x.fr), decide_eq_true (by omega : x.fr < x.tt), decide_eq_true (by omega : x.tt ≤ L)]; rfl)
                            have HRt3 : Hid ((∀ j, j < k → (ge l j).n ≠ x.n) → RT) := Lib.hid fun h2 => by rw [HRt.out]; exact ⟨g1, HSg.out, h2⟩
                            have HSbox : Hid (Below w.heap.size w (wr.alloc (.cells #[.int .i64 x.n, .int .i64 x.tp, .int .i64 x.v, .int .i64 x.d, .int .i64 x.fr, .int .i64 x.tt, .int .i64 x.st, .int .i64 x.en] 104))) := Lib.hid (hbo.alloc hbo.size _)
                            clear HB1k HB2k HRt HSg HSE g1 g2 g3
                            go_wp2_with (first | (go_at_call 51; with_reducible refine Calls.mono (Q0.out _) ?_; rintro e w7 ⟨rfl, rfl⟩) | (go_at_call 51; with_reducible refine Calls.mono (Q1.out _) ?_; rintro e w7 ⟨rfl, rfl⟩) | (go_at_call 53; with_reducible refine Calls.mono (Q2.out _) ?_; rintro e w7 ⟨rfl, rfl⟩) | (go_at_call 54; with_reducible refine Calls.mono (Q3.out _) ?_; rintro e w7 ⟨rfl, rfl⟩))
                            clear Q0 Q1 Q2 Q3
                            obtain ⟨wS, hwS⟩ : ∃ wS, wr.alloc (.cells #[.int .i64 x.n, .int .i64 x.tp, .int .i64 x.v, .int .i64 x.d, .int .i64 x.fr, .int .i64 x.tt, .int .i64 x.st, .int .i64 x.en] 104) = wS := ⟨_, rfl⟩
                            rw [hwS] at HSbox
                            have hbS0 : Below wr.heap.size wr wS := by rw [← hwS]; exact (Below.refl _ _).alloc (Nat.le_refl _) _
                            have x0 : wS.cell? ⟨wr.heap.size, 0, none⟩ = some (.int .i64 x.n) := by rw [← hwS]; simp [go_sem]
                            rw [hwS]
                            clear hwS
                            have HCj : Hid (∀ j, j < k → wS.cell? ⟨blk, off + j * 8, none⟩ = some (.int .i64 (ge l j).n)) := Lib.hid fun j hj => cell_below (HCj.out j hj) hbS0
                            have HBZ := Lib.hid (hbr.trans (hbS0.mono hbr.size))
                            have hbz := HSbox.out
                            obtain ⟨rb, hrb⟩ : ∃ rb, wr.heap.size = rb := ⟨_, rfl⟩
                            rw [hrb] at x0 ⊢
                            clear c0 c1 c2 c3 c4 c5 c6 c7 hbr hbo hbS0 hrb p0 hz HSbox
                            go_loopw [8] (fun i wr => ∃ j : Nat, j ≤ k ∧ i = .int .i64 j ∧ Hid (∀ i, i < j → (ge l i).n ≠ x.n) ∧ Below wS.heap.size wS wr) (fun i _ => k - (intOf i).toNat)
                            case atStart => exact ⟨0, Nat.zero_le _, rfl, Lib.hid fun j hj => absurd hj (Nat.not_lt_zero _), Below.refl _ _⟩
                            case round =>
                              obtain ⟨j, hj, rfl, HJ, hbr⟩ := hrel
                              have x0 := cell_below x0 hbr
                              by_cases hjk : j < k
                              · have q0 := cell_below (HCj.out j hjk) hbr
                                have hji : (j : Int) < (k : Int) := by omega
                                have hjl : (j : Int) < (l.length : Int) := by omega
                                have hmeas2 : k - (j + 1) < k - j := by omega
                                have HJ2 : Hid ((ge l j).n ≠ x.n → ∀ i, i < j + 1 → (ge l i).n ≠ x.n) := Lib.hid fun h i hi => by
                                  by_cases e : i = j
                                  · subst e; exact h
                                  · exact HJ.out i (by omega)
                                have HB3j := Lib.hid (HB3k.out j hjk)
                                have hbz2 : Below w.heap.size w wr := hbz.trans (hbr.mono hbz.size)
                                clear HJ HB3k HCj
                                generalize (ge l j).n = y at *
                                by_cases hy : y = x.n
                                · have hr := HB3j.out hy
                                  subst hr
                                  subst hy
                                  have d : (x.n == x.n) = true := beq_self_eq_true _
                                  clear HJ2 HB3j HRt3
                                  go_wp2_with fail
                                  go_quiet (fail)
                                  go_wp2_with fail
                                  go_ret
                                  exact ⟨by rw [HSEo.out] <;> rfl, below_drewN hbz2 _⟩
                                · have d : (y == x.n) = false := beq_false_of_ne hy
                                  have HJ3 := Lib.hid (HJ2.out hy)
                                  clear HJ2 HB3j HRt3 hy
                                  go_wp2_with fail
                                  go_quiet (fail)
                                  go_wp2_with fail
                                  go_roundw
                                  case rel => exact ⟨j + 1, by omega, by go_num, HJ3, below_drewN hbr _⟩
                                  case measure => first | (simp [intOf]; exact hmeas2) | simpa [intOf] using hmeas2
                              · obtain rfl : j = k := by omega
                                have HSk := Lib.hid (HS.out (HRt3.out HJ.out))
                                have hbf := HBZ.out.trans (hbr.mono HBZ.out.size)
                                clear HJ HRt3 HS HB3k HCj HBZ
                                go_wp2_with fail
                                go_roundw
                                case rel => exact ⟨j + 1, by omega, by go_num, HSk, hbf⟩
                                case measure => first | (simp [intOf]; exact hmeas) | simpa [intOf] using hmeas
              · have d3 : (x.v == 1) = false := beq_false_of_ne v1
                have hr : s = false := HB2k.out (by unfold edcB edV; rw [d1, d2, d3]; simp)
                subst hr
                clear t1 t2 v1
                clear HB1k HB2k HB3k HS HRt HCj HSE
                go_wp2_with (first | (go_at_call 51; with_reducible refine Calls.mono (Q0.out _) ?_; rintro e w7 ⟨rfl, rfl⟩) | (go_at_call 51; with_reducible refine Calls.mono (Q1.out _) ?_; rintro e w7 ⟨rfl, rfl⟩) | (go_at_call 53; with_reducible refine Calls.mono (Q2.out _) ?_; rintro e w7 ⟨rfl, rfl⟩) | (go_at_call 54; with_reducible refine Calls.mono (Q3.out _) ?_; rintro e w7 ⟨rfl, rfl⟩))
                go_ret
                exact ⟨by rw [HSEo.out] <;> rfl, hbo.alloc hbo.size _⟩
            · have d2 : (x.tp == 2) = false := beq_false_of_ne t2
              have hr : s = false := HB2k.out (by unfold edcB edV; rw [d1, d2]; simp)
              subst hr
              clear t1 t2
              clear HB1k HB2k HB3k HS HRt HCj HSE
              go_wp2_with (first | (go_at_call 51; with_reducible refine Calls.mono (Q0.out _) ?_; rintro e w7 ⟨rfl, rfl⟩) | (go_at_call 51; with_reducible refine Calls.mono (Q1.out _) ?_; rintro e w7 ⟨rfl, rfl⟩) | (go_at_call 53; with_reducible refine Calls.mono (Q2.out _) ?_; rintro e w7 ⟨rfl, rfl⟩) | (go_at_call 54; with_reducible refine Calls.mono (Q3.out _) ?_; rintro e w7 ⟨rfl, rfl⟩))
              go_ret
              exact ⟨by rw [HSEo.out] <;> rfl, hbo.alloc hbo.size _⟩
        · obtain rfl : k = l.length := by omega
          have hr := Lib.hid (HE.out HN.out)
          have hbo := hbw.trans (hbr.mono hbw.size)
          clear HC HL HE HB1 HB2 HB3 HN
          go_wp2_with fail
          go_ret
          exact ⟨by rw [hr.out] <;> rfl, hbo⟩
end Go.Proofs.YtneafbhiencjlaaGreatDoor

namespace Go.Proofs.YtneafbhiencjlaaGreatDoor
set_option linter.unusedVariables false
set_option linter.unusedSimpArgs false
open Go.RowKit

/-- The first error of the parts that a function has. -/
def whyK (b1 s b2 e b3 r : Bool) : Int := if b1 = false then 70 else if (s && !b2) = true then 71 else if (e && !b3) = true then 72 else if r = false then 2 else 0
set_option maxRecDepth 100000 in
set_option maxHeartbeats 1000000 in
theorem hour_r (h : Int) (w : World) : Calls Tryz.prog 15 #[.int .i64 h] w fun e w' => e = .returned (.bool (btw h 0 10000000)) ∧ w = w' := by
  by_cases h1 : 0 ≤ h
  · by_cases h2 : h ≤ 10000000
    · have hr : Hid (btw h 0 10000000 = true) := Lib.hid ((btw_iff _ _ _).2 ⟨h1, h2⟩)
      go_enter Tryz.func15, Tryz.ntmps15
      go_wp2_with fail
      go_ret
      exact ⟨by rw [hr.out] <;> rfl, rfl⟩
    · have hr : Hid (btw h 0 10000000 = false) := Lib.hid (by unfold btw; rw [decide_eq_false h2, Bool.and_false])
      go_enter Tryz.func15, Tryz.ntmps15
      go_wp2_with fail
      go_ret
      exact ⟨by rw [hr.out] <;> rfl, rfl⟩
  · have hr : Hid (btw h 0 10000000 = false) := Lib.hid (by unfold btw; rw [decide_eq_false h1, Bool.false_and])
    go_enter Tryz.func15, Tryz.ntmps15
    go_wp2_with fail
    go_ret
    exact ⟨by rw [hr.out] <;> rfl, rfl⟩
set_option maxRecDepth 100000 in
set_option maxHeartbeats 1000000 in
theorem way_r (d : Int) (w : World) : Calls Tryz.prog 21 #[.int .i64 d] w fun e w' => e = .returned (.bool (dirB d)) ∧ w = w' := by
  by_cases h1 : d = 1
  · subst h1
    go_enter Tryz.func21, Tryz.ntmps21
    go_wp2_with fail
    go_ret
    exact ⟨rfl, rfl⟩
  · have d1 : (d == 1) = false := beq_false_of_ne h1
    have hr : Hid (dirB d = (d == -1)) := Lib.hid (by unfold dirB; rw [d1, Bool.false_or])
    clear h1
    go_enter Tryz.func21, Tryz.ntmps21
    go_wp2_with fail
    go_ret
    exact ⟨by rw [hr.out] <;> rfl, rfl⟩
end Go.Proofs.YtneafbhiencjlaaGreatDoor

namespace Go.Proofs.YtneafbhiencjlaaGreatDoor
set_option linter.unusedVariables false
set_option linter.unusedSimpArgs false
open Go.RowKit

set_option maxRecDepth 100000 in
set_option maxHeartbeats 2000000 in
theorem told_r (L : Int) (a : Option Addr) (js : List Int) (ca : Nat) (aa : Option Addr) (l : List Sgn) (cl : Nat) (h dir tp : Int) (hL1 : 0 ≤ L) (hL2 : L ≤ 100000) (hJ : ∀ j, j < js.length → 0 ≤ gi js j ∧ gi js j ≤ 100000) (hC : ∀ j, j < l.length → (0 ≤ (gs l j).c ∧ (gs l j).c ≤ 100000) ∧ 0 ≤ (gs l j).v ∧ (gs l j).v ≤ 100000) (hn : l.length ≤ 1000) (w : World) (hI : IntsS w a js) (hA : SgnS w aa l) :
    Calls Tryz.prog 31 #[.agg #[.int .i64 L, .slice a js.length ca], .slice aa l.length cl, .int .i64 h, .agg #[.int .i64 tp, .int .i64 dir]] w (ToldE L a js ca dir tp h l w) := by
  have HR := Lib.hid (fun W (hW : Below w.heap.size w W) => (rowOf_r L a js ca aa l cl h dir hL1 hL2 hJ (fun j hj => by have := hC j hj; omega) hn W (hI.below hW) (hA.below hW)).mono fun e w' H => rowF_of hL1 hL2 hJ hC H)
  have HLB := Lib.hid (And.intro hL1 hL2)
  obtain ⟨n0, hi, hz0, hz1, hz2⟩ := info_parts infoInt
  clear hI hA hJ hC
  go_enter Tryz.func31, Tryz.ntmps31
  go_wp2_with fail
  obtain ⟨wB, hwB⟩ : ∃ wB, ((w.alloc (.cells #[.int .i64 L, .slice a js.length ca] 24)).alloc (.cells #[.int .i64 tp, .int .i64 dir] 59)).alloc (.cells #[.nilFunc, .slice none 0 0] 67) = wB := ⟨_, rfl⟩
  have hb : Below w.heap.size w wB := by rw [← hwB]; exact (((Below.refl _ _).alloc (Nat.le_refl _) _).alloc (by simp) _).alloc (by simp; omega) _
  have hsz : w.heap.size + 2 < wB.heap.size := by rw [← hwB]; simp
  have l0 : wB.cell? ⟨w.heap.size, 0, none⟩ = some (.int .i64 L) := by rw [← hwB]; simp [go_sem]
  have l1 : wB.cell? ⟨w.heap.size, 1, none⟩ = some (.slice a js.length ca) := by rw [← hwB]; simp [go_sem]
  have y0 : wB.cell? ⟨w.heap.size + 1, 0, none⟩ = some (.int .i64 tp) := by rw [← hwB]; simp [go_sem]
  have y1 : wB.cell? ⟨w.heap.size + 1, 1, none⟩ = some (.int .i64 dir) := by rw [← hwB]; simp [go_sem]
  have r0 : wB.cell? ⟨w.heap.size + 1 + 1, 0, none⟩ = some .nilFunc := by rw [← hwB]; simp [go_sem]
  have r1 : wB.cell? ⟨w.heap.size + 1 + 1, 1, none⟩ = some (.slice none 0 0) := by rw [← hwB]; simp [go_sem]
  have fr : wB.frozen? ⟨w.heap.size + 1 + 1, 0, none⟩ = false ∧ wB.frozen? ⟨w.heap.size + 1 + 1, 1, none⟩ = false := by rw [← hwB]; simp [go_sem]
  have HFR := Lib.hid fr
  have hrh : wB.heap[w.heap.size + 1 + 1]? = some (.cells #[.nilFunc, .slice none 0 0] 67) := by rw [← hwB]; have := heap_alloc_new ((w.alloc (.cells #[.int .i64 L, .slice a js.length ca] 24)).alloc (.cells #[.int .i64 tp, .int .i64 dir] 59)) (.cells #[.nilFunc, .slice none 0 0] 67); simpa using this
  have HRH := Lib.hid hrh
  clear hrh
  rw [hwB]
  clear hwB fr
  refine (HR.out _ hb).mono ?_
  rintro E w1 ⟨row, ar, cr, hRL, hrl, hbd, rfl, hPS, hb1⟩
  replace l0 := cell_below l0 hb1
  replace l1 := cell_below l1 hb1
  replace y0 := cell_below y0 hb1
  replace y1 := cell_below y1 hb1
  replace r0 := cell_below r0 hb1
  replace r1 := cell_below r1 hb1
  have f0 := (hb1.frozen (p := ⟨w.heap.size + 1 + 1, 0, none⟩) (by simp; omega)).trans HFR.out.1
  have f1 := (hb1.frozen (p := ⟨w.heap.size + 1 + 1, 1, none⟩) (by simp; omega)).trans HFR.out.2
  have hs1 := hb1.size
  have hw1 := hb.trans (hb1.mono hb.size)
  have HRL := Lib.hid hRL
  have HBd := Lib.hid hbd
  have HPS := Lib.hid hPS
  have hbB1 := Lib.hid hb1
  clear hRL hbd hPS hb1 HFR HR
  have hz4 : w.heap.size < w1.heap.size := block_lt l0
  go_upto_region 2 with (fail)
  obtain ⟨wX, hwX⟩ : ∃ wX, w1.alloc (.cells #[.slice ar row.length cr] 81) = wX := ⟨_, rfl⟩
  have hbX : Below w1.heap.size w1 wX := by rw [← hwX]; exact (Below.refl _ _).alloc (Nat.le_refl _) _
  have q0 : wX.cell? ⟨w1.heap.size, 0, none⟩ = some (.slice ar row.length cr) := by rw [← hwX]; simp [go_sem]
  rw [hwX]
  clear hwX
  replace l0 := cell_below l0 hbX
  replace l1 := cell_below l1 hbX
  replace y0 := cell_below y0 hbX
  replace y1 := cell_below y1 hbX
  have HR0 := Lib.hid (cell_below r0 hbX)
  have HR1 := Lib.hid (cell_below r1 hbX)
  replace f0 := (hbX.frozen (p := ⟨w.heap.size + 1 + 1, 0, none⟩) (by simp; omega)).trans f0
  replace f1 := (hbX.frozen (p := ⟨w.heap.size + 1 + 1, 1, none⟩) (by simp; omega)).trans f1
  have HF01 := Lib.hid (And.intro f0 f1)
  have HPX := Lib.hid (HPS.out.below hbX)
  have hwX := hw1.trans (hbX.mono hw1.size)
  have hsX := hbX.size
  have hbX1 := Lib.hid hbX
  clear r0 r1 f0 f1 HPS hbX
  have hzq := block_lt q0
  have HY0 := Lib.hid y0
  have HL0 := Lib.hid l0
  have HL1 := Lib.hid l1
  have HY1 := Lib.hid y1
  have HQ0 := Lib.hid q0
  have hown0 : Hid ((wX.alloc (.cells #[.int .i64 0, .int .i64 L] 3)).ownsRow wX.heap.size 3 1 (.slice (some ⟨wX.heap.size, 0, none⟩) (cutsK L dir row 0).length 2) (cutsK L dir row 0).length (clI (cutsK L dir row 0))) := Lib.hid (by
    exact ⟨rfl, .inr ⟨wX.heap.size, 2, #[.int .i64 0, .int .i64 L], rfl, Nat.le_refl _, heap_alloc_new _ _, Nat.le_refl 2, by decide, rfl, rfl⟩⟩)
  clear y0
  obtain ⟨-, pb, po, pad, pcp, hpa, hpc⟩ := HPX.out
  have HPC := Lib.hid hpc
  have HPA : Hid (0 < row.length → ar = some ⟨pb, po, none⟩) := Lib.hid fun h => hpa (List.ne_nil_of_length_pos h)
  clear hpa hpc
  go_wp2_with fail
  have hbX0 : Below wX.heap.size wX (wX.alloc (.cells #[.int .i64 0, .int .i64 L] 3)) := (Below.refl _ _).alloc (Nat.le_refl _) _
  have HBX0 := Lib.hid hbX0
  clear hbX0
  have hlen2 := cutsK_len L dir row
  have HLen2 := Lib.hid hlen2
  clear hlen2 l0 l1 y1
  go_loopw [10, 24] (fun q i9 wr => ∃ k : Nat, k ≤ row.length ∧ i9 = .int .i64 k ∧ (∃ a c, q = .slice a (cutsK L dir row k).length c) ∧ Hid (wr.ownsRow wX.heap.size 3 1 q (cutsK L dir row k).length (clI (cutsK L dir row k))) ∧ Below wX.heap.size wX wr) (fun _ i9 _ => row.length - (intOf i9).toNat)
  case atStart => exact ⟨0, Nat.zero_le _, rfl, ⟨_, _, rfl⟩, hown0, HBX0.out⟩
  case round =>
    clear hown0
    obtain ⟨k, hk, rfl, ⟨av, cv, rfl⟩, HRow, hbr⟩ := hrel
    have l0 := cell_below HL0.out hbr
    have l1 := cell_below HL1.out hbr
    have y1 := cell_below HY1.out hbr
    have hz4 : w.heap.size < wX.heap.size := block_lt HL0.out
    have hz7 : w.heap.size + 1 < wX.heap.size := block_lt HY1.out
    by_cases hlt : k < row.length
    · obtain rfl := HPA.out (by omega)
      obtain ⟨⟨⟨c0, c1, c2, c3, c4, c5, c6, c7⟩, c8, c9, c10, c11⟩, -⟩ := HPC.out k hlt
      have c0 := cell_below c0 hbr
      have c1 := cell_below c1 hbr
      have c2 := cell_below c2 hbr
      have c3 := cell_below c3 hbr
      have c4 := cell_below c4 hbr
      have c5 := cell_below c5 hbr
      have c6 := cell_below c6 hbr
      have c7 := cell_below c7 hbr
      have c8 := cell_below c8 hbr
      have c9 := cell_below c9 hbr
      have c10 := cell_below c10 hbr
      have c11 := cell_below c11 hbr
      have hbk := HBd.out (gq row k) (by unfold gq; rw [List.getD_eq_getElem?_getD, List.getElem?_eq_getElem hlt]; exact List.getElem_mem hlt)
      have hll := HLen2.out k
      have HPair : Hid (clI (cutsK L dir row (k + 1)) = clI (cutsK L dir row k) ++ [.int .i64 (dstK L dir (gq row k).d), .int .i64 (dstK L dir (gq row k).u)] ∧ (cutsK L dir row (k + 1)).length = (cutsK L dir row k).length + 2) := Lib.hid ⟨cutsK_pair L dir row k, by rw [HLen2.out, HLen2.out]; omega⟩
      have HD1 := Lib.hid (fun W => distance_r L a js.length ca dir (gq row k).d HLB.out.1 HLB.out.2 (by omega) (by omega) W)
      have HD2 := Lib.hid (fun W => distance_r L a js.length ca dir (gq row k).u HLB.out.1 HLB.out.2 (by omega) (by omega) W)
      have hsr := hbr.size
      have HNe : Hid (some wr.heap.size ≠ (Value.slice av (cutsK L dir row k).length cv).ownBlock) := Lib.hid fun e => by
        have := (World.ownsRow.lt HRow.out _ e.symm).2
        omega
      have hcl : (cutsK L dir row k).length ≤ 10000 := by omega
      clear HPC HPA hbk hll
      generalize pad k = adk at *
      generalize pcp k = cpk at *
      obtain ⟨x, hx⟩ : ∃ x, gq row k = x := ⟨_, rfl⟩
      rw [hx] at HPair HD1 HD2 c0 c1 c2 c3 c4 c5 c6 c7 c8 c9 c10 c11
      clear hx
      obtain ⟨D, hD⟩ : ∃ D, x.d = D := ⟨_, rfl⟩
      obtain ⟨U, hU⟩ : ∃ U, x.u = U := ⟨_, rfl⟩
      rw [hD] at HPair HD1 c9
      rw [hU] at HPair HD2 c10
      clear hD hU
      obtain ⟨CQ, hCQ⟩ : ∃ CQ, cutsK L dir row k = CQ := ⟨_, rfl⟩
      rw [hCQ] at HRow HNe HPair hcl ⊢
      clear hCQ
      go_upto_region 6 with (fail)
      obtain ⟨ws, hws⟩ : ∃ ws, wr.alloc (.cells #[.int .i64 x.s.n, .int .i64 x.s.k, .int .i64 x.s.v, .int .i64 x.s.c, .int .i64 x.s.d, .int .i64 x.s.rk, .int .i64 x.s.up, .int .i64 x.s.dn, .slice adk x.s.cv.length cpk, .int .i64 D, .int .i64 U, .bool x.b] 110) = ws := ⟨_, rfl⟩
      have hbs0 : Below wr.heap.size wr ws := by rw [← hws]; exact (Below.refl _ _).alloc (Nat.le_refl _) _
      have x9 : ws.cell? ⟨wr.heap.size, 9, none⟩ = some (.int .i64 D) := by rw [← hws]; simp [go_sem]
      have x10 : ws.cell? ⟨wr.heap.size, 10, none⟩ = some (.int .i64 U) := by rw [← hws]; simp [go_sem]
      rw [hws]
      clear hws
      have HRow := Lib.hid (owns_belowI HRow.out hbs0)
      have hbs : Below wX.heap.size wX ws := hbr.trans (hbs0.mono hsr)
      replace l0 := cell_below l0 hbs0
      replace l1 := cell_below l1 hbs0
      replace y1 := cell_below y1 hbs0
      have hss := hbs0.size
      have hzp := block_lt x9
      have hsX2 := hbs.size
      clear c0 c1 c2 c3 c4 c5 c6 c7 c8 c9 c10 c11 hbr hbs0
      refine wp_region_held_drew (S := fun w' => Below wX.heap.size ws w' ∧ w'.heap[wr.heap.size]? = ws.heap[wr.heap.size]?) (by kernel_rfl) ⟨(Below.refl _ _).drew, rfl⟩ (fun hHeld => ?_)
      refine takeU (i := 0) (some 28) (.slice av CQ.length cv) (by kernel_rfl) (by kernel_rfl) (by kernel_rfl) (by kernel_rfl) (by kernel_rfl) (fun _ => by kernel_rfl) (fun _ _ _ h => h) hHeld ?_
      refine wpAnyH_take (i := 1) (oi := { dst := some 29, op := Go.Op.load 24 (Go.Operand.tmp 4), type := 24, pos := "hold.go:109", after := #[], guard := none }) (v := .agg #[.int .i64 L, .slice a js.length ca]) rfl (by kernel_rfl) (by kernel_rfl) (by kernel_rfl) (fun _ _ _ h => h) (.inl ⟨by kernel_rfl, fun w9 h9 => by
        clear hHeld
        have d0 := (h9.1.cell (p := ⟨w.heap.size, 0, none⟩) hz4).trans l0
        have d1 := (h9.1.cell (p := ⟨w.heap.size, 1, none⟩) hz4).trans l1
        clear h9
        go_simp⟩) hHeld ?_
      refine takeU (i := 2) (some 30) (.pointer (some ⟨w.heap.size + 1, 1, none⟩)) (by kernel_rfl) (by kernel_rfl) (by kernel_rfl) (by kernel_rfl) (by kernel_rfl) (fun _ => by kernel_rfl) (fun _ _ _ h => h) hHeld ?_
      refine wpAnyH_take (i := 3) (oi := { dst := some 31, op := Go.Op.load 3 (Go.Operand.tmp 30), type := 3, pos := "hold.go:109", after := #[{ on := 2, ground := Go.Ground.data }], guard := none }) (v := .int .i64 dir) rfl (by kernel_rfl) (by kernel_rfl) (by kernel_rfl) (fun _ _ _ h => h) (.inl ⟨by kernel_rfl, fun w9 h9 => by
        clear hHeld
        have d0 := (h9.1.cell (p := ⟨w.heap.size + 1, 1, none⟩) hz7).trans y1
        clear h9
        go_simp⟩) hHeld ?_
      refine takeU (i := 4) (some 32) (.pointer (some ⟨wr.heap.size, 9, none⟩)) (by kernel_rfl) (by kernel_rfl) (by kernel_rfl) (by kernel_rfl) (by kernel_rfl) (fun _ => by kernel_rfl) (fun _ _ _ h => h) hHeld ?_
      refine wpAnyH_take (i := 5) (oi := { dst := some 33, op := Go.Op.load 3 (Go.Operand.tmp 32), type := 3, pos := "hold.go:109", after := #[{ on := 4, ground := Go.Ground.data }], guard := none }) (v := .int .i64 D) rfl (by kernel_rfl) (by kernel_rfl) (by kernel_rfl) (fun _ _ _ h => h) (.inl ⟨by kernel_rfl, fun w9 h9 => by
        clear hHeld
        have d0 := (World.cell?_of_block (w := ws) (w' := w9) (a := ⟨wr.heap.size, 9, none⟩) h9.2).trans x9
        clear h9
        go_simp⟩) hHeld ?_
      refine wpAnyH_take (i := 7) (oi := { dst := some 35, op := Go.Op.load 24 (Go.Operand.tmp 4), type := 24, pos := "hold.go:109", after := #[], guard := none }) (v := .agg #[.int .i64 L, .slice a js.length ca]) rfl (by kernel_rfl) (by kernel_rfl) (by kernel_rfl) (fun _ _ _ h => h) (.inl ⟨by kernel_rfl, fun w9 h9 => by
        clear hHeld
        have d0 := (h9.1.cell (p := ⟨w.heap.size, 0, none⟩) hz4).trans l0
        have d1 := (h9.1.cell (p := ⟨w.heap.size, 1, none⟩) hz4).trans l1
        clear h9
        go_simp⟩) hHeld ?_
      refine takeU (i := 8) (some 36) (.pointer (some ⟨w.heap.size + 1, 1, none⟩)) (by kernel_rfl) (by kernel_rfl) (by kernel_rfl) (by kernel_rfl) (by kernel_rfl) (fun _ => by kernel_rfl) (fun _ _ _ h => h) hHeld ?_
      refine wpAnyH_take (i := 9) (oi := { dst := some 37, op := Go.Op.load 3 (Go.Operand.tmp 36), type := 3, pos := "hold.go:109", after := #[{ on := 8, ground := Go.Ground.data }], guard := none }) (v := .int .i64 dir) rfl (by kernel_rfl) (by kernel_rfl) (by kernel_rfl) (fun _ _ _ h => h) (.inl ⟨by kernel_rfl, fun w9 h9 => by
        clear hHeld
        have d0 := (h9.1.cell (p := ⟨w.heap.size + 1, 1, none⟩) hz7).trans y1
        clear h9
        go_simp⟩) hHeld ?_
      refine takeU (i := 10) (some 38) (.pointer (some ⟨wr.heap.size, 10, none⟩)) (by kernel_rfl) (by kernel_rfl) (by kernel_rfl) (by kernel_rfl) (by kernel_rfl) (fun _ => by kernel_rfl) (fun _ _ _ h => h) hHeld ?_
      refine wpAnyH_take (i := 11) (oi := { dst := some 39, op := Go.Op.load 3 (Go.Operand.tmp 38), type := 3, pos := "hold.go:109", after := #[{ on := 10, ground := Go.Ground.data }], guard := none }) (v := .int .i64 U) rfl (by kernel_rfl) (by kernel_rfl) (by kernel_rfl) (fun _ _ _ h => h) (.inl ⟨by kernel_rfl, fun w9 h9 => by
        clear hHeld
        have d0 := (World.cell?_of_block (w := ws) (w' := w9) (a := ⟨wr.heap.size, 10, none⟩) h9.2).trans x10
        clear h9
        go_simp⟩) hHeld ?_
      try simp only [Act.put, List.setIfInBounds_toArray, List.set_cons_zero, List.set_cons_succ]
      refine wpAnyH_ready (rs := [6]) (by kernel_rfl) (by simp) ?_
      refine AllReadyH.cons (o := { dst := some 34, op := Go.Op.call { callee := Go.Callee.value (Go.Operand.func 61), args := #[Go.Operand.tmp 29, Go.Operand.tmp 31, Go.Operand.tmp 33], argTypes := #[24, 3, 3] }, type := 3, pos := "hold.go:109", after := #[{ on := 1, ground := Go.Ground.data }, { on := 3, ground := Go.Ground.data }, { on := 5, ground := Go.Ground.data }], guard := none }) rfl (fun K hK => ?_) AllReadyH.nil
      go_simp
      go_at_call 61
      refine (HD1.out _).mono ?_
      rintro e w6 ⟨rfl, hb6⟩
      have hw6 : Below ws.heap.size ws w6 := ((Below.refl ws.heap.size ws).drew).trans (hb6.mono ((Below.refl ws.heap.size ws).drew).size)
      have hs6 := hw6.size
      refine hK.out _ _ ⟨hHeld.1.trans (hb6.mono (by have := hHeld.1.size; omega)), (hb6.block wr.heap.size (by have := hHeld.1.size; omega)).trans hHeld.2⟩ (fun hHeld => ?_)
      clear hK K hb6
      try simp only [Act.put, List.setIfInBounds_toArray, List.set_cons_zero, List.set_cons_succ]
      refine wpAnyH_ready (rs := [12]) (by kernel_rfl) (by simp) ?_
      refine AllReadyH.cons (o := { dst := some 40, op := Go.Op.call { callee := Go.Callee.value (Go.Operand.func 61), args := #[Go.Operand.tmp 35, Go.Operand.tmp 37, Go.Operand.tmp 39], argTypes := #[24, 3, 3] }, type := 3, pos := "hold.go:109", after := #[{ on := 7, ground := Go.Ground.data }, { on := 9, ground := Go.Ground.data }, { on := 11, ground := Go.Ground.data }, { on := 6, ground := Go.Ground.chain }], guard := none }) rfl (fun K hK => ?_) AllReadyH.nil
      go_simp
      go_at_call 61
      refine (HD2.out _).mono ?_
      rintro e w12 ⟨rfl, hb12⟩
      have hw12 : Below ws.heap.size ws w12 := (hw6).trans (hb12.mono (hw6).size)
      have hs12 := hw12.size
      refine hK.out _ _ ⟨hHeld.1.trans (hb12.mono (by have := hHeld.1.size; omega)), (hb12.block wr.heap.size (by have := hHeld.1.size; omega)).trans hHeld.2⟩ (fun hHeld => ?_)
      clear hK K hb12
      try simp only [Act.put, List.setIfInBounds_toArray, List.set_cons_zero, List.set_cons_succ]
      refine wpAnyH_ready (rs := [13]) (by kernel_rfl) (by simp) ?_
      refine AllReadyH.cons (o := { dst := some 41, op := Go.Op.buildSlice 22 2 #[(0, Go.Operand.tmp 34), (1, Go.Operand.tmp 40)], type := 22, pos := "hold.go:109", after := #[{ on := 6, ground := Go.Ground.data }, { on := 12, ground := Go.Ground.data }], guard := none }) rfl (fun K hK => ?_) AllReadyH.nil
      go_simp
      refine hK.out _ _ ⟨hHeld.1.alloc (by omega) _, (Below.heap_alloc _ _ _ (by omega)).trans hHeld.2⟩ (fun hHeld => ?_)
      clear hK K
      refine wpAnyH_ready (rs := [14]) (by kernel_rfl) (by simp) ?_
      refine AllReadyH.cons (o := { dst := some 42, op := Go.Op.call { callee := Go.Callee.builtin Go.Builtin.append, args := #[Go.Operand.tmp 28, Go.Operand.tmp 41], argTypes := #[22, 22] }, type := 22, pos := "hold.go:109", after := #[{ on := 0, ground := Go.Ground.data }, { on := 13, ground := Go.Ground.data }, { on := 12, ground := Go.Ground.chain }], guard := none }) rfl (fun K hK => ?_) AllReadyH.nil
      refine step_append_lies _ (by rfl) _ _ _ (by rfl) wX.heap.size 3 n0 _ 1 8 Tryz.underlying22 hi hz0 hz1 hz2 rfl (by decide) (.slice av CQ.length cv) CQ.length _ (by rfl) (owns_belowI HRow.out (hw12.alloc hs12 _)) ⟨w12.heap.size, 0, none⟩ 2 2 [.int .i64 (dstK L dir D), .int .i64 (dstK L dir U)] (by rfl) (by rfl) (World.news_of_block (w := w12.alloc (.cells #[.int .i64 (dstK L dir D), .int .i64 (dstK L dir U)] 3)) (B := w12.heap.size) (cs := #[.int .i64 (dstK L dir D), .int .i64 (dstK L dir U)]) (t := 3) (fr := (0, 0)) (heap_alloc_new _ _)) (by simp [Value.oneCell']) (by decide) (by unfold maxLen; omega) (by omega) (by simp; omega) _ rfl ?_
      intro g6 c6 w6 hown6 hgrow6 hat6 hlt6
      refine hK.out _ _ ⟨hHeld.1.grown hgrow6 (by simp; omega) (fun z hz => owns_blockI HRow.out hz), (hgrow6.block wr.heap.size (by simp; omega) HNe.out).trans hHeld.2⟩ (fun hHeld => ?_)
      have hb6 : Below wX.heap.size wX w6 := hbs.trans hHeld.1
      have hown6 := Lib.hid hown6
      clear hK K hgrow6 hat6 hlt6
      try simp only [Act.put, List.setIfInBounds_toArray, List.set_cons_zero, List.set_cons_succ]
      refine takeU (i := 15) (some 10) (.slice (some ⟨g6, 0, none⟩) (CQ.length + 2) c6) (by kernel_rfl) (by kernel_rfl) (by kernel_rfl) (by kernel_rfl) (by kernel_rfl) (fun _ => by kernel_rfl) (fun _ _ _ h => h) hHeld ?_
      refine wpAnyH_done (by kernel_rfl) ?_ _
      try simp only [Act.put, List.setIfInBounds_toArray, List.set_cons_zero, List.set_cons_succ]
      go_wp2_with fail
      go_roundw
      case rel => exact ⟨k + 1, by omega, by go_num, ⟨some ⟨g6, 0, none⟩, c6, by rw [HPair.out.2]⟩, Lib.hid (by rw [HPair.out.1, HPair.out.2]; exact hown6.out), hb6⟩
      case measure => simp [intOf]; omega
    · obtain rfl : k = row.length := by omega
      have hbw := hwX.trans (hbr.mono hwX.size)
      have r0 := cell_below HR0.out hbr
      have r1 := cell_below HR1.out hbr
      have f0 := (hbr.frozen (p := ⟨w.heap.size + 1 + 1, 0, none⟩) (block_lt HR0.out)).trans HF01.out.1
      have f1 := (hbr.frozen (p := ⟨w.heap.size + 1 + 1, 1, none⟩) (block_lt HR1.out)).trans HF01.out.2
      have HRW : Hid (wr.heap[w.heap.size + 1 + 1]? = some (.cells #[.nilFunc, .slice none 0 0] 67)) := Lib.hid ((((hbB1.out.trans (hbX1.out.mono hbB1.out.size)).trans (hbr.mono (by have := hbB1.out.size; have := hbX1.out.size; omega))).block _ (by omega)).trans HRH.out)
      have HPr := Lib.hid (HPX.out.below hbr)
      have q0 := cell_below HQ0.out hbr
      have y0 := cell_below HY0.out hbr
      have HFar : Hid (∀ v0 v1 b, b ≠ w.heap.size + 1 + 1 → ((wr.setCell ⟨w.heap.size + 1 + 1, 0, none⟩ v0).setCell ⟨w.heap.size + 1 + 1, 1, none⟩ v1).heap[b]? = wr.heap[b]?) := Lib.hid fun v0 v1 b hb => (Below.heap_setCell _ _ _ _ (by simpa using hb)).trans (Below.heap_setCell _ _ _ _ (by simpa using hb))
      have HBf : Hid (∀ v0 v1, Below w.heap.size w ((wr.setCell ⟨w.heap.size + 1 + 1, 0, none⟩ v0).setCell ⟨w.heap.size + 1 + 1, 1, none⟩ v1)) := Lib.hid fun v0 v1 => (hbw.setCell (p := ⟨w.heap.size + 1 + 1, 0, none⟩) (by simp; omega) _).setCell (p := ⟨w.heap.size + 1 + 1, 1, none⟩) (by simp; omega) _
      have Q0 := Lib.hid q0
      have Y0 := Lib.hid y0
      have L0 := Lib.hid l0
      have L1 := Lib.hid l1
      have Y1 := Lib.hid y1
      have hlc := HLen2.out row.length
      have HLc := Lib.hid hlc
      have hsr := hbr.size
      clear q0 y0 hbr hbw hlc l0 l1 y1
      go_wp2_with fail
      refine bodyPost_ret (v := .agg #[.func (.func 65) #[] #[.pointer (some ⟨w1.heap.size, 0, none⟩), .pointer (some ⟨w.heap.size + 1, 0, none⟩), .pointer (some ⟨w.heap.size, 0, none⟩)], .slice av (cutsK L dir row row.length).length cv]) (by simp [results, Tryz.results31, go_sem, r0, r1]) rfl ?_
      have tr : ∀ v0 v1 b o v, b ≠ w.heap.size + 1 + 1 → wr.cell? ⟨b, o, none⟩ = some v → ((wr.setCell ⟨w.heap.size + 1 + 1, 0, none⟩ v0).setCell ⟨w.heap.size + 1 + 1, 1, none⟩ v1).cell? ⟨b, o, none⟩ = some v := fun v0 v1 b o v hb hc => (World.cell?_of_block (w := wr) (a := ⟨b, o, none⟩) (HFar.out v0 v1 b hb)).trans hc
      refine ⟨row, ar, cr, w1.heap.size, w.heap.size + 1, w.heap.size, av, cv, HRL.out, hrl, pst_far HPr.out (fun b o k n hc => HFar.out _ _ b (cell_neF HRW.out hc)), tr _ _ _ _ _ (by omega) Q0.out, tr _ _ _ _ _ (by omega) Y0.out, tr _ _ _ _ _ (by omega) Y1.out, tr _ _ _ _ _ (by omega) L0.out, tr _ _ _ _ _ (by omega) L1.out, rfl, ?_, cutsK_bd HLB.out.1 HLB.out.2 HBd.out row.length (Nat.le_refl _), HBf.out _ _⟩
      have hcb := cutsK_bd HLB.out.1 HLB.out.2 HBd.out (dir := dir) row.length (Nat.le_refl _)
      refine ⟨by rw [HLc.out]; omega, fun i hi => ?_, ?_⟩
      · have := hcb (gi (cutsK L dir row row.length) i) (by unfold gi; rw [List.getD_eq_getElem?_getD, List.getElem?_eq_getElem hi]; exact List.getElem_mem hi)
        unfold I64
        omega
      · rcases HRow.out.2 with ⟨h1, h2⟩ | ⟨g2, c2, cur, h1, hg2, hb2, _⟩
        · exact absurd h2 (by rw [HLc.out]; omega)
        · obtain ⟨rfl, rfl⟩ : av = some ⟨g2, 0, none⟩ ∧ cv = c2 := by simpa using h1
          refine ⟨g2, 0, fun _ => rfl, fun i hi => ?_⟩
          rw [Nat.zero_add]
          refine tr _ _ _ _ _ (by omega) ?_
          rw [World.ownsRow.cellAt HRow.out i (by omega)]; exact clI_get _ hi
end Go.Proofs.YtneafbhiencjlaaGreatDoor
