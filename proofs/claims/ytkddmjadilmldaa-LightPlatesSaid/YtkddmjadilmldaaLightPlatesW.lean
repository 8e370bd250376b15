/-
  The walk of the law LightPlates: it answers true. By an AI agent.
-/
import Derived.Test.YtkddmjadilmldaaLightCd
import Derived.BigRegion
import Derived.StillTailTactics
namespace Go.Proofs.Ytkddmjadilmldaa
set_option linter.unusedVariables false
set_option linter.unusedSimpArgs false
open Go.RowKit

set_option maxRecDepth 100000 in
set_option maxHeartbeats 60000000 in
theorem lightPlates_any (aa : Option Addr) (l : List (Int × Int)) (ca : Nat) (t1 c1 t2 c2 rf lo : Int) (w : World) (hA : PairsS w aa l) (hlo : 0 ≤ lo ∧ lo ≤ 65535) :
    Calls Try.prog 8 #[.agg #[.slice aa l.length ca, .int .i64 t1, .int .i64 c1, .int .i64 t2, .int .i64 c2, .int .i64 rf], .int .u16 lo] w fun e w' => e = .returned (.bool true) ∧ Below w.heap.size w w' := by
  have hlen := hA.1
  obtain ⟨lo0, lo1⟩ := hlo
  have HR := Lib.hid (fun W (hW : Below w.heap.size w W) => RefCorrected_any aa l ca t1 c1 t2 c2 rf W (hA.below hW))
  have H1 := Lib.hid first_any
  by_cases h100 : (100 : Int) < l.length
  · clear hA
    go_enter Try.func8, Try.ntmps8
    go_wp2_with fail
    refine (H1.out _).mono ?_
    rintro e w1 ⟨rfl, hb1⟩
    go_wp2_with fail
    go_ret
    exact ⟨rfl, box_below hb1⟩
  by_cases hE0 : corE t1 c1 t2 c2 rf l = 0
  rotate_left
  · clear hA
    generalize corE t1 c1 t2 c2 rf l = CE at *
    generalize corL t1 c1 t2 c2 rf l = CL at *
    go_enter Try.func8, Try.ntmps8
    go_wp2_with fail
    refine (HR.out _ ((Below.refl _ _).alloc (Nat.le_refl _) _)).mono ?_
    rintro e w1 ⟨a1, k1, rfl, hI1, hb1⟩
    go_wp2_with fail
    refine (H1.out _).mono ?_
    rintro e w2 ⟨rfl, hb2⟩
    have hb2 := (box_below hb1).trans (hb2.mono (box_below hb1).size)
    go_wp2_with fail
    go_ret
    exact ⟨rfl, hb2⟩
  have hok : endsB t1 c1 t2 c2 rf = true ∧ rdsB l t1 t2 = true := Classical.byContradiction fun h => by rw [(cor_arg h).1] at hE0; omega
  have hdr : drB c1 rf = false ∧ drB c2 rf = false := by
    cases h1 : drB c1 rf with
    | true => rw [(cor_drift hok (.inl h1)).1] at hE0; omega
    | false => cases h2 : drB c2 rf with
      | true => rw [(cor_drift hok (.inr h2)).1] at hE0; omega
      | false => exact ⟨rfl, rfl⟩
  have hEn := endsB_iff.1 hok.1
  have hRd := rdsB_iff.1 hok.2
  obtain ⟨⟨a0, a1⟩, ⟨b0, b1⟩, ⟨f0, f1⟩, ⟨g0, g1⟩, h0, h1⟩ := hEn
  -- the plate that is read lower
  obtain ⟨kq, hkq⟩ : ∃ kq, c2 / 20 = kq := ⟨_, rfl⟩
  have hkt : c2.tdiv 20 = kq := by rw [Int.tdiv_eq_ediv_of_nonneg (by omega)]; exact hkq
  have kq0 : 0 ≤ kq := by omega
  have kq1 : kq ≤ 5000 := by omega
  obtain ⟨u, hu⟩ : ∃ u, lo % (kq + 1) = u := ⟨_, rfl⟩
  have hut : lo.tmod (kq + 1) = u := by rw [Int.tmod_eq_emod_of_nonneg lo0]; exact hu
  have u0 : 0 ≤ u := by rw [← hu]; exact Int.emod_nonneg _ (by omega)
  have u1 : u ≤ kq := by have := Int.emod_lt_of_pos lo (show 0 < kq + 1 by omega); omega
  obtain ⟨d, hd⟩ : ∃ d, c2 - u = d := ⟨_, rfl⟩
  have d0 : 1 ≤ d := by omega
  have d1 : d ≤ c2 := by omega
  -- the three answers
  have hdrS : drB rf rf = false := by unfold drB; rw [show max (rf - rf) (rf - rf) = 0 from by omega]; simp; omega
  have hokS : endsB t1 rf t2 rf rf = true ∧ rdsB l t1 t2 = true := ⟨endsB_iff.2 ⟨⟨h0, h1⟩, ⟨b0, b1⟩, ⟨h0, h1⟩, ⟨g0, g1⟩, h0, h1⟩, hok.2⟩
  have hEnL : EndsOk t1 c1 t2 d rf := ⟨⟨a0, a1⟩, ⟨b0, b1⟩, ⟨d0, by omega⟩, ⟨g0, g1⟩, h0, h1⟩
  have hokL : endsB t1 c1 t2 d rf = true ∧ rdsB l t1 t2 = true := ⟨endsB_iff.2 hEnL, hok.2⟩
  have HCS : Hid (∀ W, Below w.heap.size w W → Calls Try.prog 18 #[.slice aa l.length ca, .agg #[.int .i64 t1, .int .i64 rf], .agg #[.int .i64 t2, .int .i64 rf], .int .i64 rf] W fun e w' => ∃ a cap, e = .returned (.tuple #[.slice a l.length cap, .int .i64 0]) ∧ IntsS w' a (gm (corF t1 rf t2 rf rf l) l.length) ∧ Below W.heap.size W w') := Lib.hid fun W hW => by
    have h := Corrected_any aa l ca t1 rf t2 rf rf W (hA.below hW)
    rw [(cor_ok hokS hdrS hdrS).1, (cor_ok hokS hdrS hdrS).2, gm_len] at h
    exact h
  have HCR : Hid (∀ W, Below w.heap.size w W → Calls Try.prog 18 #[.slice aa l.length ca, .agg #[.int .i64 t1, .int .i64 c1], .agg #[.int .i64 t2, .int .i64 c2], .int .i64 rf] W fun e w' => ∃ a cap, e = .returned (.tuple #[.slice a l.length cap, .int .i64 0]) ∧ IntsS w' a (gm (corF t1 c1 t2 c2 rf l) l.length) ∧ Below W.heap.size W w') := Lib.hid fun W hW => by
    have h := Corrected_any aa l ca t1 c1 t2 c2 rf W (hA.below hW)
    rw [(cor_ok hok hdr.1 hdr.2).1, (cor_ok hok hdr.1 hdr.2).2, gm_len] at h
    exact h
  have HCL : Hid (∀ W, Below w.heap.size w W → Calls Try.prog 18 #[.slice aa l.length ca, .agg #[.int .i64 t1, .int .i64 c1], .agg #[.int .i64 t2, .int .i64 d], .int .i64 rf] W fun e w' => ∃ a cap, ((e = .returned (.tuple #[.slice a l.length cap, .int .i64 0]) ∧ IntsS w' a (gm (corF t1 c1 t2 d rf l) l.length)) ∨ e = .returned (.tuple #[.slice a 0 cap, .int .i64 32])) ∧ Below W.heap.size W w') := Lib.hid fun W hW => by
    have h := Corrected_any aa l ca t1 c1 t2 d rf W (hA.below hW)
    cases hdl : drB d rf with
    | true =>
      rw [(cor_drift hokL (.inr hdl)).1, (cor_drift hokL (.inr hdl)).2] at h
      refine h.mono ?_
      rintro e w' ⟨a, cap, he, -, hb⟩
      exact ⟨a, cap, .inr he, hb⟩
    | false =>
      rw [(cor_ok hokL hdr.1 hdl).1, (cor_ok hokL hdr.1 hdl).2, gm_len] at h
      refine h.mono ?_
      rintro e w' ⟨a, cap, he, hI, hb⟩
      exact ⟨a, cap, .inl ⟨he, hI⟩, hb⟩
  have HF1 : Hid (∀ j, j < l.length → gi (gm (corF t1 rf t2 rf rf l) l.length) j = (gp l j).2) := Lib.hid fun j hj => by
    rw [gm_at _ hj]
    exact corr_same h0 (by omega)
  have HF3 : Hid (∀ j, j < l.length → gi (gm (corF t1 c1 t2 c2 rf l) l.length) j ≤ gi (gm (corF t1 c1 t2 d rf l) l.length) j) := Lib.hid fun j hj => by
    rw [gm_at _ hj, gm_at _ hj]
    have r := hRd.2 j hj
    exact corr_low r.1.1 h0 a0 d0 d1 r.2.1 r.2.2 (by omega)
  rw [hE0] at HR
  obtain ⟨-, -, blk, off, hadr, hc⟩ := hA
  have HC := Lib.hid hc
  have HL : Hid (0 < l.length → aa = some ⟨blk, off, none⟩) := Lib.hid fun h => hadr (by rintro rfl; simp at h)
  have HG1 := Lib.hid (gm_len (corF t1 rf t2 rf rf l) l.length)
  have HG2 := Lib.hid (gm_len (corF t1 c1 t2 c2 rf l) l.length)
  have HG3 := Lib.hid (gm_len (corF t1 c1 t2 d rf l) l.length)
  generalize gm (corF t1 rf t2 rf rf l) l.length = G1 at *
  generalize gm (corF t1 c1 t2 c2 rf l) l.length = G2 at *
  generalize gm (corF t1 c1 t2 d rf l) l.length = G3 at *
  generalize corL t1 c1 t2 c2 rf l = CL at *
  have wkq : IntKind.i64.wrap kq = kq := IntWalk.i64_in _ (by omega)
  have wkq1 : IntKind.i64.wrap (kq + 1) = kq + 1 := IntWalk.i64_in _ (by omega)
  have wu : IntKind.i64.wrap u = u := IntWalk.i64_in _ (by omega)
  have wd : IntKind.i64.wrap d = d := IntWalk.i64_in _ (by omega)
  have wlo : IntKind.i64.wrap lo = lo := IntWalk.i64_in _ (by omega)
  have nzk : ¬ kq + 1 = 0 := by omega
  clear hc hadr hok hdr hRd hdrS hokS hEnL hokL hE0
  go_enter Try.func8, Try.ntmps8
  go_wp2_with fail
  refine (HR.out _ ((Below.refl _ _).alloc (Nat.le_refl _) _)).mono ?_
  rintro e w1 ⟨ax, kx, rfl, -, hb1⟩
  have hbq := box_below hb1
  have r0 := (hb1.cell (p := ⟨w.heap.size, 0, none⟩) (by simp)).trans (show _ = some ((.slice aa l.length ca : Value)) by simp [go_sem])
  have r1 := (hb1.cell (p := ⟨w.heap.size, 1, none⟩) (by simp)).trans (show _ = some ((.int .i64 t1 : Value)) by simp [go_sem])
  have r2 := (hb1.cell (p := ⟨w.heap.size, 2, none⟩) (by simp)).trans (show _ = some ((.int .i64 c1 : Value)) by simp [go_sem])
  have r3 := (hb1.cell (p := ⟨w.heap.size, 3, none⟩) (by simp)).trans (show _ = some ((.int .i64 t2 : Value)) by simp [go_sem])
  have r4 := (hb1.cell (p := ⟨w.heap.size, 4, none⟩) (by simp)).trans (show _ = some ((.int .i64 c2 : Value)) by simp [go_sem])
  have r5 := (hb1.cell (p := ⟨w.heap.size, 5, none⟩) (by simp)).trans (show _ = some ((.int .i64 rf : Value)) by simp [go_sem])
  have hz : w.heap.size < w1.heap.size := by have := hb1.size; simp at this; omega
  clear hb1 HR
  go_wp2_with fail
  obtain ⟨wr, rfl⟩ : ∃ wr : World, wr = w1 := ⟨_, rfl⟩
  have n9 : w.heap.size ≠ wr.heap.size := by omega
  have n8 : w.heap.size ≠ wr.heap.size + 1 := by omega
  have q1 : ∀ c1 o, ((wr.alloc (.cells c1 46)).drew).cell? ⟨w.heap.size, o, none⟩ = wr.cell? ⟨w.heap.size, o, none⟩ := fun c1 o => ((((Below.refl _ _).alloc (Nat.le_refl _) _ : Below wr.heap.size wr (wr.alloc (.cells c1 46))).drew).cell (p := ⟨w.heap.size, o, none⟩) hz)
  have q2 : ∀ c1 c2 o, (((wr.alloc (.cells c1 46)).alloc (.cells c2 46)).drew).cell? ⟨w.heap.size, o, none⟩ = wr.cell? ⟨w.heap.size, o, none⟩ := fun c1 c2 o => (((((Below.refl _ _).alloc (Nat.le_refl _) _ : Below wr.heap.size wr (wr.alloc (.cells c1 46))).alloc (by simp) _).drew).cell (p := ⟨w.heap.size, o, none⟩) hz)
  go_region
  all_goals
    obtain ⟨wD, hwD⟩ : ∃ wD, (((wr.alloc (.cells #[.slice aa l.length ca, .int .i64 t1, .int .i64 c1, .int .i64 t2, .int .i64 c2, .int .i64 rf] 46)).alloc (.cells #[.slice aa l.length ca, .int .i64 t1, .int .i64 c1, .int .i64 t2, .int .i64 c2, .int .i64 rf] 46)).drew) = wD := ⟨_, rfl⟩
    rw [hwD]
    have hbD : Below wr.heap.size wr wD := by
      rw [← hwD]
      exact (((Below.refl _ _).alloc (Nat.le_refl _) _ : Below wr.heap.size wr (wr.alloc (.cells #[.slice aa l.length ca, .int .i64 t1, .int .i64 c1, .int .i64 t2, .int .i64 c2, .int .i64 rf] 46))).alloc (by simp) _).drew
    have hsD : wD.heap.size = wr.heap.size + 1 + 1 := by rw [← hwD]; simp
    have x0 : wD.cell? ⟨wr.heap.size, 0, none⟩ = some (.slice aa l.length ca) := by rw [← hwD]; simp [go_sem]
    have y0 : wD.cell? ⟨wr.heap.size + 1, 0, none⟩ = some (.slice aa l.length ca) := by rw [← hwD]; simp [go_sem]
    have x1 : wD.cell? ⟨wr.heap.size, 1, none⟩ = some (.int .i64 t1) := by rw [← hwD]; simp [go_sem]
    have y1 : wD.cell? ⟨wr.heap.size + 1, 1, none⟩ = some (.int .i64 t1) := by rw [← hwD]; simp [go_sem]
    have x2 : wD.cell? ⟨wr.heap.size, 2, none⟩ = some (.int .i64 c1) := by rw [← hwD]; simp [go_sem]
    have y2 : wD.cell? ⟨wr.heap.size + 1, 2, none⟩ = some (.int .i64 c1) := by rw [← hwD]; simp [go_sem]
    have x3 : wD.cell? ⟨wr.heap.size, 3, none⟩ = some (.int .i64 t2) := by rw [← hwD]; simp [go_sem]
    have y3 : wD.cell? ⟨wr.heap.size + 1, 3, none⟩ = some (.int .i64 t2) := by rw [← hwD]; simp [go_sem]
    have x4 : wD.cell? ⟨wr.heap.size, 4, none⟩ = some (.int .i64 c2) := by rw [← hwD]; simp [go_sem]
    have y4 : wD.cell? ⟨wr.heap.size + 1, 4, none⟩ = some (.int .i64 c2) := by rw [← hwD]; simp [go_sem]
    have x5 : wD.cell? ⟨wr.heap.size, 5, none⟩ = some (.int .i64 rf) := by rw [← hwD]; simp [go_sem]
    have y5 : wD.cell? ⟨wr.heap.size + 1, 5, none⟩ = some (.int .i64 rf) := by rw [← hwD]; simp [go_sem]
    have fx : ∀ o, wD.frozen? ⟨wr.heap.size, o, none⟩ = false := fun o => by rw [← hwD]; simp [go_sem]
    have fy : ∀ o, wD.frozen? ⟨wr.heap.size + 1, o, none⟩ = false := fun o => by rw [← hwD]; simp [go_sem]
    have fx2 := fx 2
    have fx4 := fx 4
    have fy2 := fy 2
    have fy4 := fy 4
    clear hwD q1 q2
    have r0 := cell_below r0 hbD
    have r1 := cell_below r1 hbD
    have r2 := cell_below r2 hbD
    have r3 := cell_below r3 hbD
    have r4 := cell_below r4 hbD
    have r5 := cell_below r5 hbD
    have hbD := hbq.trans (hbD.mono hbq.size)
    obtain ⟨bx, hbx⟩ : ∃ bx, wr.heap.size = bx := ⟨_, rfl⟩
    rw [hbx] at x0 x1 x2 x3 x4 x5 y0 y1 y2 y3 y4 y5 fx fy fx2 fx4 fy2 fy4 hsD hz n9 n8 ⊢
    clear hbx hbq
    obtain ⟨bz, hbz⟩ : ∃ bz, bx + 1 = bz := ⟨_, rfl⟩
    rw [hbz] at y0 y1 y2 y3 y4 y5 fy fy2 fy4 n8 ⊢
    have hxz : bx ≠ bz := by omega
    have hzx : bz ≠ bx := by omega
    have hlx : bx < wD.heap.size := by omega
    have hlz : bz < wD.heap.size := by omega
    have hwx : w.heap.size ≤ bx := by omega
    have hwz : w.heap.size ≤ bz := by omega
    have hwb : w.heap.size ≠ bx := n9
    have hwc : w.heap.size ≠ bz := n8
    clear hbz fx fy
    go_wp2_with fail
    go_region
    first
      | (obtain ⟨wS, hwS⟩ : ∃ wS, ((wD.setCell ⟨bx, 2, none⟩ (.int .i64 rf)).setCell ⟨bx, 4, none⟩ (.int .i64 rf)).drew = wS := ⟨_, rfl⟩
         rw [hwS]
         have s0 : wS.cell? ⟨bx, 0, none⟩ = some (.slice aa l.length ca) := by rw [← hwS]; simp [go_sem, x0, hxz, hzx]
         have p0 : wS.cell? ⟨bz, 0, none⟩ = some (.slice aa l.length ca) := by rw [← hwS]; simp [go_sem, y0, hxz, hzx]
         have r0 : wS.cell? ⟨w.heap.size, 0, none⟩ = some (.slice aa l.length ca) := by rw [← hwS]; simp [go_sem, r0, hwb, hwc]
         have s1 : wS.cell? ⟨bx, 1, none⟩ = some (.int .i64 t1) := by rw [← hwS]; simp [go_sem, x1, hxz, hzx]
         have p1 : wS.cell? ⟨bz, 1, none⟩ = some (.int .i64 t1) := by rw [← hwS]; simp [go_sem, y1, hxz, hzx]
         have r1 : wS.cell? ⟨w.heap.size, 1, none⟩ = some (.int .i64 t1) := by rw [← hwS]; simp [go_sem, r1, hwb, hwc]
         have s2 : wS.cell? ⟨bx, 2, none⟩ = some (.int .i64 rf) := by rw [← hwS]; simp [go_sem, x2, hxz, hzx]
         have p2 : wS.cell? ⟨bz, 2, none⟩ = some (.int .i64 c1) := by rw [← hwS]; simp [go_sem, y2, hxz, hzx]
         have r2 : wS.cell? ⟨w.heap.size, 2, none⟩ = some (.int .i64 c1) := by rw [← hwS]; simp [go_sem, r2, hwb, hwc]
         have s3 : wS.cell? ⟨bx, 3, none⟩ = some (.int .i64 t2) := by rw [← hwS]; simp [go_sem, x3, hxz, hzx]
         have p3 : wS.cell? ⟨bz, 3, none⟩ = some (.int .i64 t2) := by rw [← hwS]; simp [go_sem, y3, hxz, hzx]
         have r3 : wS.cell? ⟨w.heap.size, 3, none⟩ = some (.int .i64 t2) := by rw [← hwS]; simp [go_sem, r3, hwb, hwc]
         have s4 : wS.cell? ⟨bx, 4, none⟩ = some (.int .i64 rf) := by rw [← hwS]; simp [go_sem, x4, hxz, hzx]
         have p4 : wS.cell? ⟨bz, 4, none⟩ = some (.int .i64 c2) := by rw [← hwS]; simp [go_sem, y4, hxz, hzx]
         have r4 : wS.cell? ⟨w.heap.size, 4, none⟩ = some (.int .i64 c2) := by rw [← hwS]; simp [go_sem, r4, hwb, hwc]
         have s5 : wS.cell? ⟨bx, 5, none⟩ = some (.int .i64 rf) := by rw [← hwS]; simp [go_sem, x5, hxz, hzx]
         have p5 : wS.cell? ⟨bz, 5, none⟩ = some (.int .i64 rf) := by rw [← hwS]; simp [go_sem, y5, hxz, hzx]
         have r5 : wS.cell? ⟨w.heap.size, 5, none⟩ = some (.int .i64 rf) := by rw [← hwS]; simp [go_sem, r5, hwb, hwc]
         have fz : wS.frozen? ⟨bz, 4, none⟩ = false := by rw [← hwS]; simp [go_sem, fy4]
         have hbS : Below w.heap.size w wS := by rw [← hwS]; exact ((hbD.setCell (p := ⟨bx, 2, none⟩) (by assumption) _).setCell (p := ⟨bx, 4, none⟩) (by assumption) _).drew
         clear hwS
         obtain ⟨bs, hbs⟩ : ∃ b, bx = b := ⟨_, rfl⟩
         obtain ⟨bl, hbl⟩ : ∃ b, bz = b := ⟨_, rfl⟩
         have hsl : bs ≠ bl := by omega
         have hwl : w.heap.size ≤ bl := by omega
         have hws : w.heap.size ≠ bs := by omega
         have hwn : w.heap.size ≠ bl := by omega
         rw [hbs] at s0 s1 s2 s3 s4 s5 ⊢
         rw [hbl] at p0 p1 p2 p3 p4 p5 fz ⊢
         clear hbs hbl)
      | (obtain ⟨wS, hwS⟩ : ∃ wS, ((wD.setCell ⟨bz, 2, none⟩ (.int .i64 rf)).setCell ⟨bz, 4, none⟩ (.int .i64 rf)).drew = wS := ⟨_, rfl⟩
         rw [hwS]
         have s0 : wS.cell? ⟨bz, 0, none⟩ = some (.slice aa l.length ca) := by rw [← hwS]; simp [go_sem, y0, hxz, hzx]
         have p0 : wS.cell? ⟨bx, 0, none⟩ = some (.slice aa l.length ca) := by rw [← hwS]; simp [go_sem, x0, hxz, hzx]
         have r0 : wS.cell? ⟨w.heap.size, 0, none⟩ = some (.slice aa l.length ca) := by rw [← hwS]; simp [go_sem, r0, hwb, hwc]
         have s1 : wS.cell? ⟨bz, 1, none⟩ = some (.int .i64 t1) := by rw [← hwS]; simp [go_sem, y1, hxz, hzx]
         have p1 : wS.cell? ⟨bx, 1, none⟩ = some (.int .i64 t1) := by rw [← hwS]; simp [go_sem, x1, hxz, hzx]
         have r1 : wS.cell? ⟨w.heap.size, 1, none⟩ = some (.int .i64 t1) := by rw [← hwS]; simp [go_sem, r1, hwb, hwc]
         have s2 : wS.cell? ⟨bz, 2, none⟩ = some (.int .i64 rf) := by rw [← hwS]; simp [go_sem, y2, hxz, hzx]
         have p2 : wS.cell? ⟨bx, 2, none⟩ = some (.int .i64 c1) := by rw [← hwS]; simp [go_sem, x2, hxz, hzx]
         have r2 : wS.cell? ⟨w.heap.size, 2, none⟩ = some (.int .i64 c1) := by rw [← hwS]; simp [go_sem, r2, hwb, hwc]
         have s3 : wS.cell? ⟨bz, 3, none⟩ = some (.int .i64 t2) := by rw [← hwS]; simp [go_sem, y3, hxz, hzx]
         have p3 : wS.cell? ⟨bx, 3, none⟩ = some (.int .i64 t2) := by rw [← hwS]; simp [go_sem, x3, hxz, hzx]
         have r3 : wS.cell? ⟨w.heap.size, 3, none⟩ = some (.int .i64 t2) := by rw [← hwS]; simp [go_sem, r3, hwb, hwc]
         have s4 : wS.cell? ⟨bz, 4, none⟩ = some (.int .i64 rf) := by rw [← hwS]; simp [go_sem, y4, hxz, hzx]
         have p4 : wS.cell? ⟨bx, 4, none⟩ = some (.int .i64 c2) := by rw [← hwS]; simp [go_sem, x4, hxz, hzx]
         have r4 : wS.cell? ⟨w.heap.size, 4, none⟩ = some (.int .i64 c2) := by rw [← hwS]; simp [go_sem, r4, hwb, hwc]
         have s5 : wS.cell? ⟨bz, 5, none⟩ = some (.int .i64 rf) := by rw [← hwS]; simp [go_sem, y5, hxz, hzx]
         have p5 : wS.cell? ⟨bx, 5, none⟩ = some (.int .i64 rf) := by rw [← hwS]; simp [go_sem, x5, hxz, hzx]
         have r5 : wS.cell? ⟨w.heap.size, 5, none⟩ = some (.int .i64 rf) := by rw [← hwS]; simp [go_sem, r5, hwb, hwc]
         have fz : wS.frozen? ⟨bx, 4, none⟩ = false := by rw [← hwS]; simp [go_sem, fx4]
         have hbS : Below w.heap.size w wS := by rw [← hwS]; exact ((hbD.setCell (p := ⟨bz, 2, none⟩) (by assumption) _).setCell (p := ⟨bz, 4, none⟩) (by assumption) _).drew
         clear hwS
         obtain ⟨bs, hbs⟩ : ∃ b, bz = b := ⟨_, rfl⟩
         obtain ⟨bl, hbl⟩ : ∃ b, bx = b := ⟨_, rfl⟩
         have hsl : bs ≠ bl := by omega
         have hwl : w.heap.size ≤ bl := by omega
         have hws : w.heap.size ≠ bs := by omega
         have hwn : w.heap.size ≠ bl := by omega
         rw [hbs] at s0 s1 s2 s3 s4 s5 ⊢
         rw [hbl] at p0 p1 p2 p3 p4 p5 fz ⊢
         clear hbs hbl)
    clear x0 y0 x1 y1 x2 y2 x3 y3 x4 y4 x5 y5 fx2 fx4 fy2 fy4 hxz hzx hlx hlz hwx hwz hwb hwc n9 n8 hsD hbD
    go_wp2_with fail
    have hmx : 1 < d ∨ d ≤ 1 := by omega
    rcases hmx with hmx | hmx
    all_goals
      go_still_tail 15, (by kernel_rfl)
      change wpList _ _ _ _ _ wS.drew
      have s0' : wS.drew.cell? ⟨bs, 0, none⟩ = some (.slice aa l.length ca) := s0
      have s1' : wS.drew.cell? ⟨bs, 1, none⟩ = some (.int .i64 t1) := s1
      have s2' : wS.drew.cell? ⟨bs, 2, none⟩ = some (.int .i64 rf) := s2
      have s3' : wS.drew.cell? ⟨bs, 3, none⟩ = some (.int .i64 t2) := s3
      have s4' : wS.drew.cell? ⟨bs, 4, none⟩ = some (.int .i64 rf) := s4
      have s5' : wS.drew.cell? ⟨bs, 5, none⟩ = some (.int .i64 rf) := s5
      have p0' : wS.drew.cell? ⟨bl, 0, none⟩ = some (.slice aa l.length ca) := p0
      have p1' : wS.drew.cell? ⟨bl, 1, none⟩ = some (.int .i64 t1) := p1
      have p2' : wS.drew.cell? ⟨bl, 2, none⟩ = some (.int .i64 c1) := p2
      have p3' : wS.drew.cell? ⟨bl, 3, none⟩ = some (.int .i64 t2) := p3
      have p4' : wS.drew.cell? ⟨bl, 4, none⟩ = some (.int .i64 c2) := p4
      have p5' : wS.drew.cell? ⟨bl, 5, none⟩ = some (.int .i64 rf) := p5
      have r0' : wS.drew.cell? ⟨w.heap.size, 0, none⟩ = some (.slice aa l.length ca) := r0
      have r1' : wS.drew.cell? ⟨w.heap.size, 1, none⟩ = some (.int .i64 t1) := r1
      have r2' : wS.drew.cell? ⟨w.heap.size, 2, none⟩ = some (.int .i64 c1) := r2
      have r3' : wS.drew.cell? ⟨w.heap.size, 3, none⟩ = some (.int .i64 t2) := r3
      have r4' : wS.drew.cell? ⟨w.heap.size, 4, none⟩ = some (.int .i64 c2) := r4
      have r5' : wS.drew.cell? ⟨w.heap.size, 5, none⟩ = some (.int .i64 rf) := r5
      have fz' : wS.drew.frozen? ⟨bl, 4, none⟩ = false := fz
      have hbS' : Below w.heap.size w wS.drew := hbS.drew
      generalize wS.drew = w5 at *
      clear s0 p0 r0 s1 p1 r1 s2 p2 r2 s3 p3 r3 s4 p4 r4 s5 p5 r5 fz hbS
      go_wp2_with fail
      first
        | (obtain ⟨wL, hwL⟩ : ∃ wL, w5.setCell ⟨bl, 4, none⟩ (.int .i64 d) = wL := ⟨_, rfl⟩
           rw [hwL]
           have p4 : wL.cell? ⟨bl, 4, none⟩ = some (.int .i64 d) := by rw [← hwL]; simp [go_sem, p4'])
        | (obtain ⟨wL, hwL⟩ : ∃ wL, w5.setCell ⟨bl, 4, none⟩ (.int .i64 1) = wL := ⟨_, rfl⟩
           rw [hwL]
           have p4 : wL.cell? ⟨bl, 4, none⟩ = some (.int .i64 d) := by rw [← hwL, show d = 1 from by omega]; simp [go_sem, p4'])
      have s0 : wL.cell? ⟨bs, 0, none⟩ = some (.slice aa l.length ca) := by rw [← hwL]; simp [go_sem, s0', hsl]
      have r0 : wL.cell? ⟨w.heap.size, 0, none⟩ = some (.slice aa l.length ca) := by rw [← hwL]; simp [go_sem, r0', hwn]
      have p0 : wL.cell? ⟨bl, 0, none⟩ = some (.slice aa l.length ca) := by rw [← hwL]; simp [go_sem, p0']
      have s1 : wL.cell? ⟨bs, 1, none⟩ = some (.int .i64 t1) := by rw [← hwL]; simp [go_sem, s1', hsl]
      have r1 : wL.cell? ⟨w.heap.size, 1, none⟩ = some (.int .i64 t1) := by rw [← hwL]; simp [go_sem, r1', hwn]
      have p1 : wL.cell? ⟨bl, 1, none⟩ = some (.int .i64 t1) := by rw [← hwL]; simp [go_sem, p1']
      have s2 : wL.cell? ⟨bs, 2, none⟩ = some (.int .i64 rf) := by rw [← hwL]; simp [go_sem, s2', hsl]
      have r2 : wL.cell? ⟨w.heap.size, 2, none⟩ = some (.int .i64 c1) := by rw [← hwL]; simp [go_sem, r2', hwn]
      have p2 : wL.cell? ⟨bl, 2, none⟩ = some (.int .i64 c1) := by rw [← hwL]; simp [go_sem, p2']
      have s3 : wL.cell? ⟨bs, 3, none⟩ = some (.int .i64 t2) := by rw [← hwL]; simp [go_sem, s3', hsl]
      have r3 : wL.cell? ⟨w.heap.size, 3, none⟩ = some (.int .i64 t2) := by rw [← hwL]; simp [go_sem, r3', hwn]
      have p3 : wL.cell? ⟨bl, 3, none⟩ = some (.int .i64 t2) := by rw [← hwL]; simp [go_sem, p3']
      have s4 : wL.cell? ⟨bs, 4, none⟩ = some (.int .i64 rf) := by rw [← hwL]; simp [go_sem, s4', hsl]
      have r4 : wL.cell? ⟨w.heap.size, 4, none⟩ = some (.int .i64 c2) := by rw [← hwL]; simp [go_sem, r4', hwn]
      have s5 : wL.cell? ⟨bs, 5, none⟩ = some (.int .i64 rf) := by rw [← hwL]; simp [go_sem, s5', hsl]
      have r5 : wL.cell? ⟨w.heap.size, 5, none⟩ = some (.int .i64 rf) := by rw [← hwL]; simp [go_sem, r5', hwn]
      have p5 : wL.cell? ⟨bl, 5, none⟩ = some (.int .i64 rf) := by rw [← hwL]; simp [go_sem, p5']
      have hbL : Below w.heap.size w wL := by rw [← hwL]; exact hbS'.setCell (p := ⟨bl, 4, none⟩) hwl _
      clear hwL fz' hbS' s0' p0' r0' s1' p1' r1' s2' p2' r2' s3' p3' r3' s4' p4' r4' s5' p5' r5'
      refine (HCS.out _ hbL).mono ?_
      rintro e w2 ⟨a1, k1, rfl, hI1, hb2⟩
      have s0 := cell_below s0 hb2
      have p0 := cell_below p0 hb2
      have r0 := cell_below r0 hb2
      have s1 := cell_below s1 hb2
      have p1 := cell_below p1 hb2
      have r1 := cell_below r1 hb2
      have s2 := cell_below s2 hb2
      have p2 := cell_below p2 hb2
      have r2 := cell_below r2 hb2
      have s3 := cell_below s3 hb2
      have p3 := cell_below p3 hb2
      have r3 := cell_below r3 hb2
      have s4 := cell_below s4 hb2
      have p4 := cell_below p4 hb2
      have r4 := cell_below r4 hb2
      have s5 := cell_below s5 hb2
      have p5 := cell_below p5 hb2
      have r5 := cell_below r5 hb2
      have hbL := hbL.trans (hb2.mono hbL.size)
      clear hb2
      go_wp2_with fail
      refine (HCR.out _ hbL).mono ?_
      rintro e w3 ⟨a2, k2, rfl, hI2, hb3⟩
      have s0 := cell_below s0 hb3
      have p0 := cell_below p0 hb3
      have r0 := cell_below r0 hb3
      have s1 := cell_below s1 hb3
      have p1 := cell_below p1 hb3
      have r1 := cell_below r1 hb3
      have s2 := cell_below s2 hb3
      have p2 := cell_below p2 hb3
      have r2 := cell_below r2 hb3
      have s3 := cell_below s3 hb3
      have p3 := cell_below p3 hb3
      have r3 := cell_below r3 hb3
      have s4 := cell_below s4 hb3
      have p4 := cell_below p4 hb3
      have r4 := cell_below r4 hb3
      have s5 := cell_below s5 hb3
      have p5 := cell_below p5 hb3
      have r5 := cell_below r5 hb3
      have hI1 := hI1.below hb3
      have hbL := hbL.trans (hb3.mono hbL.size)
      clear hb3
      go_wp2_with fail
      refine (HCL.out _ hbL).mono ?_
      rintro e w4 ⟨a3, k3, he3, hb4⟩
      have r0 := cell_below r0 hb4
      have hI1 := hI1.below hb4
      have hI2 := hI2.below hb4
      have hbL := hbL.trans (hb4.mono hbL.size)
      clear hb4
      clear s0 p0 s1 p1 s2 p2 s3 p3 s4 p4 s5 p5 r1 r2 r3 r4 r5
      obtain ⟨-, -, ba1, oa1, had1, hc1⟩ := hI1
      obtain ⟨-, -, ba2, oa2, had2, hc2⟩ := hI2
      have HC1 := Lib.hid hc1
      have HC2 := Lib.hid hc2
      have HA1 : Hid (0 < l.length → a1 = some ⟨ba1, oa1, none⟩) := Lib.hid fun h => had1 (by rintro rfl; have := HG1.out; simp at this; omega)
      have HA2 : Hid (0 < l.length → a2 = some ⟨ba2, oa2, none⟩) := Lib.hid fun h => had2 (by rintro rfl; have := HG2.out; simp at this; omega)
      clear had1 had2 hc1 hc2 HCS HCR HCL hkq hkt kq0 kq1 hu hut u0 u1 hd d0 d1 wkq wkq1 wu wd wlo nzk hmx a0 b0 b1 f0 f1 g0 g1 h0 h1 lo0 lo1 hz hsl hwl hws hwn
      rcases he3 with ⟨rfl, hI3⟩ | rfl
      · obtain ⟨-, -, ba3, oa3, had3, hc3⟩ := hI3
        have HC3 := Lib.hid hc3
        have HA3 : Hid (0 < l.length → a3 = some ⟨ba3, oa3, none⟩) := Lib.hid fun h => had3 (by rintro rfl; have := HG3.out; simp at this; omega)
        clear had3 hc3
        go_wp2_with fail
        go_loopw [15] (fun i wr => ∃ k : Nat, k ≤ l.length ∧ i = .int .i64 k ∧ Below w4.heap.size w4 wr) (fun i _ => l.length - (intOf i).toNat)
        case atStart => exact ⟨0, Nat.zero_le _, rfl, Below.refl _ _⟩
        case round =>
          obtain ⟨k, hk, rfl, hbr⟩ := hrel
          have hbw := hbL.trans (hbr.mono hbL.size)
          have r0 := cell_below r0 hbr
          by_cases hlt : k < l.length
          · obtain rfl := HL.out (by omega)
            obtain rfl := HA1.out (by omega)
            obtain rfl := HA2.out (by omega)
            obtain rfl := HA3.out (by omega)
            have v1 := cell_below (HC1.out k (by rw [HG1.out]; exact hlt)) hbr
            have v2 := cell_below (HC2.out k (by rw [HG2.out]; exact hlt)) hbr
            have v3 := cell_below (HC3.out k (by rw [HG3.out]; exact hlt)) hbr
            have vv := cell_below (HC.out k hlt).2 hbw
            have hle := HF3.out k hlt
            rw [HF1.out k hlt] at v1
            have hkl : (k : Int) < (l.length : Int) := by omega
            clear HC HC1 HC2 HC3 HL HA1 HA2 HA3 HF1 HF3
            generalize (gp l k).2 = v at *
            generalize gi G2 k = m at *
            generalize gi G3 k = n at *
            have hdd : decide (n < m) = false := by simp; omega
            go_wp2_with fail
            go_quiet (fail)
            go_wp2_with fail
            go_roundw
            case rel => exact ⟨k + 1, by omega, by go_num, below_drewN hbr _⟩
            case measure => simp [intOf]; omega
          · obtain rfl : k = l.length := by omega
            go_wp2_with fail
            refine (H1.out _).mono ?_
            rintro e w9 ⟨rfl, hb9⟩
            go_wp2_with fail
            go_ret
            exact ⟨rfl, hbw.trans (hb9.mono hbw.size)⟩
      · go_wp2_with fail
        go_loopw [15] (fun i wr => ∃ k : Nat, k ≤ l.length ∧ i = .int .i64 k ∧ Below w4.heap.size w4 wr) (fun i _ => l.length - (intOf i).toNat)
        case atStart => exact ⟨0, Nat.zero_le _, rfl, Below.refl _ _⟩
        case round =>
          obtain ⟨k, hk, rfl, hbr⟩ := hrel
          have hbw := hbL.trans (hbr.mono hbL.size)
          have r0 := cell_below r0 hbr
          by_cases hlt : k < l.length
          · obtain rfl := HL.out (by omega)
            obtain rfl := HA1.out (by omega)
            have v1 := cell_below (HC1.out k (by rw [HG1.out]; exact hlt)) hbr
            have vv := cell_below (HC.out k hlt).2 hbw
            rw [HF1.out k hlt] at v1
            have hkl : (k : Int) < (l.length : Int) := by omega
            clear HC HC1 HC2 HL HA1 HA2 HF1 HF3
            generalize (gp l k).2 = v at *
            go_wp2_with fail
            go_quiet (fail)
            go_wp2_with fail
            go_roundw
            case rel => exact ⟨k + 1, by omega, by go_num, below_drewN hbr _⟩
            case measure => simp [intOf]; omega
          · obtain rfl : k = l.length := by omega
            go_wp2_with fail
            refine (H1.out _).mono ?_
            rintro e w9 ⟨rfl, hb9⟩
            go_wp2_with fail
            go_ret
            exact ⟨rfl, hbw.trans (hb9.mono hbw.size)⟩
end Go.Proofs.Ytkddmjadilmldaa
