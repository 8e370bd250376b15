/-
  The walks of Value. By an AI agent.
-/
import Derived.Test.YtanmelbkhojfoaaLightVM
namespace Go.Proofs.Ytanmelbkhojfoaa
set_option linter.unusedVariables false
set_option linter.unusedSimpArgs false
open Go.RowKit

/-- The part that remains, of a side. -/
def keepOf (z0 z1 z2 z3 side : Int) : Int := if side = 0 then z0 else if side = 1 then z1 else if side = 2 then z2 else z3
theorem hisB_iff {z0 z1 z2 z3 side : Int} {l : List (Int × Int)} : hisB z0 z1 z2 z3 side l = true ↔ (0 ≤ z0 ∧ z0 ≤ 1000) ∧ (0 ≤ z1 ∧ z1 ≤ 1000) ∧ (0 ≤ z2 ∧ z2 ≤ 1000) ∧ (0 ≤ z3 ∧ z3 ≤ 1000) ∧ (0 ≤ side ∧ side ≤ 3) ∧ MesOk l := by
  unfold hisB; simp only [Bool.and_eq_true, btw_iff, mesB_iff]
theorem keep_bd {z0 z1 z2 z3 side : Int} {l : List (Int × Int)} (h : hisB z0 z1 z2 z3 side l = true) : 0 ≤ keepOf z0 z1 z2 z3 side ∧ keepOf z0 z1 z2 z3 side ≤ 1000 := by
  have := hisB_iff.1 h
  unfold keepOf; split
  · omega
  · split
    · omega
    · split <;> omega
theorem keep_cell {z0 z1 z2 z3 : Int} {s : Nat} (hs : s ≤ 3) (w : World) (T : TypeId) : (w.alloc (.cells #[.int .i64 z0, .int .i64 z1, .int .i64 z2, .int .i64 z3] T)).cell? ⟨w.heap.size, s, none⟩ = some (.int .i64 (keepOf z0 z1 z2 z3 s)) := by
  match s, hs with
  | 0, _ => simp [go_sem, keepOf]
  | 1, _ => simp [go_sem, keepOf]
  | 2, _ => simp [go_sem, keepOf]
  | 3, _ => simp [go_sem, keepOf]
noncomputable def valB (z0 z1 z2 z3 side : Int) (l : List (Int × Int)) (day : Int) : Bool := hisB z0 z1 z2 z3 side l && btw day (gp l 0).1 100000
noncomputable def valV (z0 z1 z2 z3 side : Int) (l : List (Int × Int)) (day : Int) : Int := if valB z0 z1 z2 z3 side l day then agV (gp l (lastIx l day l.length)).2 (keepOf z0 z1 z2 z3 side) ((day - (gp l (lastIx l day l.length)).1) / 365).toNat else 0
noncomputable def valE (z0 z1 z2 z3 side : Int) (l : List (Int × Int)) (day : Int) : Int := if valB z0 z1 z2 z3 side l day then 0 else 2
theorem lastIx_bd {l : List (Int × Int)} (h : MesOk l) {day : Int} {k : Nat} (hk : k ≤ l.length) : lastIx l day k < l.length := by
  cases k with
  | zero => have := h.1; simp [lastIx]; omega
  | succ k => have := lastIx_lt l day k; omega
theorem mes_day {l : List (Int × Int)} (h : MesOk l) {k : Nat} (hk : k < l.length) : 0 ≤ (gp l k).1 ∧ (gp l k).1 ≤ 100000 ∧ 0 ≤ (gp l k).2 ∧ (gp l k).2 ≤ 100000 := by
  have h1 := h.2.2 k hk
  have h2 := (me_bd k (fun j hj => h.2.2 j (by omega))).1
  unfold mOk at h1; omega

/-- The box of the last measure. -/
def LastS (w wr : World) (B s : Nat) (kp d r : Int) : Prop := Below w.heap.size w wr ∧ w.heap.size < B ∧ B < wr.heap.size ∧ wr.cell? ⟨w.heap.size, s, none⟩ = some (.int .i64 kp) ∧ wr.cell? ⟨B, 0, none⟩ = some (.int .i64 d) ∧ wr.cell? ⟨B, 1, none⟩ = some (.int .i64 r) ∧ wr.frozen? ⟨B, 0, none⟩ = false ∧ wr.frozen? ⟨B, 1, none⟩ = false

theorem LastS.alloc {w wr : World} {B s : Nat} {kp d r : Int} (h : LastS w wr B s kp d r) (o : Obj) : LastS w (wr.alloc o) B s kp d r := by
  obtain ⟨h1, h2, h3, h4, h5, h6, h7, h8⟩ := h
  have hb : Below wr.heap.size wr (wr.alloc o) := (Below.refl _ _).alloc (Nat.le_refl _) _
  refine ⟨h1.alloc h1.size _, h2, by simp; omega, ?_, ?_, ?_, ?_, ?_⟩
  · rw [hb.cell (p := ⟨w.heap.size, s, none⟩) (by show w.heap.size < wr.heap.size; omega)]; exact h4
  · rw [hb.cell (p := ⟨B, 0, none⟩) h3]; exact h5
  · rw [hb.cell (p := ⟨B, 1, none⟩) h3]; exact h6
  · rw [hb.frozen (p := ⟨B, 0, none⟩) h3]; exact h7
  · rw [hb.frozen (p := ⟨B, 1, none⟩) h3]; exact h8
theorem LastS.store {w wr : World} {B s : Nat} {kp d r : Int} (h : LastS w wr B s kp d r) (x y : Int) : LastS w ((wr.setCell ⟨B, 0, none⟩ (.int .i64 x)).setCell ⟨B, 1, none⟩ (.int .i64 y)) B s kp x y := by
  obtain ⟨h1, h2, h3, h4, h5, h6, h7, h8⟩ := h
  have hne : w.heap.size ≠ B := by omega
  have hne2 : B ≠ w.heap.size := by omega
  refine ⟨(h1.setCell (by show w.heap.size ≤ B; omega) _).setCell (by show w.heap.size ≤ B; omega) _, h2, by simpa using h3, ?_, ?_, ?_, ?_, ?_⟩
  · simp [go_sem, hne, hne2, h4]
  · simp [go_sem, h5]
  · simp [go_sem, h6]
  · simp [go_sem, h7]
  · simp [go_sem, h8]

set_option maxRecDepth 100000 in
set_option maxHeartbeats 4000000 in
theorem value_any (z0 z1 z2 z3 : Int) (s : Nat) (day : Int) (a : Option Addr) (l : List (Int × Int)) (cap : Nat) (w : World) (hP : PairsS w a l) (hcap : l.length ≤ cap) (hday : I64 day) (hb : hisB z0 z1 z2 z3 s l = true) (hd : btw day (gp l 0).1 100000 = true) :
    Calls Try.prog 41 #[.agg #[.int .i64 z0, .int .i64 z1, .int .i64 z2, .int .i64 z3], .int .i64 s, .slice a l.length cap, .int .i64 day] w fun e w' => e = .returned (.tuple #[.int .i64 (agV (gp l (lastIx l day l.length)).2 (keepOf z0 z1 z2 z3 s) ((day - (gp l (lastIx l day l.length)).1) / 365).toNat), .int .i64 0]) ∧ Below w.heap.size w w' := by
  have HH : Hid (∀ W, Below w.heap.size w W → Calls Try.prog 69 #[.agg #[.int .i64 z0, .int .i64 z1, .int .i64 z2, .int .i64 z3], .int .i64 s, .slice a l.length cap] W fun e w' => e = .returned (.bool true) ∧ Below W.heap.size W w') := Lib.hid fun W hW => by rw [← hb]; exact historyValid_any z0 z1 z2 z3 s a l cap W (hP.below hW)
  have HB := Lib.hid hd
  obtain ⟨hd0, hd1⟩ := (btw_iff _ _ _).1 hd
  have hM := (hisB_iff.1 hb).2.2.2.2.2
  have hs := (hisB_iff.1 hb).2.2.2.2.1
  have hkb := keep_bd hb
  obtain ⟨hlen, hbd, blk, off, hadr, hc⟩ := hP
  have n0 := hM.1
  have n1 := hM.2.1
  obtain rfl := hadr (fun h => by rw [h] at n0; simp at n0)
  obtain ⟨c0, c1⟩ := hc 0 (by omega)
  have m0 := mes_day hM (show 0 < l.length by omega)
  have hb0 := block_lt c0
  rw [show off + 0 * 2 = off from by omega] at c0 c1
  have HC := Lib.hid hc
  have HMk := Lib.hid hM
  have hs3 : s ≤ 3 := by omega
  have HKC := Lib.hid (keep_cell (z0 := z0) (z1 := z1) (z2 := z2) (z3 := z3) hs3)
  obtain ⟨kb0, kb1⟩ := hkb
  obtain ⟨m00, m01, m02, m03⟩ := m0
  have HD0 := Lib.hid hd0
  have HL0 : Hid (lastIx l day 1 = 0) := Lib.hid (by unfold lastIx; split <;> rfl)
  obtain ⟨dy0, dy1⟩ := hday
  clear hc hbd hadr hb hd hs hM
  generalize keepOf z0 z1 z2 z3 s = kp at *
  by_cases hc1 : cap = 1
  · subst hc1
    go_enter Try.func41, Try.ntmps41
    go_wp2_with fail
    refine (HH.out _ ((Below.refl _ _).alloc (Nat.le_refl _) _)).mono ?_
    rintro e w1 ⟨rfl, hb1⟩
    have q0 := cell_below c0 (box_below hb1)
    have q1 := cell_below c1 (box_below hb1)
    have HK1 := Lib.hid ((hb1.cell (p := ⟨w.heap.size, s, none⟩) (by simp)).trans (HKC.out w 59))
    have hz1 : w.heap.size < w1.heap.size := by have := hb1.size; simp at this; omega
    obtain ⟨d00, hd00⟩ : ∃ x, (gp l 0).1 = x := ⟨_, rfl⟩
    obtain ⟨r00, hr00⟩ : ∃ x, (gp l 0).2 = x := ⟨_, rfl⟩
    have HG0 := Lib.hid (And.intro hd00 hr00)
    rw [hd00] at q0 HB hd0 m00 m01
    rw [hr00] at q1 m02 m03
    clear hd00 hr00
    have hbw1 : blk < w1.heap.size := block_lt q0
    go_wp2_with (go_at_call 55; refine (between_any _ _ _ _).mono ?_; rintro e w' ⟨rfl, rfl⟩; rw [HB.out])
    have HR0 : Hid (LastS w (w1.alloc (.cells #[.int .i64 d00, .int .i64 r00] 95)) w1.heap.size s kp (gp l (lastIx l day 1)).1 (gp l (lastIx l day 1)).2) := Lib.hid (by
      rw [HL0.out, HG0.out.1, HG0.out.2]
      exact ⟨(box_below hb1).alloc (by omega) _, hz1, by simp, by rw [((Below.refl w1.heap.size w1).alloc (Nat.le_refl _) _).cell (p := ⟨w.heap.size, s, none⟩) hz1]; exact HK1.out, by simp [go_sem], by simp [go_sem], by simp [go_sem], by simp [go_sem]⟩)
    have HCl : Hid (∀ k, k + 1 < l.length → w.cell? ⟨blk, off + 2 + k * 2, none⟩ = some (.int .i64 (gp l (k + 1)).1) ∧ w.cell? ⟨blk, off + 2 + k * 2 + 1, none⟩ = some (.int .i64 (gp l (k + 1)).2)) := Lib.hid fun k hk => by
      have := HC.out (k + 1) hk
      rwa [show off + (k + 1) * 2 = off + 2 + k * 2 from by omega] at this
    clear q0 q1 HH HK1 HKC HL0 HG0 HC hz1 hb1 c0 c1
    generalize w1.heap.size = B at *
    go_loopw [33] (fun i wr => ∃ k : Nat, k + 1 ≤ l.length ∧ i = .int .i64 k ∧ Hid (LastS w wr B s kp (gp l (lastIx l day (k + 1))).1 (gp l (lastIx l day (k + 1))).2)) (fun i _ => l.length - (intOf i).toNat)
    case atStart => exact ⟨0, n0, rfl, HR0⟩
    case round =>
      obtain ⟨k, hk, rfl, HA⟩ := hrel
      by_cases hlt : k < l.length - 1
      · exact absurd hlt (by omega)
      · obtain rfl : k = l.length - 1 := by omega
        have HA2 := Lib.hid HA.out
        rw [show l.length - 1 + 1 = l.length from by omega] at HA2
        obtain ⟨hbw, hwB, hBl, p0, p1, p2, _, _⟩ := HA2.out
        have hix := lastIx_bd HMk.out (day := day) (Nat.le_refl l.length)
        have hld : (gp l (lastIx l day l.length)).1 ≤ day := lastIx_le l day (by have := HD0.out; omega) _
        obtain ⟨y0, y1, y2, y3⟩ := mes_day HMk.out hix
        clear HA HA2 HCl HMk HR0
        obtain ⟨V, hV⟩ : ∃ V, agV (gp l (lastIx l day l.length)).2 kp ((day - (gp l (lastIx l day l.length)).1) / 365).toNat = V := ⟨_, rfl⟩
        have HV := Lib.hid hV
        obtain ⟨d, hd⟩ : ∃ d, (gp l (lastIx l day l.length)).1 = d := ⟨_, rfl⟩
        obtain ⟨r, hr⟩ : ∃ d, (gp l (lastIx l day l.length)).2 = d := ⟨_, rfl⟩
        rw [hd] at p1 hld y0 y1 hV
        rw [hr] at p2 y2 y3 hV
        obtain ⟨q, hq⟩ : ∃ q : Nat, (day - d) / 365 = q := ⟨((day - d) / 365).toNat, by omega⟩
        have hq3 : q ≤ 300 := by omega
        rw [hq, Int.toNat_natCast] at hV
        clear hd hr
        have w5 : IntKind.i64.wrap (day - d) = day - d := IntWalk.i64_in _ (by omega)
        have w6 : (0 : Int) ≤ day - d := by omega
        have HAY : Hid (∀ W, Calls Try.prog 66 #[.int .i64 r, .int .i64 kp, .int .i64 q] W fun e w' => e = .returned (.int .i64 V) ∧ w' = W) := Lib.hid fun W => by
          rw [← hV]
          exact (afterYears_any r kp q W y2 y3 kb0 kb1 hq3).mono fun e w' h => ⟨h.1, h.2.symm⟩
        clear hV
        have g0 : (0 : Int) ≤ (s : Int) := by omega
        have g1 : (s : Int) < 4 := by omega
        go_wp2_with fail
        go_quiet ((go_at_call 66; exact Calls.quiet_of_same (HAY.out _)))
        go_wp2_with fail
        go_ret2
        rw [HV.out]
        exact ⟨rfl, below_drewN hbw _⟩
  · have hc2 : 1 < cap := by omega
    go_enter Try.func41, Try.ntmps41
    go_wp2_with fail
    refine (HH.out _ ((Below.refl _ _).alloc (Nat.le_refl _) _)).mono ?_
    rintro e w1 ⟨rfl, hb1⟩
    have q0 := cell_below c0 (box_below hb1)
    have q1 := cell_below c1 (box_below hb1)
    have HK1 := Lib.hid ((hb1.cell (p := ⟨w.heap.size, s, none⟩) (by simp)).trans (HKC.out w 59))
    have hz1 : w.heap.size < w1.heap.size := by have := hb1.size; simp at this; omega
    obtain ⟨d00, hd00⟩ : ∃ x, (gp l 0).1 = x := ⟨_, rfl⟩
    obtain ⟨r00, hr00⟩ : ∃ x, (gp l 0).2 = x := ⟨_, rfl⟩
    have HG0 := Lib.hid (And.intro hd00 hr00)
    rw [hd00] at q0 HB hd0 m00 m01
    rw [hr00] at q1 m02 m03
    clear hd00 hr00
    have hbw1 : blk < w1.heap.size := block_lt q0
    go_wp2_with (go_at_call 55; refine (between_any _ _ _ _).mono ?_; rintro e w' ⟨rfl, rfl⟩; rw [HB.out])
    have HR0 : Hid (LastS w (w1.alloc (.cells #[.int .i64 d00, .int .i64 r00] 95)) w1.heap.size s kp (gp l (lastIx l day 1)).1 (gp l (lastIx l day 1)).2) := Lib.hid (by
      rw [HL0.out, HG0.out.1, HG0.out.2]
      exact ⟨(box_below hb1).alloc (by omega) _, hz1, by simp, by rw [((Below.refl w1.heap.size w1).alloc (Nat.le_refl _) _).cell (p := ⟨w.heap.size, s, none⟩) hz1]; exact HK1.out, by simp [go_sem], by simp [go_sem], by simp [go_sem], by simp [go_sem]⟩)
    have HCl : Hid (∀ k, k + 1 < l.length → w.cell? ⟨blk, off + 2 + k * 2, none⟩ = some (.int .i64 (gp l (k + 1)).1) ∧ w.cell? ⟨blk, off + 2 + k * 2 + 1, none⟩ = some (.int .i64 (gp l (k + 1)).2)) := Lib.hid fun k hk => by
      have := HC.out (k + 1) hk
      rwa [show off + (k + 1) * 2 = off + 2 + k * 2 from by omega] at this
    clear q0 q1 HH HK1 HKC HL0 HG0 HC hz1 hb1 c0 c1
    generalize w1.heap.size = B at *
    go_loopw [33] (fun i wr => ∃ k : Nat, k + 1 ≤ l.length ∧ i = .int .i64 k ∧ Hid (LastS w wr B s kp (gp l (lastIx l day (k + 1))).1 (gp l (lastIx l day (k + 1))).2)) (fun i _ => l.length - (intOf i).toNat)
    case atStart => exact ⟨0, n0, rfl, HR0⟩
    case round =>
      obtain ⟨k, hk, rfl, HA⟩ := hrel
      by_cases hlt : k < l.length - 1
      · obtain ⟨e0, e1⟩ := HCl.out k (by omega)
        have hbw := HA.out.1
        have e0 := cell_below e0 hbw
        have e1 := cell_below e1 hbw
        have hbl := block_lt e0
        have hBl := HA.out.2.2.1
        have hwB := HA.out.2.1
        have hp1 := HA.out.2.2.2.2.1
        have hp2 := HA.out.2.2.2.2.2.1
        have hBne : wr.heap.size ≠ B := by omega
        have hfr0 := HA.out.2.2.2.2.2.2.1
        have hfr1 := HA.out.2.2.2.2.2.2.2
        obtain ⟨y0, y1, y2, y3⟩ := mes_day HMk.out (show k + 1 < l.length by omega)
        have HS1 : Hid ((gp l (k + 1)).1 ≤ day → lastIx l day (k + 1 + 1) = k + 1) := Lib.hid fun h => by rw [lastIx, if_pos h]
        have HS2 : Hid (¬ (gp l (k + 1)).1 ≤ day → lastIx l day (k + 1 + 1) = lastIx l day (k + 1)) := Lib.hid fun h => by rw [lastIx, if_neg h]
        have HG : Hid (∀ d r, (gp l (k + 1)).1 = d → (gp l (k + 1)).2 = r → True) := Lib.hid fun _ _ _ _ => trivial
        obtain ⟨x, hx⟩ : ∃ x, (gp l (k + 1)).1 = x := ⟨_, rfl⟩
        obtain ⟨y, hy⟩ : ∃ y, (gp l (k + 1)).2 = y := ⟨_, rfl⟩
        have HX := Lib.hid (And.intro hx hy)
        rw [hx] at e0 y0 y1 HS1 HS2
        rw [hy] at e1 y2 y3
        clear hx hy HG
        by_cases hle : x ≤ day
        · have HS := Lib.hid (HS1.out hle)
          go_wp2_with fail
          go_roundw
          case rel =>
            refine ⟨k + 1, by omega, by go_num, Lib.hid ?_⟩
            rw [HS.out, HX.out.1, HX.out.2]
            exact (HA.out.store x y).alloc _
          case measure => simp [intOf]; omega
        · have HS := Lib.hid (HS2.out hle)
          go_wp2_with fail
          go_roundw
          case rel =>
            refine ⟨k + 1, by omega, by go_num, Lib.hid ?_⟩
            rw [HS.out]
            exact HA.out.alloc _
          case measure => simp [intOf]; omega
      · obtain rfl : k = l.length - 1 := by omega
        have HA2 := Lib.hid HA.out
        rw [show l.length - 1 + 1 = l.length from by omega] at HA2
        obtain ⟨hbw, hwB, hBl, p0, p1, p2, _, _⟩ := HA2.out
        have hix := lastIx_bd HMk.out (day := day) (Nat.le_refl l.length)
        have hld : (gp l (lastIx l day l.length)).1 ≤ day := lastIx_le l day (by have := HD0.out; omega) _
        obtain ⟨y0, y1, y2, y3⟩ := mes_day HMk.out hix
        clear HA HA2 HCl HMk HR0
        obtain ⟨V, hV⟩ : ∃ V, agV (gp l (lastIx l day l.length)).2 kp ((day - (gp l (lastIx l day l.length)).1) / 365).toNat = V := ⟨_, rfl⟩
        have HV := Lib.hid hV
        obtain ⟨d, hd⟩ : ∃ d, (gp l (lastIx l day l.length)).1 = d := ⟨_, rfl⟩
        obtain ⟨r, hr⟩ : ∃ d, (gp l (lastIx l day l.length)).2 = d := ⟨_, rfl⟩
        rw [hd] at p1 hld y0 y1 hV
        rw [hr] at p2 y2 y3 hV
        obtain ⟨q, hq⟩ : ∃ q : Nat, (day - d) / 365 = q := ⟨((day - d) / 365).toNat, by omega⟩
        have hq3 : q ≤ 300 := by omega
        rw [hq, Int.toNat_natCast] at hV
        clear hd hr
        have w5 : IntKind.i64.wrap (day - d) = day - d := IntWalk.i64_in _ (by omega)
        have w6 : (0 : Int) ≤ day - d := by omega
        have HAY : Hid (∀ W, Calls Try.prog 66 #[.int .i64 r, .int .i64 kp, .int .i64 q] W fun e w' => e = .returned (.int .i64 V) ∧ w' = W) := Lib.hid fun W => by
          rw [← hV]
          exact (afterYears_any r kp q W y2 y3 kb0 kb1 hq3).mono fun e w' h => ⟨h.1, h.2.symm⟩
        clear hV
        have g0 : (0 : Int) ≤ (s : Int) := by omega
        have g1 : (s : Int) < 4 := by omega
        go_wp2_with fail
        go_quiet ((go_at_call 66; exact Calls.quiet_of_same (HAY.out _)))
        go_wp2_with fail
        go_ret2
        rw [HV.out]
        exact ⟨rfl, below_drewN hbw _⟩
set_option maxRecDepth 100000 in
set_option maxHeartbeats 4000000 in
theorem refValue_any (z0 z1 z2 z3 : Int) (s : Nat) (day : Int) (a : Option Addr) (l : List (Int × Int)) (cap : Nat) (w : World) (hP : PairsS w a l) (hday : I64 day) (hb : hisB z0 z1 z2 z3 s l = true) (hd : btw day (gp l 0).1 100000 = true) :
    Calls Try.prog 42 #[.agg #[.int .i64 z0, .int .i64 z1, .int .i64 z2, .int .i64 z3], .int .i64 s, .slice a l.length cap, .int .i64 day] w fun e w' => e = .returned (.tuple #[.int .i64 (agV (gp l (lastIx l day l.length)).2 (keepOf z0 z1 z2 z3 s) ((day - (gp l (lastIx l day l.length)).1) / 365).toNat), .int .i64 0]) ∧ Below w.heap.size w w' := by
  have HH : Hid (∀ W, Below w.heap.size w W → Calls Try.prog 53 #[.agg #[.int .i64 z0, .int .i64 z1, .int .i64 z2, .int .i64 z3], .int .i64 s, .slice a l.length cap] W fun e w' => e = .returned (.bool true) ∧ Below W.heap.size W w') := Lib.hid fun W hW => by rw [← hb]; exact refMeasures_any z0 z1 z2 z3 s a l cap W (hP.below hW)
  have HB := Lib.hid hd
  obtain ⟨hd0, hd1⟩ := (btw_iff _ _ _).1 hd
  have hM := (hisB_iff.1 hb).2.2.2.2.2
  have hs := (hisB_iff.1 hb).2.2.2.2.1
  have hkb := keep_bd hb
  obtain ⟨hlen, hbd, blk, off, hadr, hc⟩ := hP
  have n0 := hM.1
  have n1 := hM.2.1
  obtain rfl := hadr (fun h => by rw [h] at n0; simp at n0)
  obtain ⟨c0, c1⟩ := hc 0 (by omega)
  have m0 := mes_day hM (show 0 < l.length by omega)
  have hb0 := block_lt c0
  rw [show off + 0 * 2 = off from by omega] at c0 c1
  have HC := Lib.hid hc
  have HMk := Lib.hid hM
  have hs3 : s ≤ 3 := by omega
  have HKC := Lib.hid (keep_cell (z0 := z0) (z1 := z1) (z2 := z2) (z3 := z3) hs3)
  obtain ⟨kb0, kb1⟩ := hkb
  obtain ⟨m00, m01, m02, m03⟩ := m0
  have HD0 := Lib.hid hd0
  have HL0 : Hid (lastIx l day 0 = 0) := Lib.hid rfl
  obtain ⟨dy0, dy1⟩ := hday
  clear hc hbd hadr hb hd hs hM
  generalize keepOf z0 z1 z2 z3 s = kp at *
  go_enter Try.func42, Try.ntmps42
  go_wp2_with fail
  refine (HH.out _ ((Below.refl _ _).alloc (Nat.le_refl _) _)).mono ?_
  rintro e w1 ⟨rfl, hb1⟩
  have q0 := cell_below c0 (box_below hb1)
  have q1 := cell_below c1 (box_below hb1)
  have HK1 := Lib.hid ((hb1.cell (p := ⟨w.heap.size, s, none⟩) (by simp)).trans (HKC.out w 59))
  have hz1 : w.heap.size < w1.heap.size := by have := hb1.size; simp at this; omega
  obtain ⟨d00, hd00⟩ : ∃ x, (gp l 0).1 = x := ⟨_, rfl⟩
  obtain ⟨r00, hr00⟩ : ∃ x, (gp l 0).2 = x := ⟨_, rfl⟩
  have HG0 := Lib.hid (And.intro hd00 hr00)
  rw [hd00] at q0 HB hd0 m00 m01
  rw [hr00] at q1 m02 m03
  clear hd00 hr00
  have hbw1 : blk < w1.heap.size := block_lt q0
  go_wp2_with (go_at_call 57; refine (within_any _ _ _ _).mono ?_; rintro e w' ⟨rfl, rfl⟩; rw [HB.out])
  have HR0 : Hid (LastS w (w1.alloc (.cells #[.int .i64 d00, .int .i64 r00] 95)) w1.heap.size s kp (gp l (lastIx l day 0)).1 (gp l (lastIx l day 0)).2) := Lib.hid (by
    rw [HL0.out, HG0.out.1, HG0.out.2]
    exact ⟨(box_below hb1).alloc (by omega) _, hz1, by simp, by rw [((Below.refl w1.heap.size w1).alloc (Nat.le_refl _) _).cell (p := ⟨w.heap.size, s, none⟩) hz1]; exact HK1.out, by simp [go_sem], by simp [go_sem], by simp [go_sem], by simp [go_sem]⟩)
  clear q0 q1 HH HK1 HKC HL0 HG0 hz1 hb1 c0 c1
  generalize w1.heap.size = B at *
  go_loopw [11] (fun i wr => ∃ k : Nat, k ≤ l.length ∧ i = .int .i64 k ∧ Hid (LastS w wr B s kp (gp l (lastIx l day k)).1 (gp l (lastIx l day k)).2)) (fun i _ => l.length - (intOf i).toNat)
  case atStart => exact ⟨0, Nat.zero_le _, rfl, HR0⟩
  case round =>
    obtain ⟨k, hk, rfl, HA⟩ := hrel
    by_cases hlt : k < l.length
    · obtain ⟨e0, e1⟩ := HC.out k hlt
      have hbw := HA.out.1
      have e0 := cell_below e0 hbw
      have e1 := cell_below e1 hbw
      have hbl := block_lt e0
      have hBl := HA.out.2.2.1
      have hwB := HA.out.2.1
      have hp1 := HA.out.2.2.2.2.1
      have hp2 := HA.out.2.2.2.2.2.1
      have hBne : wr.heap.size ≠ B := by omega
      have hfr0 := HA.out.2.2.2.2.2.2.1
      have hfr1 := HA.out.2.2.2.2.2.2.2
      obtain ⟨y0, y1, y2, y3⟩ := mes_day HMk.out hlt
      have HS1 : Hid ((gp l k).1 ≤ day → lastIx l day (k + 1) = k) := Lib.hid fun h => by rw [lastIx, if_pos h]
      have HS2 : Hid (¬ (gp l k).1 ≤ day → lastIx l day (k + 1) = lastIx l day k) := Lib.hid fun h => by rw [lastIx, if_neg h]
      have HG : Hid (∀ d r, (gp l k).1 = d → (gp l k).2 = r → True) := Lib.hid fun _ _ _ _ => trivial
      obtain ⟨x, hx⟩ : ∃ x, (gp l k).1 = x := ⟨_, rfl⟩
      obtain ⟨y, hy⟩ : ∃ y, (gp l k).2 = y := ⟨_, rfl⟩
      have HX := Lib.hid (And.intro hx hy)
      rw [hx] at e0 y0 y1 HS1 HS2
      rw [hy] at e1 y2 y3
      clear hx hy HG
      by_cases hle : x ≤ day
      · have HS := Lib.hid (HS1.out hle)
        go_wp2_with fail
        go_roundw
        case rel =>
          refine ⟨k + 1, by omega, by go_num, Lib.hid ?_⟩
          rw [HS.out, HX.out.1, HX.out.2]
          exact HA.out.store x y
        case measure => simp [intOf]; omega
      · have HS := Lib.hid (HS2.out hle)
        go_wp2_with fail
        go_roundw
        case rel =>
          refine ⟨k + 1, by omega, by go_num, Lib.hid ?_⟩
          rw [HS.out]
          exact HA.out
        case measure => simp [intOf]; omega
    · obtain rfl : k = l.length := by omega
      have HA2 := Lib.hid HA.out
      obtain ⟨hbw, hwB, hBl, p0, p1, p2, _, _⟩ := HA2.out
      have hix := lastIx_bd HMk.out (day := day) (Nat.le_refl l.length)
      have hld : (gp l (lastIx l day l.length)).1 ≤ day := lastIx_le l day (by have := HD0.out; omega) _
      obtain ⟨y0, y1, y2, y3⟩ := mes_day HMk.out hix
      clear HA HA2 HC HMk HR0
      obtain ⟨V, hV⟩ : ∃ V, agV (gp l (lastIx l day l.length)).2 kp ((day - (gp l (lastIx l day l.length)).1) / 365).toNat = V := ⟨_, rfl⟩
      have HV := Lib.hid hV
      obtain ⟨d, hd⟩ : ∃ d, (gp l (lastIx l day l.length)).1 = d := ⟨_, rfl⟩
      obtain ⟨r, hr⟩ : ∃ d, (gp l (lastIx l day l.length)).2 = d := ⟨_, rfl⟩
      rw [hd] at p1 hld y0 y1 hV
      rw [hr] at p2 y2 y3 hV
      obtain ⟨q, hq⟩ : ∃ q : Nat, (day - d) / 365 = q := ⟨((day - d) / 365).toNat, by omega⟩
      have hq3 : q ≤ 300 := by omega
      rw [hq, Int.toNat_natCast] at hV
      clear hd hr
      have w5 : IntKind.i64.wrap (day - d) = day - d := IntWalk.i64_in _ (by omega)
      have w6 : (0 : Int) ≤ day - d := by omega
      have HAY : Hid (∀ W, Calls Try.prog 40 #[.int .i64 r, .int .i64 kp, .int .i64 q] W fun e w' => e = .returned (.tuple #[.int .i64 V, .int .i64 0]) ∧ w' = W) := Lib.hid fun W => by
        rw [← hV]
        have hag : agedB r kp q = true := (agedB_iff _ _ _).2 ⟨⟨y2, y3⟩, ⟨kb0, kb1⟩, by omega, by omega⟩
        rw [show agV r kp q = agedV r kp q from by unfold agedV; rw [if_pos hag, Int.toNat_natCast], show (0 : Int) = agedE r kp q from by unfold agedE; rw [if_pos hag]]
        exact (refAged_any r kp q W).mono fun e w' h => ⟨h.1, h.2.symm⟩
      clear hV
      have g0 : (0 : Int) ≤ (s : Int) := by omega
      have g1 : (s : Int) < 4 := by omega
      go_wp2_with fail
      go_quiet ((go_at_call 40; exact Calls.quiet_of_same (HAY.out _)))
      go_wp2_with fail
      go_ret2
      rw [HV.out]
      exact ⟨rfl, below_drewN hbw _⟩

set_option maxRecDepth 100000 in
set_option maxHeartbeats 2000000 in
theorem value_no (z0 z1 z2 z3 side day : Int) (a : Option Addr) (l : List (Int × Int)) (cap : Nat) (w : World) (hP : PairsS w a l) (hday : I64 day) (hb : valB z0 z1 z2 z3 side l day = false) :
    Calls Try.prog 41 #[.agg #[.int .i64 z0, .int .i64 z1, .int .i64 z2, .int .i64 z3], .int .i64 side, .slice a l.length cap, .int .i64 day] w fun e w' => e = .returned (.tuple #[.int .i64 0, .int .i64 2]) ∧ Below w.heap.size w w' := by
  have HH : Hid (∀ W, Below w.heap.size w W → Calls Try.prog 69 #[.agg #[.int .i64 z0, .int .i64 z1, .int .i64 z2, .int .i64 z3], .int .i64 side, .slice a l.length cap] W fun e w' => e = .returned (.bool (hisB z0 z1 z2 z3 side l)) ∧ Below W.heap.size W w') := Lib.hid fun W hW => historyValid_any z0 z1 z2 z3 side a l cap W (hP.below hW)
  unfold valB at hb
  by_cases h : hisB z0 z1 z2 z3 side l = true
  · rw [h] at hb HH
    have hb : btw day (gp l 0).1 100000 = false := by simpa using hb
    have HB := Lib.hid hb
    have n0 := (hisB_iff.1 h).2.2.2.2.2.1
    obtain ⟨hlen, hbd, blk, off, hadr, hc⟩ := hP
    obtain rfl := hadr (fun h => by rw [h] at n0; simp at n0)
    obtain ⟨c0, c1⟩ := hc 0 (by omega)
    rw [show off + 0 * 2 = off from by omega] at c0 c1
    have b0 := (hbd 0 (by omega)).1
    obtain ⟨b00, b01⟩ := b0
    clear hc hbd hadr h hb
    generalize (gp l 0).1 = d at *
    go_enter Try.func41, Try.ntmps41
    go_wp2_with fail
    refine (HH.out _ ((Below.refl _ _).alloc (Nat.le_refl _) _)).mono ?_
    rintro e w1 ⟨rfl, hb1⟩
    have q0 := cell_below c0 (box_below hb1)
    go_wp2_with (go_at_call 55; refine (between_any _ _ _ _).mono ?_; rintro e w' ⟨rfl, rfl⟩; rw [HB.out])
    go_ret2
    exact ⟨rfl, box_below hb1⟩
  · have h : hisB z0 z1 z2 z3 side l = false := by simpa using h
    rw [h] at HH
    clear hP h hb
    go_enter Try.func41, Try.ntmps41
    go_wp2_with fail
    refine (HH.out _ ((Below.refl _ _).alloc (Nat.le_refl _) _)).mono ?_
    rintro e w1 ⟨rfl, hb1⟩
    go_wp2_with fail
    go_ret2
    exact ⟨rfl, box_below hb1⟩

set_option maxRecDepth 100000 in
set_option maxHeartbeats 2000000 in
theorem refValue_no (z0 z1 z2 z3 side day : Int) (a : Option Addr) (l : List (Int × Int)) (cap : Nat) (w : World) (hP : PairsS w a l) (hday : I64 day) (hb : valB z0 z1 z2 z3 side l day = false) :
    Calls Try.prog 42 #[.agg #[.int .i64 z0, .int .i64 z1, .int .i64 z2, .int .i64 z3], .int .i64 side, .slice a l.length cap, .int .i64 day] w fun e w' => e = .returned (.tuple #[.int .i64 0, .int .i64 2]) ∧ Below w.heap.size w w' := by
  have HH : Hid (∀ W, Below w.heap.size w W → Calls Try.prog 53 #[.agg #[.int .i64 z0, .int .i64 z1, .int .i64 z2, .int .i64 z3], .int .i64 side, .slice a l.length cap] W fun e w' => e = .returned (.bool (hisB z0 z1 z2 z3 side l)) ∧ Below W.heap.size W w') := Lib.hid fun W hW => refMeasures_any z0 z1 z2 z3 side a l cap W (hP.below hW)
  unfold valB at hb
  by_cases h : hisB z0 z1 z2 z3 side l = true
  · rw [h] at hb HH
    have hb : btw day (gp l 0).1 100000 = false := by simpa using hb
    have HB := Lib.hid hb
    have n0 := (hisB_iff.1 h).2.2.2.2.2.1
    obtain ⟨hlen, hbd, blk, off, hadr, hc⟩ := hP
    obtain rfl := hadr (fun h => by rw [h] at n0; simp at n0)
    obtain ⟨c0, c1⟩ := hc 0 (by omega)
    rw [show off + 0 * 2 = off from by omega] at c0 c1
    have b0 := (hbd 0 (by omega)).1
    obtain ⟨b00, b01⟩ := b0
    clear hc hbd hadr h hb
    generalize (gp l 0).1 = d at *
    go_enter Try.func42, Try.ntmps42
    go_wp2_with fail
    refine (HH.out _ ((Below.refl _ _).alloc (Nat.le_refl _) _)).mono ?_
    rintro e w1 ⟨rfl, hb1⟩
    have q0 := cell_below c0 (box_below hb1)
    go_wp2_with (go_at_call 57; refine (within_any _ _ _ _).mono ?_; rintro e w' ⟨rfl, rfl⟩; rw [HB.out])
    go_ret2
    exact ⟨rfl, box_below hb1⟩
  · have h : hisB z0 z1 z2 z3 side l = false := by simpa using h
    rw [h] at HH
    clear hP h hb
    go_enter Try.func42, Try.ntmps42
    go_wp2_with fail
    refine (HH.out _ ((Below.refl _ _).alloc (Nat.le_refl _) _)).mono ?_
    rintro e w1 ⟨rfl, hb1⟩
    go_wp2_with fail
    go_ret2
    exact ⟨rfl, box_below hb1⟩

theorem Value_any (z0 z1 z2 z3 side day : Int) (a : Option Addr) (l : List (Int × Int)) (cap : Nat) (w : World) (hP : PairsS w a l) (hcap : l.length ≤ cap) (hday : I64 day) :
    Calls Try.prog 41 #[.agg #[.int .i64 z0, .int .i64 z1, .int .i64 z2, .int .i64 z3], .int .i64 side, .slice a l.length cap, .int .i64 day] w fun e w' => e = .returned (.tuple #[.int .i64 (valV z0 z1 z2 z3 side l day), .int .i64 (valE z0 z1 z2 z3 side l day)]) ∧ Below w.heap.size w w' := by
  by_cases h : valB z0 z1 z2 z3 side l day = true
  · have e1 : valE z0 z1 z2 z3 side l day = 0 := by unfold valE; rw [if_pos h]
    have e2 : valV z0 z1 z2 z3 side l day = agV (gp l (lastIx l day l.length)).2 (keepOf z0 z1 z2 z3 side) ((day - (gp l (lastIx l day l.length)).1) / 365).toNat := by unfold valV; rw [if_pos h]
    rw [e1, e2]
    unfold valB at h
    rw [Bool.and_eq_true] at h
    have hs := (hisB_iff.1 h.1).2.2.2.2.1
    obtain ⟨s, rfl⟩ : ∃ s : Nat, side = s := ⟨side.toNat, by omega⟩
    exact value_any z0 z1 z2 z3 s day a l cap w hP hcap hday h.1 h.2
  · have h : valB z0 z1 z2 z3 side l day = false := by simpa using h
    have e1 : valE z0 z1 z2 z3 side l day = 2 := by unfold valE; rw [h]; rfl
    have e2 : valV z0 z1 z2 z3 side l day = 0 := by unfold valV; rw [h]; rfl
    rw [e1, e2]
    exact value_no z0 z1 z2 z3 side day a l cap w hP hday h

theorem RefValue_any (z0 z1 z2 z3 side day : Int) (a : Option Addr) (l : List (Int × Int)) (cap : Nat) (w : World) (hP : PairsS w a l) (hcap : l.length ≤ cap) (hday : I64 day) :
    Calls Try.prog 42 #[.agg #[.int .i64 z0, .int .i64 z1, .int .i64 z2, .int .i64 z3], .int .i64 side, .slice a l.length cap, .int .i64 day] w fun e w' => e = .returned (.tuple #[.int .i64 (valV z0 z1 z2 z3 side l day), .int .i64 (valE z0 z1 z2 z3 side l day)]) ∧ Below w.heap.size w w' := by
  by_cases h : valB z0 z1 z2 z3 side l day = true
  · have e1 : valE z0 z1 z2 z3 side l day = 0 := by unfold valE; rw [if_pos h]
    have e2 : valV z0 z1 z2 z3 side l day = agV (gp l (lastIx l day l.length)).2 (keepOf z0 z1 z2 z3 side) ((day - (gp l (lastIx l day l.length)).1) / 365).toNat := by unfold valV; rw [if_pos h]
    rw [e1, e2]
    unfold valB at h
    rw [Bool.and_eq_true] at h
    have hs := (hisB_iff.1 h.1).2.2.2.2.1
    obtain ⟨s, rfl⟩ : ∃ s : Nat, side = s := ⟨side.toNat, by omega⟩
    exact refValue_any z0 z1 z2 z3 s day a l cap w hP hday h.1 h.2
  · have h : valB z0 z1 z2 z3 side l day = false := by simpa using h
    have e1 : valE z0 z1 z2 z3 side l day = 2 := by unfold valE; rw [h]; rfl
    have e2 : valV z0 z1 z2 z3 side l day = 0 := by unfold valV; rw [h]; rfl
    rw [e1, e2]
    exact refValue_no z0 z1 z2 z3 side day a l cap w hP hday h
end Go.Proofs.Ytanmelbkhojfoaa
