/-
  The order of a row of package rule. By an AI agent.
-/
import Derived.Test.YtiagflackfkmnaaGreatRuP
import Derived.Deep.RegionHeld3
import Derived.BigQuiet
import Derived.BigRegion
import Derived.Shelf.SlSortCmp.WholeK
import Derived.Lib.AppendIntMem
namespace Go.Proofs.YtiagflackfkmnaaGreat
set_option linter.unusedVariables false
set_option linter.unusedSimpArgs false
open Go.RowKit

/-- Draws and blocks behind a world. -/
def GrownW (W w : World) : Prop := ∃ q os, w = Sort.grow (W.drewN q) os
theorem GrownW.refl (W : World) : GrownW W W := ⟨0, #[], by rw [grow_none]; rfl⟩
theorem GrownW.trans {A B C : World} (h1 : GrownW A B) (h2 : GrownW B C) : GrownW A C := by
  obtain ⟨q, os, rfl⟩ := h1
  obtain ⟨q', os', rfl⟩ := h2
  exact ⟨q + q', os ++ os', by simp [Sort.grow, World.drewN, Array.append_assoc, Nat.add_assoc]⟩
theorem GrownW.one (W : World) (o : Obj) : GrownW W (W.alloc o) := ⟨0, #[o], by rw [Sort.alloc_eq_grow]; rfl⟩
theorem GrownW.alloc {A B : World} (h : GrownW A B) (o : Obj) : GrownW A (B.alloc o) := h.trans (.one B o)
theorem GrownW.drew {A B : World} (h : GrownW A B) : GrownW A B.drew := h.trans ⟨1, #[], by rw [grow_none]; rfl⟩
theorem GrownW.below {A B : World} (h : GrownW A B) : Below A.heap.size A B := by
  obtain ⟨q, os, rfl⟩ := h
  exact Lib.below_grow _ _ (Nat.le_refl _) q os
theorem GrownW.of_eq {A B : World} {o : Obj} (h : B = A.alloc o) : GrownW A B := by subst h; exact .one A o
theorem isNaN_r (a : Int) (w : World) : Calls Tryz.prog 133 #[.int .i64 a] w fun e w' => e = .returned (.bool false) ∧ w' = w := by
  go_enter Tryz.func133, Tryz.ntmps133
  go_wp2
  go_ret
  exact ⟨rfl, rfl⟩
theorem compare_r (a b : Int) (w : World) : Calls Tryz.prog 103 #[.int .i64 a, .int .i64 b] w fun e w' => e = .returned (.int .i64 (Lib.compareInt a b)) ∧ w' = w := by
  unfold Lib.compareInt
  by_cases h1 : a < b
  · rw [if_pos h1]
    go_enter Tryz.func103, Tryz.ntmps103
    go_wp2_with (go_at_call 133; refine (isNaN_r _ _).mono ?_; rintro e w' ⟨rfl, rfl⟩)
    go_ret
    exact ⟨rfl, rfl⟩
  · by_cases h2 : b < a
    · rw [if_neg h1, if_pos h2]
      go_enter Tryz.func103, Tryz.ntmps103
      go_wp2_with (go_at_call 133; refine (isNaN_r _ _).mono ?_; rintro e w' ⟨rfl, rfl⟩)
      go_ret
      exact ⟨rfl, rfl⟩
    · rw [if_neg h1, if_neg (by omega)]
      go_enter Tryz.func103, Tryz.ntmps103
      go_wp2_with (go_at_call 133; refine (isNaN_r _ _).mono ?_; rintro e w' ⟨rfl, rfl⟩)
      go_ret
      exact ⟨rfl, rfl⟩
theorem row1_r (p : Pst) (ad : Option Addr) (cp : Nat) (w : World) :
    Calls Tryz.prog 84 #[.agg #[.int .i64 p.s.n, .int .i64 p.s.k, .int .i64 p.s.v, .int .i64 p.s.c, .int .i64 p.s.d, .int .i64 p.s.rk, .int .i64 p.s.up, .int .i64 p.s.dn, .slice ad p.s.cv.length cp, .int .i64 p.d, .int .i64 p.u, .bool p.b]] w fun e w' => e = .returned (.int .i64 p.d) ∧ w' = w.alloc (.cells #[.int .i64 p.s.n, .int .i64 p.s.k, .int .i64 p.s.v, .int .i64 p.s.c, .int .i64 p.s.d, .int .i64 p.s.rk, .int .i64 p.s.up, .int .i64 p.s.dn, .slice ad p.s.cv.length cp, .int .i64 p.d, .int .i64 p.u, .bool p.b] 82) := by
  go_enter Tryz.func84, Tryz.ntmps84
  go_wp2_with fail
  go_ret
  exact ⟨rfl, rfl⟩
theorem row2_r (p : Pst) (ad : Option Addr) (cp : Nat) (w : World) :
    Calls Tryz.prog 85 #[.agg #[.int .i64 p.s.n, .int .i64 p.s.k, .int .i64 p.s.v, .int .i64 p.s.c, .int .i64 p.s.d, .int .i64 p.s.rk, .int .i64 p.s.up, .int .i64 p.s.dn, .slice ad p.s.cv.length cp, .int .i64 p.d, .int .i64 p.u, .bool p.b]] w fun e w' => e = .returned (.int .i64 p.s.rk) ∧ w' = w.alloc (.cells #[.int .i64 p.s.n, .int .i64 p.s.k, .int .i64 p.s.v, .int .i64 p.s.c, .int .i64 p.s.d, .int .i64 p.s.rk, .int .i64 p.s.up, .int .i64 p.s.dn, .slice ad p.s.cv.length cp, .int .i64 p.d, .int .i64 p.u, .bool p.b] 82) := by
  go_enter Tryz.func85, Tryz.ntmps85
  go_wp2_with fail
  go_ret
  exact ⟨rfl, rfl⟩
theorem row3_r (p : Pst) (ad : Option Addr) (cp : Nat) (w : World) :
    Calls Tryz.prog 86 #[.agg #[.int .i64 p.s.n, .int .i64 p.s.k, .int .i64 p.s.v, .int .i64 p.s.c, .int .i64 p.s.d, .int .i64 p.s.rk, .int .i64 p.s.up, .int .i64 p.s.dn, .slice ad p.s.cv.length cp, .int .i64 p.d, .int .i64 p.u, .bool p.b]] w fun e w' => e = .returned (.int .i64 p.s.n) ∧ w' = w.alloc (.cells #[.int .i64 p.s.n, .int .i64 p.s.k, .int .i64 p.s.v, .int .i64 p.s.c, .int .i64 p.s.d, .int .i64 p.s.rk, .int .i64 p.s.up, .int .i64 p.s.dn, .slice ad p.s.cv.length cp, .int .i64 p.d, .int .i64 p.u, .bool p.b] 82) := by
  go_enter Tryz.func86, Tryz.ntmps86
  go_wp2_with fail
  go_ret
  exact ⟨rfl, rfl⟩
/-- Which of two signs comes first. -/
def cmpP (p q : Pst) : Int := if Lib.compareInt p.d q.d ≠ 0 then Lib.compareInt p.d q.d else if Lib.compareInt p.s.rk q.s.rk ≠ 0 then Lib.compareInt p.s.rk q.s.rk else Lib.compareInt p.s.n q.s.n
set_option maxRecDepth 100000 in
set_option maxHeartbeats 4000000 in
theorem by_r (p q : Pst) (ad aq : Option Addr) (cp cq B Fb : Nat) (w : World) (cB : w.cell? ⟨B, 0, none⟩ = some (.slice (some ⟨Fb, 0, none⟩) 3 3))
    (f0 : w.cell? ⟨Fb, 0, none⟩ = some (.func (.func 84) #[] #[])) (f1 : w.cell? ⟨Fb, 1, none⟩ = some (.func (.func 85) #[] #[])) (f2 : w.cell? ⟨Fb, 2, none⟩ = some (.func (.func 86) #[] #[])) :
    Calls Tryz.prog 120 #[.agg #[.int .i64 p.s.n, .int .i64 p.s.k, .int .i64 p.s.v, .int .i64 p.s.c, .int .i64 p.s.d, .int .i64 p.s.rk, .int .i64 p.s.up, .int .i64 p.s.dn, .slice ad p.s.cv.length cp, .int .i64 p.d, .int .i64 p.u, .bool p.b], .agg #[.int .i64 q.s.n, .int .i64 q.s.k, .int .i64 q.s.v, .int .i64 q.s.c, .int .i64 q.s.d, .int .i64 q.s.rk, .int .i64 q.s.up, .int .i64 q.s.dn, .slice aq q.s.cv.length cq, .int .i64 q.d, .int .i64 q.u, .bool q.b], .pointer (some ⟨B, 0, none⟩)] w fun e w' => e = .returned (.int .i64 (cmpP p q)) ∧ GrownW w w' := by
  have HC0 := Lib.hid (fun W => compare_r p.d q.d W)
  have HC1 := Lib.hid (fun W => compare_r p.s.rk q.s.rk W)
  have HC2 := Lib.hid (fun W => compare_r p.s.n q.s.n W)
  have HV : Hid (cmpP p q = if Lib.compareInt p.d q.d ≠ 0 then Lib.compareInt p.d q.d else if Lib.compareInt p.s.rk q.s.rk ≠ 0 then Lib.compareInt p.s.rk q.s.rk else Lib.compareInt p.s.n q.s.n) := Lib.hid rfl
  generalize Lib.compareInt p.d q.d = r0 at *
  generalize Lib.compareInt p.s.rk q.s.rk = r1 at *
  generalize Lib.compareInt p.s.n q.s.n = r2 at *
  have kk : ∀ (o : Nat) (v : Value) (b : Nat), w.cell? ⟨b, o, none⟩ = some v → ∀ c t c' t', ((w.alloc (.cells c t)).alloc (.cells c' t')).cell? ⟨b, o, none⟩ = some v := fun o v b h c t c' t' => cell_below h (((GrownW.refl w).alloc _).alloc _).below
  have kB := kk _ _ _ cB
  clear kk
  go_enter Tryz.func120, Tryz.ntmps120
  go_wp2_with fail
  obtain ⟨wB, hwB⟩ : ∃ wB, (w.alloc (.cells #[.int .i64 p.s.n, .int .i64 p.s.k, .int .i64 p.s.v, .int .i64 p.s.c, .int .i64 p.s.d, .int .i64 p.s.rk, .int .i64 p.s.up, .int .i64 p.s.dn, .slice ad p.s.cv.length cp, .int .i64 p.d, .int .i64 p.u, .bool p.b] 82)).alloc (.cells #[.int .i64 q.s.n, .int .i64 q.s.k, .int .i64 q.s.v, .int .i64 q.s.c, .int .i64 q.s.d, .int .i64 q.s.rk, .int .i64 q.s.up, .int .i64 q.s.dn, .slice aq q.s.cv.length cq, .int .i64 q.d, .int .i64 q.u, .bool q.b] 82) = wB := ⟨_, rfl⟩
  have hG : GrownW w wB := by rw [← hwB]; exact ((GrownW.refl w).alloc _).alloc _
  have hzB : w.heap.size + 1 < wB.heap.size := by rw [← hwB]; simp
  have cB := cell_below cB hG.below
  have f0 := cell_below f0 hG.below
  have f1 := cell_below f1 hG.below
  have f2 := cell_below f2 hG.below
  have s0 : wB.cell? ⟨w.heap.size, 0, none⟩ = some (.int .i64 p.s.n) := by rw [← hwB]; simp [go_sem]
  have s1 : wB.cell? ⟨w.heap.size, 1, none⟩ = some (.int .i64 p.s.k) := by rw [← hwB]; simp [go_sem]
  have s2 : wB.cell? ⟨w.heap.size, 2, none⟩ = some (.int .i64 p.s.v) := by rw [← hwB]; simp [go_sem]
  have s3 : wB.cell? ⟨w.heap.size, 3, none⟩ = some (.int .i64 p.s.c) := by rw [← hwB]; simp [go_sem]
  have s4 : wB.cell? ⟨w.heap.size, 4, none⟩ = some (.int .i64 p.s.d) := by rw [← hwB]; simp [go_sem]
  have s5 : wB.cell? ⟨w.heap.size, 5, none⟩ = some (.int .i64 p.s.rk) := by rw [← hwB]; simp [go_sem]
  have s6 : wB.cell? ⟨w.heap.size, 6, none⟩ = some (.int .i64 p.s.up) := by rw [← hwB]; simp [go_sem]
  have s7 : wB.cell? ⟨w.heap.size, 7, none⟩ = some (.int .i64 p.s.dn) := by rw [← hwB]; simp [go_sem]
  have s8 : wB.cell? ⟨w.heap.size, 8, none⟩ = some (.slice ad p.s.cv.length cp) := by rw [← hwB]; simp [go_sem]
  have s9 : wB.cell? ⟨w.heap.size, 9, none⟩ = some (.int .i64 p.d) := by rw [← hwB]; simp [go_sem]
  have s10 : wB.cell? ⟨w.heap.size, 10, none⟩ = some (.int .i64 p.u) := by rw [← hwB]; simp [go_sem]
  have s11 : wB.cell? ⟨w.heap.size, 11, none⟩ = some (.bool p.b) := by rw [← hwB]; simp [go_sem]
  have s12 : wB.cell? ⟨w.heap.size + 1, 0, none⟩ = some (.int .i64 q.s.n) := by rw [← hwB]; simp [go_sem]
  have s13 : wB.cell? ⟨w.heap.size + 1, 1, none⟩ = some (.int .i64 q.s.k) := by rw [← hwB]; simp [go_sem]
  have s14 : wB.cell? ⟨w.heap.size + 1, 2, none⟩ = some (.int .i64 q.s.v) := by rw [← hwB]; simp [go_sem]
  have s15 : wB.cell? ⟨w.heap.size + 1, 3, none⟩ = some (.int .i64 q.s.c) := by rw [← hwB]; simp [go_sem]
  have s16 : wB.cell? ⟨w.heap.size + 1, 4, none⟩ = some (.int .i64 q.s.d) := by rw [← hwB]; simp [go_sem]
  have s17 : wB.cell? ⟨w.heap.size + 1, 5, none⟩ = some (.int .i64 q.s.rk) := by rw [← hwB]; simp [go_sem]
  have s18 : wB.cell? ⟨w.heap.size + 1, 6, none⟩ = some (.int .i64 q.s.up) := by rw [← hwB]; simp [go_sem]
  have s19 : wB.cell? ⟨w.heap.size + 1, 7, none⟩ = some (.int .i64 q.s.dn) := by rw [← hwB]; simp [go_sem]
  have s20 : wB.cell? ⟨w.heap.size + 1, 8, none⟩ = some (.slice aq q.s.cv.length cq) := by rw [← hwB]; simp [go_sem]
  have s21 : wB.cell? ⟨w.heap.size + 1, 9, none⟩ = some (.int .i64 q.d) := by rw [← hwB]; simp [go_sem]
  have s22 : wB.cell? ⟨w.heap.size + 1, 10, none⟩ = some (.int .i64 q.u) := by rw [← hwB]; simp [go_sem]
  have s23 : wB.cell? ⟨w.heap.size + 1, 11, none⟩ = some (.bool q.b) := by rw [← hwB]; simp [go_sem]
  rw [hwB]
  clear hwB kB
  go_loopw [11] (fun i wr => ∃ k : Nat, k ≤ 3 ∧ i = .int .i64 k ∧ GrownW wB wr ∧ Hid ((0 < k → r0 = 0) ∧ (1 < k → r1 = 0) ∧ (2 < k → r2 = 0))) (fun i _ => 3 - (intOf i).toNat)
  case atStart => exact ⟨0, by omega, rfl, GrownW.refl _, Lib.hid ⟨fun h => absurd h (by omega), fun h => absurd h (by omega), fun h => absurd h (by omega)⟩⟩
  case round =>
    obtain ⟨k, hk, rfl, hGr, HA⟩ := hrel
    have hGb := hGr.below
    have hGw := hG.trans hGr
    have f0 := cell_below f0 hGb
    have f1 := cell_below f1 hGb
    have f2 := cell_below f2 hGb
    have hzr := Nat.lt_of_lt_of_le hzB hGb.size
    have s0 := cell_below s0 hGb
    have s1 := cell_below s1 hGb
    have s2 := cell_below s2 hGb
    have s3 := cell_below s3 hGb
    have s4 := cell_below s4 hGb
    have s5 := cell_below s5 hGb
    have s6 := cell_below s6 hGb
    have s7 := cell_below s7 hGb
    have s8 := cell_below s8 hGb
    have s9 := cell_below s9 hGb
    have s10 := cell_below s10 hGb
    have s11 := cell_below s11 hGb
    have s12 := cell_below s12 hGb
    have s13 := cell_below s13 hGb
    have s14 := cell_below s14 hGb
    have s15 := cell_below s15 hGb
    have s16 := cell_below s16 hGb
    have s17 := cell_below s17 hGb
    have s18 := cell_below s18 hGb
    have s19 := cell_below s19 hGb
    have s20 := cell_below s20 hGb
    have s21 := cell_below s21 hGb
    have s22 := cell_below s22 hGb
    have s23 := cell_below s23 hGb
    rcases (by omega : k = 0 ∨ k = 1 ∨ k = 2 ∨ k = 3) with rfl | rfl | rfl | rfl
    · go_wp2_with fail
      have hz1 : w.heap.size + 1 < wr.heap.size := hzr
      clear f0 f1 f2 cB hzB hGb
      go_region_held3 (fun w' => w'.cell? ⟨w.heap.size, 0, none⟩ = some (.int .i64 p.s.n) ∧ w'.cell? ⟨w.heap.size, 1, none⟩ = some (.int .i64 p.s.k) ∧ w'.cell? ⟨w.heap.size, 2, none⟩ = some (.int .i64 p.s.v) ∧ w'.cell? ⟨w.heap.size, 3, none⟩ = some (.int .i64 p.s.c) ∧ w'.cell? ⟨w.heap.size, 4, none⟩ = some (.int .i64 p.s.d) ∧ w'.cell? ⟨w.heap.size, 5, none⟩ = some (.int .i64 p.s.rk) ∧ w'.cell? ⟨w.heap.size, 6, none⟩ = some (.int .i64 p.s.up) ∧ w'.cell? ⟨w.heap.size, 7, none⟩ = some (.int .i64 p.s.dn) ∧ w'.cell? ⟨w.heap.size, 8, none⟩ = some (.slice ad p.s.cv.length cp) ∧ w'.cell? ⟨w.heap.size, 9, none⟩ = some (.int .i64 p.d) ∧ w'.cell? ⟨w.heap.size, 10, none⟩ = some (.int .i64 p.u) ∧ w'.cell? ⟨w.heap.size, 11, none⟩ = some (.bool p.b) ∧ w'.cell? ⟨w.heap.size + 1, 0, none⟩ = some (.int .i64 q.s.n) ∧ w'.cell? ⟨w.heap.size + 1, 1, none⟩ = some (.int .i64 q.s.k) ∧ w'.cell? ⟨w.heap.size + 1, 2, none⟩ = some (.int .i64 q.s.v) ∧ w'.cell? ⟨w.heap.size + 1, 3, none⟩ = some (.int .i64 q.s.c) ∧ w'.cell? ⟨w.heap.size + 1, 4, none⟩ = some (.int .i64 q.s.d) ∧ w'.cell? ⟨w.heap.size + 1, 5, none⟩ = some (.int .i64 q.s.rk) ∧ w'.cell? ⟨w.heap.size + 1, 6, none⟩ = some (.int .i64 q.s.up) ∧ w'.cell? ⟨w.heap.size + 1, 7, none⟩ = some (.int .i64 q.s.dn) ∧ w'.cell? ⟨w.heap.size + 1, 8, none⟩ = some (.slice aq q.s.cv.length cq) ∧ w'.cell? ⟨w.heap.size + 1, 9, none⟩ = some (.int .i64 q.d) ∧ w'.cell? ⟨w.heap.size + 1, 10, none⟩ = some (.int .i64 q.u) ∧ w'.cell? ⟨w.heap.size + 1, 11, none⟩ = some (.bool q.b)) (go_keep)
        (first
          | (go_at_call 84
             refine (row1_r _ _ _ _).mono ?_
             rintro e w9 ⟨rfl, h9⟩
             have hG9 := GrownW.of_eq h9
             clear h9
             have hb9 := hG9.below
             have hz0 : w.heap.size < wr.heap.size := by omega
             have hzA := Nat.lt_of_lt_of_le hz1 hb9.size
             have s0 := (hb9.cell (p := ⟨w.heap.size, 0, none⟩) (Nat.lt_of_succ_lt hz1)).trans s0
             have s1 := (hb9.cell (p := ⟨w.heap.size, 1, none⟩) (Nat.lt_of_succ_lt hz1)).trans s1
             have s2 := (hb9.cell (p := ⟨w.heap.size, 2, none⟩) (Nat.lt_of_succ_lt hz1)).trans s2
             have s3 := (hb9.cell (p := ⟨w.heap.size, 3, none⟩) (Nat.lt_of_succ_lt hz1)).trans s3
             have s4 := (hb9.cell (p := ⟨w.heap.size, 4, none⟩) (Nat.lt_of_succ_lt hz1)).trans s4
             have s5 := (hb9.cell (p := ⟨w.heap.size, 5, none⟩) (Nat.lt_of_succ_lt hz1)).trans s5
             have s6 := (hb9.cell (p := ⟨w.heap.size, 6, none⟩) (Nat.lt_of_succ_lt hz1)).trans s6
             have s7 := (hb9.cell (p := ⟨w.heap.size, 7, none⟩) (Nat.lt_of_succ_lt hz1)).trans s7
             have s8 := (hb9.cell (p := ⟨w.heap.size, 8, none⟩) (Nat.lt_of_succ_lt hz1)).trans s8
             have s9 := (hb9.cell (p := ⟨w.heap.size, 9, none⟩) (Nat.lt_of_succ_lt hz1)).trans s9
             have s10 := (hb9.cell (p := ⟨w.heap.size, 10, none⟩) (Nat.lt_of_succ_lt hz1)).trans s10
             have s11 := (hb9.cell (p := ⟨w.heap.size, 11, none⟩) (Nat.lt_of_succ_lt hz1)).trans s11
             have s12 := (hb9.cell (p := ⟨w.heap.size + 1, 0, none⟩) hz1).trans s12
             have s13 := (hb9.cell (p := ⟨w.heap.size + 1, 1, none⟩) hz1).trans s13
             have s14 := (hb9.cell (p := ⟨w.heap.size + 1, 2, none⟩) hz1).trans s14
             have s15 := (hb9.cell (p := ⟨w.heap.size + 1, 3, none⟩) hz1).trans s15
             have s16 := (hb9.cell (p := ⟨w.heap.size + 1, 4, none⟩) hz1).trans s16
             have s17 := (hb9.cell (p := ⟨w.heap.size + 1, 5, none⟩) hz1).trans s17
             have s18 := (hb9.cell (p := ⟨w.heap.size + 1, 6, none⟩) hz1).trans s18
             have s19 := (hb9.cell (p := ⟨w.heap.size + 1, 7, none⟩) hz1).trans s19
             have s20 := (hb9.cell (p := ⟨w.heap.size + 1, 8, none⟩) hz1).trans s20
             have s21 := (hb9.cell (p := ⟨w.heap.size + 1, 9, none⟩) hz1).trans s21
             have s22 := (hb9.cell (p := ⟨w.heap.size + 1, 10, none⟩) hz1).trans s22
             have s23 := (hb9.cell (p := ⟨w.heap.size + 1, 11, none⟩) hz1).trans s23
             have hGr : GrownW wB w9 := by first | exact hGr.trans hG9 | exact hGr.drew.trans hG9
             have hz1 := hzA)
          | (go_at_call 103
             refine (HC0.out _).mono ?_
             rintro e w9 ⟨rfl, rfl⟩))
      all_goals
        by_cases h0 : r0 = 0
        · have HA2 : Hid ((0 < 0+1 → r0 = 0) ∧ (1 < 0+1 → r1 = 0) ∧ (2 < 0+1 → r2 = 0)) := Lib.hid (by
            have := HA.out
            refine ⟨fun h => ?_, fun h => ?_, fun h => ?_⟩ <;> first | exact h0 | exact this.1 (by omega) | exact this.2.1 (by omega) | omega)
          have h0 := Lib.hid h0
          clear HA
          have b0 : (r0 == 0) = true := by rw [h0.out]; rfl
          go_wp2_with fail
          go_roundw
          case rel => exact ⟨0 + 1, by omega, by go_num, by first | exact hGr | exact hGr.drew, HA2⟩
          case measure => simp [intOf]
        · have HR : Hid (cmpP p q = r0) := Lib.hid (by
            have := HA.out
            rw [HV.out]
            rw [if_pos h0])
          have b0 : (r0 == 0) = false := beq_false_of_ne h0
          clear HA HV
          go_wp2_with fail
          go_ret
          exact ⟨by rw [HR.out]; rfl, by first | exact hG.trans hGr | exact hG.trans hGr.drew⟩
    · go_wp2_with fail
      have hz1 : w.heap.size + 1 < wr.heap.size := hzr
      clear f0 f1 f2 cB hzB hGb
      go_region_held3 (fun w' => w'.cell? ⟨w.heap.size, 0, none⟩ = some (.int .i64 p.s.n) ∧ w'.cell? ⟨w.heap.size, 1, none⟩ = some (.int .i64 p.s.k) ∧ w'.cell? ⟨w.heap.size, 2, none⟩ = some (.int .i64 p.s.v) ∧ w'.cell? ⟨w.heap.size, 3, none⟩ = some (.int .i64 p.s.c) ∧ w'.cell? ⟨w.heap.size, 4, none⟩ = some (.int .i64 p.s.d) ∧ w'.cell? ⟨w.heap.size, 5, none⟩ = some (.int .i64 p.s.rk) ∧ w'.cell? ⟨w.heap.size, 6, none⟩ = some (.int .i64 p.s.up) ∧ w'.cell? ⟨w.heap.size, 7, none⟩ = some (.int .i64 p.s.dn) ∧ w'.cell? ⟨w.heap.size, 8, none⟩ = some (.slice ad p.s.cv.length cp) ∧ w'.cell? ⟨w.heap.size, 9, none⟩ = some (.int .i64 p.d) ∧ w'.cell? ⟨w.heap.size, 10, none⟩ = some (.int .i64 p.u) ∧ w'.cell? ⟨w.heap.size, 11, none⟩ = some (.bool p.b) ∧ w'.cell? ⟨w.heap.size + 1, 0, none⟩ = some (.int .i64 q.s.n) ∧ w'.cell? ⟨w.heap.size + 1, 1, none⟩ = some (.int .i64 q.s.k) ∧ w'.cell? ⟨w.heap.size + 1, 2, none⟩ = some (.int .i64 q.s.v) ∧ w'.cell? ⟨w.heap.size + 1, 3, none⟩ = some (.int .i64 q.s.c) ∧ w'.cell? ⟨w.heap.size + 1, 4, none⟩ = some (.int .i64 q.s.d) ∧ w'.cell? ⟨w.heap.size + 1, 5, none⟩ = some (.int .i64 q.s.rk) ∧ w'.cell? ⟨w.heap.size + 1, 6, none⟩ = some (.int .i64 q.s.up) ∧ w'.cell? ⟨w.heap.size + 1, 7, none⟩ = some (.int .i64 q.s.dn) ∧ w'.cell? ⟨w.heap.size + 1, 8, none⟩ = some (.slice aq q.s.cv.length cq) ∧ w'.cell? ⟨w.heap.size + 1, 9, none⟩ = some (.int .i64 q.d) ∧ w'.cell? ⟨w.heap.size + 1, 10, none⟩ = some (.int .i64 q.u) ∧ w'.cell? ⟨w.heap.size + 1, 11, none⟩ = some (.bool q.b)) (go_keep)
        (first
          | (go_at_call 85
             refine (row2_r _ _ _ _).mono ?_
             rintro e w9 ⟨rfl, h9⟩
             have hG9 := GrownW.of_eq h9
             clear h9
             have hb9 := hG9.below
             have hz0 : w.heap.size < wr.heap.size := by omega
             have hzA := Nat.lt_of_lt_of_le hz1 hb9.size
             have s0 := (hb9.cell (p := ⟨w.heap.size, 0, none⟩) (Nat.lt_of_succ_lt hz1)).trans s0
             have s1 := (hb9.cell (p := ⟨w.heap.size, 1, none⟩) (Nat.lt_of_succ_lt hz1)).trans s1
             have s2 := (hb9.cell (p := ⟨w.heap.size, 2, none⟩) (Nat.lt_of_succ_lt hz1)).trans s2
             have s3 := (hb9.cell (p := ⟨w.heap.size, 3, none⟩) (Nat.lt_of_succ_lt hz1)).trans s3
             have s4 := (hb9.cell (p := ⟨w.heap.size, 4, none⟩) (Nat.lt_of_succ_lt hz1)).trans s4
             have s5 := (hb9.cell (p := ⟨w.heap.size, 5, none⟩) (Nat.lt_of_succ_lt hz1)).trans s5
             have s6 := (hb9.cell (p := ⟨w.heap.size, 6, none⟩) (Nat.lt_of_succ_lt hz1)).trans s6
             have s7 := (hb9.cell (p := ⟨w.heap.size, 7, none⟩) (Nat.lt_of_succ_lt hz1)).trans s7
             have s8 := (hb9.cell (p := ⟨w.heap.size, 8, none⟩) (Nat.lt_of_succ_lt hz1)).trans s8
             have s9 := (hb9.cell (p := ⟨w.heap.size, 9, none⟩) (Nat.lt_of_succ_lt hz1)).trans s9
             have s10 := (hb9.cell (p := ⟨w.heap.size, 10, none⟩) (Nat.lt_of_succ_lt hz1)).trans s10
             have s11 := (hb9.cell (p := ⟨w.heap.size, 11, none⟩) (Nat.lt_of_succ_lt hz1)).trans s11
             have s12 := (hb9.cell (p := ⟨w.heap.size + 1, 0, none⟩) hz1).trans s12
             have s13 := (hb9.cell (p := ⟨w.heap.size + 1, 1, none⟩) hz1).trans s13
             have s14 := (hb9.cell (p := ⟨w.heap.size + 1, 2, none⟩) hz1).trans s14
             have s15 := (hb9.cell (p := ⟨w.heap.size + 1, 3, none⟩) hz1).trans s15
             have s16 := (hb9.cell (p := ⟨w.heap.size + 1, 4, none⟩) hz1).trans s16
             have s17 := (hb9.cell (p := ⟨w.heap.size + 1, 5, none⟩) hz1).trans s17
             have s18 := (hb9.cell (p := ⟨w.heap.size + 1, 6, none⟩) hz1).trans s18
             have s19 := (hb9.cell (p := ⟨w.heap.size + 1, 7, none⟩) hz1).trans s19
             have s20 := (hb9.cell (p := ⟨w.heap.size + 1, 8, none⟩) hz1).trans s20
             have s21 := (hb9.cell (p := ⟨w.heap.size + 1, 9, none⟩) hz1).trans s21
             have s22 := (hb9.cell (p := ⟨w.heap.size + 1, 10, none⟩) hz1).trans s22
             have s23 := (hb9.cell (p := ⟨w.heap.size + 1, 11, none⟩) hz1).trans s23
             have hGr : GrownW wB w9 := by first | exact hGr.trans hG9 | exact hGr.drew.trans hG9
             have hz1 := hzA)
          | (go_at_call 103
             refine (HC1.out _).mono ?_
             rintro e w9 ⟨rfl, rfl⟩))
      all_goals
        by_cases h0 : r1 = 0
        · have HA2 : Hid ((0 < 1+1 → r0 = 0) ∧ (1 < 1+1 → r1 = 0) ∧ (2 < 1+1 → r2 = 0)) := Lib.hid (by
            have := HA.out
            refine ⟨fun h => ?_, fun h => ?_, fun h => ?_⟩ <;> first | exact h0 | exact this.1 (by omega) | exact this.2.1 (by omega) | omega)
          have h0 := Lib.hid h0
          clear HA
          have b0 : (r1 == 0) = true := by rw [h0.out]; rfl
          go_wp2_with fail
          go_roundw
          case rel => exact ⟨1 + 1, by omega, by go_num, by first | exact hGr | exact hGr.drew, HA2⟩
          case measure => simp [intOf]
        · have HR : Hid (cmpP p q = r1) := Lib.hid (by
            have := HA.out
            rw [HV.out]
            rw [if_neg (fun h => h (this.1 (by omega)))]
            rw [if_pos h0])
          have b0 : (r1 == 0) = false := beq_false_of_ne h0
          clear HA HV
          go_wp2_with fail
          go_ret
          exact ⟨by rw [HR.out]; rfl, by first | exact hG.trans hGr | exact hG.trans hGr.drew⟩
    · go_wp2_with fail
      have hz1 : w.heap.size + 1 < wr.heap.size := hzr
      clear f0 f1 f2 cB hzB hGb
      go_region_held3 (fun w' => w'.cell? ⟨w.heap.size, 0, none⟩ = some (.int .i64 p.s.n) ∧ w'.cell? ⟨w.heap.size, 1, none⟩ = some (.int .i64 p.s.k) ∧ w'.cell? ⟨w.heap.size, 2, none⟩ = some (.int .i64 p.s.v) ∧ w'.cell? ⟨w.heap.size, 3, none⟩ = some (.int .i64 p.s.c) ∧ w'.cell? ⟨w.heap.size, 4, none⟩ = some (.int .i64 p.s.d) ∧ w'.cell? ⟨w.heap.size, 5, none⟩ = some (.int .i64 p.s.rk) ∧ w'.cell? ⟨w.heap.size, 6, none⟩ = some (.int .i64 p.s.up) ∧ w'.cell? ⟨w.heap.size, 7, none⟩ = some (.int .i64 p.s.dn) ∧ w'.cell? ⟨w.heap.size, 8, none⟩ = some (.slice ad p.s.cv.length cp) ∧ w'.cell? ⟨w.heap.size, 9, none⟩ = some (.int .i64 p.d) ∧ w'.cell? ⟨w.heap.size, 10, none⟩ = some (.int .i64 p.u) ∧ w'.cell? ⟨w.heap.size, 11, none⟩ = some (.bool p.b) ∧ w'.cell? ⟨w.heap.size + 1, 0, none⟩ = some (.int .i64 q.s.n) ∧ w'.cell? ⟨w.heap.size + 1, 1, none⟩ = some (.int .i64 q.s.k) ∧ w'.cell? ⟨w.heap.size + 1, 2, none⟩ = some (.int .i64 q.s.v) ∧ w'.cell? ⟨w.heap.size + 1, 3, none⟩ = some (.int .i64 q.s.c) ∧ w'.cell? ⟨w.heap.size + 1, 4, none⟩ = some (.int .i64 q.s.d) ∧ w'.cell? ⟨w.heap.size + 1, 5, none⟩ = some (.int .i64 q.s.rk) ∧ w'.cell? ⟨w.heap.size + 1, 6, none⟩ = some (.int .i64 q.s.up) ∧ w'.cell? ⟨w.heap.size + 1, 7, none⟩ = some (.int .i64 q.s.dn) ∧ w'.cell? ⟨w.heap.size + 1, 8, none⟩ = some (.slice aq q.s.cv.length cq) ∧ w'.cell? ⟨w.heap.size + 1, 9, none⟩ = some (.int .i64 q.d) ∧ w'.cell? ⟨w.heap.size + 1, 10, none⟩ = some (.int .i64 q.u) ∧ w'.cell? ⟨w.heap.size + 1, 11, none⟩ = some (.bool q.b)) (go_keep)
        (first
          | (go_at_call 86
             refine (row3_r _ _ _ _).mono ?_
             rintro e w9 ⟨rfl, h9⟩
             have hG9 := GrownW.of_eq h9
             clear h9
             have hb9 := hG9.below
             have hz0 : w.heap.size < wr.heap.size := by omega
             have hzA := Nat.lt_of_lt_of_le hz1 hb9.size
             have s0 := (hb9.cell (p := ⟨w.heap.size, 0, none⟩) (Nat.lt_of_succ_lt hz1)).trans s0
             have s1 := (hb9.cell (p := ⟨w.heap.size, 1, none⟩) (Nat.lt_of_succ_lt hz1)).trans s1
             have s2 := (hb9.cell (p := ⟨w.heap.size, 2, none⟩) (Nat.lt_of_succ_lt hz1)).trans s2
             have s3 := (hb9.cell (p := ⟨w.heap.size, 3, none⟩) (Nat.lt_of_succ_lt hz1)).trans s3
             have s4 := (hb9.cell (p := ⟨w.heap.size, 4, none⟩) (Nat.lt_of_succ_lt hz1)).trans s4
             have s5 := (hb9.cell (p := ⟨w.heap.size, 5, none⟩) (Nat.lt_of_succ_lt hz1)).trans s5
             have s6 := (hb9.cell (p := ⟨w.heap.size, 6, none⟩) (Nat.lt_of_succ_lt hz1)).trans s6
             have s7 := (hb9.cell (p := ⟨w.heap.size, 7, none⟩) (Nat.lt_of_succ_lt hz1)).trans s7
             have s8 := (hb9.cell (p := ⟨w.heap.size, 8, none⟩) (Nat.lt_of_succ_lt hz1)).trans s8
             have s9 := (hb9.cell (p := ⟨w.heap.size, 9, none⟩) (Nat.lt_of_succ_lt hz1)).trans s9
             have s10 := (hb9.cell (p := ⟨w.heap.size, 10, none⟩) (Nat.lt_of_succ_lt hz1)).trans s10
             have s11 := (hb9.cell (p := ⟨w.heap.size, 11, none⟩) (Nat.lt_of_succ_lt hz1)).trans s11
             have s12 := (hb9.cell (p := ⟨w.heap.size + 1, 0, none⟩) hz1).trans s12
             have s13 := (hb9.cell (p := ⟨w.heap.size + 1, 1, none⟩) hz1).trans s13
             have s14 := (hb9.cell (p := ⟨w.heap.size + 1, 2, none⟩) hz1).trans s14
             have s15 := (hb9.cell (p := ⟨w.heap.size + 1, 3, none⟩) hz1).trans s15
             have s16 := (hb9.cell (p := ⟨w.heap.size + 1, 4, none⟩) hz1).trans s16
             have s17 := (hb9.cell (p := ⟨w.heap.size + 1, 5, none⟩) hz1).trans s17
             have s18 := (hb9.cell (p := ⟨w.heap.size + 1, 6, none⟩) hz1).trans s18
             have s19 := (hb9.cell (p := ⟨w.heap.size + 1, 7, none⟩) hz1).trans s19
             have s20 := (hb9.cell (p := ⟨w.heap.size + 1, 8, none⟩) hz1).trans s20
             have s21 := (hb9.cell (p := ⟨w.heap.size + 1, 9, none⟩) hz1).trans s21
             have s22 := (hb9.cell (p := ⟨w.heap.size + 1, 10, none⟩) hz1).trans s22
             have s23 := (hb9.cell (p := ⟨w.heap.size + 1, 11, none⟩) hz1).trans s23
             have hGr : GrownW wB w9 := by first | exact hGr.trans hG9 | exact hGr.drew.trans hG9
             have hz1 := hzA)
          | (go_at_call 103
             refine (HC2.out _).mono ?_
             rintro e w9 ⟨rfl, rfl⟩))
      all_goals
        by_cases h0 : r2 = 0
        · have HA2 : Hid ((0 < 2+1 → r0 = 0) ∧ (1 < 2+1 → r1 = 0) ∧ (2 < 2+1 → r2 = 0)) := Lib.hid (by
            have := HA.out
            refine ⟨fun h => ?_, fun h => ?_, fun h => ?_⟩ <;> first | exact h0 | exact this.1 (by omega) | exact this.2.1 (by omega) | omega)
          have h0 := Lib.hid h0
          clear HA
          have b0 : (r2 == 0) = true := by rw [h0.out]; rfl
          go_wp2_with fail
          go_roundw
          case rel => exact ⟨2 + 1, by omega, by go_num, by first | exact hGr | exact hGr.drew, HA2⟩
          case measure => simp [intOf]
        · have HR : Hid (cmpP p q = r2) := Lib.hid (by
            have := HA.out
            rw [HV.out]
            rw [if_neg (fun h => h (this.1 (by omega)))]
            rw [if_neg (fun h => h (this.2.1 (by omega)))]
            skip)
          have b0 : (r2 == 0) = false := beq_false_of_ne h0
          clear HA HV
          go_wp2_with fail
          go_ret
          exact ⟨by rw [HR.out]; rfl, by first | exact hG.trans hGr | exact hG.trans hGr.drew⟩
    · have HR : Hid (cmpP p q = 0) := Lib.hid (by
        have := HA.out
        rw [HV.out, if_neg (fun h => h (this.1 (by omega))), if_neg (fun h => h (this.2.1 (by omega)))]; exact this.2.2 (by omega))
      clear HV HA
      go_wp2_with fail
      go_ret
      exact ⟨by rw [HR.out]; rfl, hGw⟩
end Go.Proofs.YtiagflackfkmnaaGreat
