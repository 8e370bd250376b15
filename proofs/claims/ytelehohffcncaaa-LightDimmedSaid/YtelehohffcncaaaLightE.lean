/-
  The walks of coefficient and of the reference's Coefficient. By an AI agent.
-/
import Derived.Test.YtelehohffcncaaaLightD
namespace Go.Proofs.Ytelehohffcncaaa
set_option linter.unusedVariables false
set_option linter.unusedSimpArgs false
open Go.RowKit

/-- What a walk reads of a cell of a table. -/
theorem table_cell {w : World} {ao ae ar : Option Addr} {o e : List Int} {r : List (List Int)} (hT : TableS w ao ae ar o e r) (hk : TableOk o e r) {i k : Nat} (hi : i < o.length) (hk2 : k < e.length) :
    ∃ (bo fo be fe br fr b f : Nat) (cp : Nat), ao = some ⟨bo, fo, none⟩ ∧ ae = some ⟨be, fe, none⟩ ∧ ar = some ⟨br, fr, none⟩ ∧ w.cell? ⟨bo, fo + i, none⟩ = some (.int .i64 (gi o i)) ∧ w.cell? ⟨be, fe + k, none⟩ = some (.int .i64 (gi e k)) ∧
      w.cell? ⟨br, fr + i, none⟩ = some (.slice (some ⟨b, f, none⟩) e.length cp) ∧ w.cell? ⟨b, f + k, none⟩ = some (.int .i64 (gi (gr r i) k)) := by
  obtain ⟨⟨_, _, bo, fo, ho1, ho2⟩, ⟨_, _, be, fe, he1, he2⟩, _, br, fr, ad, cp, hr1, hr2⟩ := hT
  have hrl : i < r.length := by rw [hk.2.2.1]; exact hi
  obtain ⟨hr3, ⟨_, _, b, f, h1, h2⟩, _⟩ := hr2 i hrl
  have hl := (hk.2.2.2 i hrl).1
  refine ⟨bo, fo, be, fe, br, fr, b, f, cp i, ho1 (fun h => by rw [h] at hi; simp at hi), he1 (fun h => by rw [h] at hk2; simp at hk2), hr1 (fun h => by rw [h] at hrl; simp at hrl), ho2 i hi, he2 k hk2, ?_, h2 k (by omega)⟩
  rw [hr3, h1 (fun h => by rw [h] at hl; simp at hl; omega), hl]
/-- A two by two part of a table, in memory. -/
structure Part (w : World) (ao ae ar : Option Addr) (i k le : Nat) (o1 o2 e1 e2 r1 r2 s1 s2 : Int) (bo fo be fe br fr b f b' f' cp cp' : Nat) : Prop where
  ho : ao = some ⟨bo, fo, none⟩
  he : ae = some ⟨be, fe, none⟩
  hr : ar = some ⟨br, fr, none⟩
  c1 : w.cell? ⟨bo, fo + i, none⟩ = some (.int .i64 o1)
  c2 : w.cell? ⟨bo, fo + (i + 1), none⟩ = some (.int .i64 o2)
  c3 : w.cell? ⟨be, fe + k, none⟩ = some (.int .i64 e1)
  c4 : w.cell? ⟨be, fe + (k + 1), none⟩ = some (.int .i64 e2)
  c5 : w.cell? ⟨br, fr + i, none⟩ = some (.slice (some ⟨b, f, none⟩) le cp)
  c6 : w.cell? ⟨br, fr + (i + 1), none⟩ = some (.slice (some ⟨b', f', none⟩) le cp')
  c7 : w.cell? ⟨b, f + k, none⟩ = some (.int .i64 r1)
  c8 : w.cell? ⟨b, f + (k + 1), none⟩ = some (.int .i64 r2)
  c9 : w.cell? ⟨b', f' + k, none⟩ = some (.int .i64 s1)
  c10 : w.cell? ⟨b', f' + (k + 1), none⟩ = some (.int .i64 s2)
theorem part_of {w : World} {ao ae ar : Option Addr} {o e : List Int} {r : List (List Int)} (hT : TableS w ao ae ar o e r) (hk : TableOk o e r) {i k : Nat} (hi : i + 1 < o.length) (hk2 : k + 1 < e.length) :
    ∃ (bo fo be fe br fr b f b' f' cp cp' : Nat), Part w ao ae ar i k e.length (gi o i) (gi o (i + 1)) (gi e k) (gi e (k + 1)) (gi (gr r i) k) (gi (gr r i) (k + 1)) (gi (gr r (i + 1)) k) (gi (gr r (i + 1)) (k + 1)) bo fo be fe br fr b f b' f' cp cp' := by
  obtain ⟨bo, fo, be, fe, br, fr, b, f, cp, h1, h2, h3, a1, a2, a3, a4⟩ := table_cell hT hk (show i < o.length by omega) (show k < e.length by omega)
  obtain ⟨bo', fo', be', fe', br', fr', b', f', cp', h1', h2', h3', a1', a2', a3', a4'⟩ := table_cell hT hk hi hk2
  rw [h1] at h1'
  rw [h2] at h2'
  rw [h3] at h3'
  simp only [Option.some.injEq, Addr.mk.injEq, and_true] at h1' h2' h3'
  obtain ⟨rfl, rfl⟩ := h1'
  obtain ⟨rfl, rfl⟩ := h2'
  obtain ⟨rfl, rfl⟩ := h3'
  obtain ⟨_, _, _, _, _, _, b1, f1, cp1, g1, g2, g3, _, _, d3, d4⟩ := table_cell hT hk (show i < o.length by omega) hk2
  rw [h1] at g1
  rw [h2] at g2
  rw [h3] at g3
  simp only [Option.some.injEq, Addr.mk.injEq, and_true] at g1 g2 g3
  obtain ⟨rfl, rfl⟩ := g1
  obtain ⟨rfl, rfl⟩ := g2
  obtain ⟨rfl, rfl⟩ := g3
  rw [a3] at d3
  simp only [Option.some.injEq, Value.slice.injEq, Addr.mk.injEq, and_true, true_and] at d3
  obtain ⟨⟨rfl, rfl⟩, rfl⟩ := d3
  obtain ⟨_, _, _, _, _, _, b1, f1, cp1, g1, g2, g3, _, _, d3, d5⟩ := table_cell hT hk hi (show k < e.length by omega)
  rw [h1] at g1
  rw [h2] at g2
  rw [h3] at g3
  simp only [Option.some.injEq, Addr.mk.injEq, and_true] at g1 g2 g3
  obtain ⟨rfl, rfl⟩ := g1
  obtain ⟨rfl, rfl⟩ := g2
  obtain ⟨rfl, rfl⟩ := g3
  rw [a3'] at d3
  simp only [Option.some.injEq, Value.slice.injEq, Addr.mk.injEq, and_true, true_and] at d3
  obtain ⟨⟨rfl, rfl⟩, rfl⟩ := d3
  exact ⟨_, _, _, _, _, _, _, _, _, _, _, _, h1, h2, h3, a1, a1', a2, a2', a3, a3', a4, d4, d5, a4'⟩
theorem mul_small {a b A B : Int} (h0 : 0 ≤ a) (h1 : a ≤ A) (h2 : 0 ≤ b) (h3 : b ≤ B) : ∃ q, a * b = q ∧ 0 ≤ q ∧ q ≤ A * B := ⟨_, rfl, prod_bd h0 h1 h2 h3⟩

set_option maxRecDepth 100000 in
set_option maxHeartbeats 4000000 in
theorem coefficient_any (ao ae ar : Option Addr) (o e : List Int) (r : List (List Int)) (co ce cr : Nat) (x y : Int) (w : World) (hT : TableS w ao ae ar o e r) (hco : o.length ≤ co) (hce : e.length ≤ ce) (hK : TableOk o e r) (hx : I64 x) (hy : I64 y) :
    Calls Try.prog 30 #[.agg #[.slice ao o.length co, .slice ae e.length ce, .slice ar r.length cr], .int .i64 x, .int .i64 y] w fun E w' => E = .returned (.int .i64 (coefV o e r x y)) ∧ Below w.heap.size w w' := by
  have hB : Below w.heap.size w (w.alloc (.cells #[.slice ao o.length co, .slice ae e.length ce, .slice ar r.length cr] 25)) := (Below.refl _ _).alloc (Nat.le_refl _) _
  have HI := Lib.hid (hT.1.below hB)
  have HJ := Lib.hid (hT.2.1.below hB)
  by_cases a1 : above o x
  · have HL1 := Lib.hid (locate_out ao o co x _ HI.out hco hK.1 hx a1)
    have HV := Lib.hid (coefV_above (o := o) (e := e) (r := r) (x := x) (y := y) (.inl a1))
    by_cases a2 : above e y
    · have HL2 := Lib.hid (locate_out ae e ce y _ HJ.out hce hK.2.1 hy a2)
      clear hK hT a1 a2 hB hx hy
      go_enter Try.func30, Try.ntmps30
      go_wp2_with fail
      refine HL1.out.mono ?_
      rintro E w' ⟨rfl, rfl⟩
      go_wp2_with fail
      refine HL2.out.mono ?_
      rintro E w' ⟨rfl, rfl⟩
      go_wp2_with fail
      go_ret
      rw [HV.out]
      refine ⟨rfl, ?_⟩
      go_grown
    · have HL2 := Lib.hid (locate_in ae e ce y _ HJ.out hce hK.2.1 hy a2)
      clear hK hT a1 a2 hB hx hy
      go_enter Try.func30, Try.ntmps30
      go_wp2_with fail
      refine HL1.out.mono ?_
      rintro E w' ⟨rfl, rfl⟩
      go_wp2_with fail
      refine HL2.out.mono ?_
      rintro E w' ⟨⟨k, _, rfl⟩, rfl⟩
      go_wp2_with fail
      go_ret
      rw [HV.out]
      refine ⟨rfl, ?_⟩
      go_grown
  · have HL1 := Lib.hid (locate_in ao o co x _ HI.out hco hK.1 hx a1)
    by_cases a2 : above e y
    · have HL2 := Lib.hid (locate_out ae e ce y _ HJ.out hce hK.2.1 hy a2)
      have HV := Lib.hid (coefV_above (o := o) (e := e) (r := r) (x := x) (y := y) (.inr a2))
      clear hK hT a1 a2 hB hx hy
      go_enter Try.func30, Try.ntmps30
      go_wp2_with fail
      refine HL1.out.mono ?_
      rintro E w' ⟨⟨k, _, rfl⟩, rfl⟩
      go_wp2_with fail
      refine HL2.out.mono ?_
      rintro E w' ⟨rfl, rfl⟩
      go_wp2_with fail
      go_ret
      rw [HV.out]
      refine ⟨rfl, ?_⟩
      go_grown
    · have HL2 := Lib.hid (locate_in ae e ce y _ HJ.out hce hK.2.1 hy a2)
      have HP : Hid (∀ i k : Nat, InCell o (clip o x) i → InCell e (clip e y) k → coefV o e r x y = coefAt o e r i k (clip o x) (clip e y)) := Lib.hid fun i k hi hk => coefV_at hK.1 hK.2.1 a1 a2 hi hk
      have HK := Lib.hid hK
      have HTB := Lib.hid hT
      clear hK hT a1 a2 hB hx hy
      go_enter Try.func30, Try.ntmps30
      go_wp2_with fail
      refine HL1.out.mono ?_
      rintro E w' ⟨⟨i, hi, rfl⟩, rfl⟩
      have HIi := Lib.hid hi
      clear hi
      go_wp2_with fail
      refine HL2.out.mono ?_
      rintro E w' ⟨⟨k, hk, rfl⟩, rfl⟩
      have HP2 := HP.out i k HIi.out hk
      obtain ⟨bo, fo, be, fe, br, fr, b, f, b', f', cp, cp', hP⟩ := part_of HTB.out HK.out HIi.out.1 hk.1
      have t1 := tb_bd HK.out (show i < o.length by have := HIi.out.1; omega) (show k < e.length by have := hk.1; omega)
      have t2 := tb_bd HK.out (show i < o.length by have := HIi.out.1; omega) hk.1
      have t3 := tb_bd HK.out HIi.out.1 (show k < e.length by have := hk.1; omega)
      have t4 := tb_bd HK.out HIi.out.1 hk.1
      have so := slopes_lt HK.out.1 (show i < i + 1 by omega) HIi.out.1
      have se := slopes_lt HK.out.2.1 (show k < k + 1 by omega) hk.1
      have sb1 := slopes_bd HK.out.1 (show i < o.length by have := HIi.out.1; omega)
      have sb2 := slopes_bd HK.out.1 HIi.out.1
      have sb3 := slopes_bd HK.out.2.1 (show k < e.length by have := hk.1; omega)
      have sb4 := slopes_bd HK.out.2.1 hk.1
      have nr : r.length = o.length := HK.out.2.2.1
      have no := HK.out.1.2.1
      have ne := HK.out.2.1.2.1
      obtain ⟨j1, j2, j3⟩ := HIi.out
      obtain ⟨k1, k2, k3⟩ := hk
      unfold coefAt num den at HP2
      clear HI HJ HL1 HL2 HP HK HTB HIi
      rw [nr] at *
      clear nr
      generalize clip o x = X at *
      generalize clip e y = Y at *
      generalize gi o i = o1 at *
      generalize gi o (i + 1) = o2 at *
      generalize gi e k = e1 at *
      generalize gi e (k + 1) = e2 at *
      generalize gi (gr r i) k = r1 at *
      generalize gi (gr r i) (k + 1) = r2 at *
      generalize gi (gr r (i + 1)) k = s1 at *
      generalize gi (gr r (i + 1)) (k + 1) = s2 at *
      generalize o.length = lo at *
      generalize e.length = le at *
      obtain ⟨rfl, rfl, rfl, c1, c2, c3, c4, c5, c6, c7, c8, c9, c10⟩ := hP
      have l1 := block_lt c1
      have l2 := block_lt c3
      have l3 := block_lt c5
      have l4 := block_lt c7
      have l5 := block_lt c9
      obtain ⟨r10, r11⟩ := t1
      obtain ⟨r20, r21⟩ := t2
      obtain ⟨s10, s11⟩ := t3
      obtain ⟨s20, s21⟩ := t4
      obtain ⟨a, ha⟩ : ∃ a, X - o1 = a := ⟨_, rfl⟩
      obtain ⟨b0, hb0⟩ : ∃ a, o2 - X = a := ⟨_, rfl⟩
      obtain ⟨c, hc⟩ : ∃ a, Y - e1 = a := ⟨_, rfl⟩
      obtain ⟨d, hd⟩ : ∃ a, e2 - Y = a := ⟨_, rfl⟩
      obtain ⟨D1, hD1⟩ : ∃ a, o2 - o1 = a := ⟨_, rfl⟩
      obtain ⟨D2, hD2⟩ : ∃ a, e2 - e1 = a := ⟨_, rfl⟩
      rw [ha, hb0, hc, hd, hD1, hD2] at HP2
      obtain ⟨q1, h1, q10, q11⟩ := mul_small r10 r11 (show 0 ≤ d by omega) (show d ≤ 1000000 by omega)
      obtain ⟨q2, h2, q20, q21⟩ := mul_small r20 r21 (show 0 ≤ c by omega) (show c ≤ 1000000 by omega)
      obtain ⟨q3, h3, q30, q31⟩ := mul_small s10 s11 (show 0 ≤ d by omega) (show d ≤ 1000000 by omega)
      obtain ⟨q4, h4, q40, q41⟩ := mul_small s20 s21 (show 0 ≤ c by omega) (show c ≤ 1000000 by omega)
      obtain ⟨n, hn⟩ : ∃ n, q1 + q2 = n := ⟨_, rfl⟩
      obtain ⟨f0, hf0⟩ : ∃ n, q3 + q4 = n := ⟨_, rfl⟩
      obtain ⟨p1, g1, p10, p11⟩ := mul_small (a := n) (A := 200000000000) (show 0 ≤ n by omega) (by omega) (show 0 ≤ b0 by omega) (show b0 ≤ 1000000 by omega)
      obtain ⟨p2, g2, p20, p21⟩ := mul_small (a := f0) (A := 200000000000) (show 0 ≤ f0 by omega) (by omega) (show 0 ≤ a by omega) (show a ≤ 1000000 by omega)
      have hDp : 0 < D1 * D2 := Int.mul_pos (by omega) (by omega)
      obtain ⟨D, g3, _, D11⟩ := mul_small (a := D1) (A := 1000000) (show 0 ≤ D1 by omega) (by omega) (show 0 ≤ D2 by omega) (show D2 ≤ 1000000 by omega)
      rw [g3] at hDp HP2
      rw [show r1 * b0 * d + r2 * b0 * c + s1 * a * d + s2 * a * c = p1 + p2 from by subst h1 h2 h3 h4 hn hf0 g1 g2; grind] at HP2
      have HV := Lib.hid HP2
      clear HP2
      obtain ⟨x0, x1⟩ : I64 X := by unfold I64; omega
      obtain ⟨y0, y1⟩ : I64 Y := by unfold I64; omega
      have w1 : IntKind.i64.wrap ((i : Int) + 1) = (i : Int) + 1 := IntWalk.i64_in _ (by omega)
      have w2 : IntKind.i64.wrap ((k : Int) + 1) = (k : Int) + 1 := IntWalk.i64_in _ (by omega)
      have w3 : ((i : Int) + 1).toNat = i + 1 := by omega
      have w4 : ((k : Int) + 1).toNat = k + 1 := by omega
      have w5 : IntKind.i64.wrap d = d := IntWalk.i64_in _ (by omega)
      have w6 : IntKind.i64.wrap c = c := IntWalk.i64_in _ (by omega)
      have w7 : IntKind.i64.wrap q1 = q1 := IntWalk.i64_in _ (by omega)
      have w8 : IntKind.i64.wrap q2 = q2 := IntWalk.i64_in _ (by omega)
      have w9 : IntKind.i64.wrap q3 = q3 := IntWalk.i64_in _ (by omega)
      have w10 : IntKind.i64.wrap q4 = q4 := IntWalk.i64_in _ (by omega)
      have w11 : IntKind.i64.wrap n = n := IntWalk.i64_in _ (by omega)
      have w12 : IntKind.i64.wrap f0 = f0 := IntWalk.i64_in _ (by omega)
      have b1 : (0 : Int) ≤ (i : Int) + 1 := by omega
      have b2 : (0 : Int) ≤ (k : Int) + 1 := by omega
      have b3 : (i : Int) + 1 < (lo : Int) := by omega
      have b4 : (k : Int) + 1 < (le : Int) := by omega
      have b5 : (i : Int) < (lo : Int) := by omega
      have b6 : (k : Int) < (le : Int) := by omega
      have ba0 : 0 ≤ a := by omega
      have ba1 : a ≤ 1000000 := by omega
      have bb0 : 0 ≤ b0 := by omega
      have bb1 : b0 ≤ 1000000 := by omega
      have bd0 : 0 ≤ D1 := by omega
      have bd1 : D1 ≤ 1000000 := by omega
      have be0 : 0 ≤ D2 := by omega
      have be1 : D2 ≤ 1000000 := by omega
      have bo1 : I64 o1 := by unfold I64; omega
      have bo2 : I64 o2 := by unfold I64; omega
      have bo3 : I64 e1 := by unfold I64; omega
      have bo4 : I64 e2 := by unfold I64; omega
      obtain ⟨u0, u1⟩ := bo1
      obtain ⟨u2, u3⟩ := bo2
      obtain ⟨u4, u5⟩ := bo3
      obtain ⟨u6, u7⟩ := bo4
      clear so se sb1 sb2 sb3 sb4 no ne j1 j2 j3 k1 k2 k3 hco hce
      go_wp2_with fail
      go_quiet (fail)
      go_wp2_with fail
      go_quiet (fail)
      go_wp2_with fail
      go_quiet (fail)
      go_wp2_with fail
      go_quiet (fail)
      clear w1 w2 w3 w4 w5 w6 w7 w8 w9 w10 w11 w12
      go_wp2_with fail
      go_ret
      rw [HV.out]
      refine ⟨rfl, ?_⟩
      repeat (first | exact (Below.refl _ _).alloc (Nat.le_refl _) _ | refine below_drewN ?_ _)
end Go.Proofs.Ytelehohffcncaaa
