/-
  The walk of the reference's Coefficient within its table. By an AI agent.
-/
import Derived.Test.YtkddmjadilmldaaLightI
namespace Go.Proofs.Ytkddmjadilmldaa
set_option linter.unusedVariables false
set_option linter.unusedSimpArgs false
open Go.RowKit

set_option maxRecDepth 100000 in
set_option maxHeartbeats 8000000 in
theorem refCoef_in (ao ae ar : Option Addr) (o e : List Int) (r : List (List Int)) (co ce cr : Nat) (x y : Int) (w : World) (hT : TableS w ao ae ar o e r) (hK : TableOk o e r) (hx : I64 x) (hy : I64 y) (a1 : ¬ above o x) (a2 : ¬ above e y) :
    Calls Try.prog 62 #[.agg #[.slice ao o.length co, .slice ae e.length ce, .slice ar r.length cr], .int .i64 x, .int .i64 y] w fun E w' => E = .returned (.int .i64 (coefV o e r x y)) ∧ Below w.heap.size w w' := by
  have n0 := hK.1.1
  have n1 := hK.2.1.1
  obtain ⟨_, _, bo, fo, hao, hco⟩ := hT.1
  obtain ⟨_, _, be, fe, hae, hce⟩ := hT.2.1
  obtain rfl := hao (fun h => by rw [h] at n0; simp at n0)
  obtain rfl := hae (fun h => by rw [h] at n1; simp at n1)
  have c0 := hco 0 (by omega)
  have c00 := hce 0 (by omega)
  rw [Nat.add_zero] at c0 c00
  have l0 := block_lt c0
  have l00 := block_lt c00
  have b0 := slopes_bd hK.1 (i := 0) (by omega)
  have b1 := slopes_bd hK.2.1 (i := 0) (by omega)
  have hcx : (x < gi o 0 ∧ clip o x = gi o 0) ∨ (gi o 0 ≤ x ∧ clip o x = x) := by unfold clip; omega
  have hcy : (y < gi e 0 ∧ clip e y = gi e 0) ∨ (gi e 0 ≤ y ∧ clip e y = y) := by unfold clip; omega
  obtain ⟨x0, x1⟩ := hx
  obtain ⟨y0, y1⟩ := hy
  have hX : I64 (clip o x) := by unfold I64; omega
  have hY : I64 (clip e y) := by unfold I64; omega
  have q0 : 0 < o.length := by omega
  have q1 : 0 < e.length := by omega
  have HL1 : Hid (∀ W, Below w.heap.size w W → Calls Try.prog 64 #[.slice (some ⟨bo, fo, none⟩) o.length co, .int .i64 (clip o x)] W fun E w' => (∃ k : Nat, InCell o (clip o x) k ∧ E = .returned (.tuple #[.int .i64 k, .bool true])) ∧ W = w') := Lib.hid fun W hW =>
    cell_in _ o co _ W (hT.1.below hW) hK.1 hX (fun h => a1 ((above_clip hK.1).1 h)) (clip_not_above hK.1 a1).1
  have HL2 : Hid (∀ W, Below w.heap.size w W → Calls Try.prog 64 #[.slice (some ⟨be, fe, none⟩) e.length ce, .int .i64 (clip e y)] W fun E w' => (∃ k : Nat, InCell e (clip e y) k ∧ E = .returned (.tuple #[.int .i64 k, .bool true])) ∧ W = w') := Lib.hid fun W hW =>
    cell_in _ e ce _ W (hT.2.1.below hW) hK.2.1 hY (fun h => a2 ((above_clip hK.2.1).1 h)) (clip_not_above hK.2.1 a2).1
  have HP : Hid (∀ i k : Nat, InCell o (clip o x) i → InCell e (clip e y) k → coefV o e r x y = coefAt o e r i k (clip o x) (clip e y)) := Lib.hid fun i k hi hk => coefV_at hK.1 hK.2.1 a1 a2 hi hk
  have HK := Lib.hid hK
  have HTB := Lib.hid hT
  obtain ⟨b00, b01⟩ := b0
  obtain ⟨b10, b11⟩ := b1
  have HV : Hid (Ending.returned (.int .i64 (coefV o e r x y)) = Ending.returned (.int .i64 (coefV o e r x y))) := Lib.hid rfl
  clear hT hK hao hae hco hce a1 a2 hX hY HV
  generalize hV : coefV o e r x y = V at *
  clear hV
  generalize gi o 0 = g at *
  generalize gi e 0 = g' at *
  generalize clip o x = X at *
  generalize clip e y = Y at *
  rcases hcx with ⟨h1, rfl⟩ | ⟨h1, rfl⟩ <;> rcases hcy with ⟨h2, rfl⟩ | ⟨h2, rfl⟩
  all_goals
    go_enter Try.func62, Try.ntmps62
    go_wp2_with fail
    go_quiet (fail)
    go_wp2_with fail
    refine (HL1.out _ (below_drewN ((Below.refl _ _).alloc (Nat.le_refl _) _) _)).mono ?_
    rintro E w' ⟨⟨i, hi, rfl⟩, rfl⟩
    have HIi := Lib.hid hi
    clear hi
    go_wp2_with fail
    refine (HL2.out _ (below_drewN ((Below.refl _ _).alloc (Nat.le_refl _) _) _)).mono ?_
    rintro E w' ⟨⟨k, hk, rfl⟩, rfl⟩
    have HP2 := HP.out i k HIi.out hk
    obtain ⟨bo', fo', be', fe', br, fr, b, f, b', f', cp, cp', hP⟩ := part_of HTB.out HK.out HIi.out.1 hk.1
    have t1 := tb_bd HK.out (show i < o.length by have := HIi.out.1; omega) (show k < e.length by have := hk.1; omega)
    have t2 := tb_bd HK.out (show i < o.length by have := HIi.out.1; omega) hk.1
    have t3 := tb_bd HK.out HIi.out.1 (show k < e.length by have := hk.1; omega)
    have t4 := tb_bd HK.out HIi.out.1 hk.1
    have so := slopes_lt HK.out.1 (show i < i + 1 by omega) HIi.out.1
    have se := slopes_lt HK.out.2.1 (show k < k + 1 by omega) hk.1
    have sb1 := slopes_bd HK.out.1 (show i < o.length by have := HIi.out.1; omega)
    have sb2 := slopes_bd HK.out.1 HIi.out.1
    have sb3 := slopes_bd HK.out.2.1 (show k < e.length by have := hk.1; omega)
    have sb4 := slopes_bd HK.out.2.1 hk.1
    have nr : r.length = o.length := HK.out.2.2.1
    have no := HK.out.1.2.1
    have ne := HK.out.2.1.2.1
    obtain ⟨j1, j2, j3⟩ := HIi.out
    obtain ⟨k1, k2, k3⟩ := hk
    unfold coefAt num den at HP2
    clear HL1 HL2 HP HK HTB HIi c0 c00 l0 l00 b00 b01 b10 b11 h1 h2
    rw [nr] at *
    clear nr
    generalize gi o i = o1 at *
    generalize gi o (i + 1) = o2 at *
    generalize gi e k = e1 at *
    generalize gi e (k + 1) = e2 at *
    generalize gi (gr r i) k = r1 at *
    generalize gi (gr r i) (k + 1) = r2 at *
    generalize gi (gr r (i + 1)) k = s1 at *
    generalize gi (gr r (i + 1)) (k + 1) = s2 at *
    generalize o.length = lo at *
    generalize e.length = le at *
    obtain ⟨ho, he, rfl, c1, c2, c3, c4, c5, c6, c7, c8, c9, c10⟩ := hP
    simp only [Option.some.injEq, Addr.mk.injEq, and_true] at ho he
    obtain ⟨rfl, rfl⟩ := ho
    obtain ⟨rfl, rfl⟩ := he
    have l1 := block_lt c1
    have l2 := block_lt c3
    have l3 := block_lt c5
    have l4 := block_lt c7
    have l5 := block_lt c9
    obtain ⟨r10, r11⟩ := t1
    obtain ⟨r20, r21⟩ := t2
    obtain ⟨s10, s11⟩ := t3
    obtain ⟨s20, s21⟩ := t4
    obtain ⟨a, ha⟩ : ∃ a, X - o1 = a := ⟨_, rfl⟩
    obtain ⟨b0, hb0⟩ : ∃ a, o2 - X = a := ⟨_, rfl⟩
    obtain ⟨c, hc⟩ : ∃ a, Y - e1 = a := ⟨_, rfl⟩
    obtain ⟨d, hd⟩ : ∃ a, e2 - Y = a := ⟨_, rfl⟩
    obtain ⟨D1, hD1⟩ : ∃ t, a + b0 = t := ⟨_, rfl⟩
    obtain ⟨D2, hD2⟩ : ∃ t, c + d = t := ⟨_, rfl⟩
    rw [ha, hb0, hc, hd, show o2 - o1 = D1 from by omega, show e2 - e1 = D2 from by omega] at HP2
    have ba0 : 0 ≤ a := by omega
    have ba1 : a ≤ 1000000 := by omega
    have bb0 : 0 ≤ b0 := by omega
    have bb1 : b0 ≤ 1000000 := by omega
    have bc0 : 0 ≤ c := by omega
    have bc1 : c ≤ 1000000 := by omega
    have bd0 : 0 ≤ d := by omega
    have bd1 : d ≤ 1000000 := by omega
    have bD0 : 0 ≤ D1 := by omega
    have bD1 : D1 ≤ 1000000 := by omega
    have bD2 : 0 ≤ D2 := by omega
    have bD3 : D2 ≤ 1000000 := by omega
    obtain ⟨u1, h1, u10, u11⟩ := mul_small r10 r11 bb0 bb1
    obtain ⟨u2, h2, u20, u21⟩ := mul_small r20 r21 bb0 bb1
    obtain ⟨u3, h3, u30, u31⟩ := mul_small s10 s11 ba0 ba1
    obtain ⟨u4, h4, u40, u41⟩ := mul_small s20 s21 ba0 ba1
    obtain ⟨v1, i1, v10, v11⟩ := mul_small u10 u11 bd0 bd1
    obtain ⟨v2, i2, v20, v21⟩ := mul_small u20 u21 bc0 bc1
    obtain ⟨v3, i3, v30, v31⟩ := mul_small u30 u31 bd0 bd1
    obtain ⟨v4, i4, v40, v41⟩ := mul_small u40 u41 bc0 bc1
    obtain ⟨s12, hs12⟩ : ∃ t, v1 + v2 = t := ⟨_, rfl⟩
    obtain ⟨s123, hs123⟩ : ∃ t, s12 + v3 = t := ⟨_, rfl⟩
    obtain ⟨s1234, hs1234⟩ : ∃ t, s123 + v4 = t := ⟨_, rfl⟩
    have hDp : 0 < D1 * D2 := Int.mul_pos (by omega) (by omega)
    obtain ⟨D, g3, _, D11⟩ := mul_small bD0 bD1 bD2 bD3
    rw [g3] at hDp HP2
    rw [h1, h2, h3, h4, i1, i2, i3, i4, hs12, hs123, hs1234] at HP2
    have HV := Lib.hid HP2
    clear HP2
    have bs0 : 0 ≤ s1234 := by omega
    have bs1 : s1234 ≤ 400000000000000000 := by omega
    have w1 : IntKind.i64.wrap ((i : Int) + 1) = (i : Int) + 1 := IntWalk.i64_in _ (by omega)
    have w2 : IntKind.i64.wrap ((k : Int) + 1) = (k : Int) + 1 := IntWalk.i64_in _ (by omega)
    have w3 : ((i : Int) + 1).toNat = i + 1 := by omega
    have w4 : ((k : Int) + 1).toNat = k + 1 := by omega
    have w5 : IntKind.i64.wrap a = a := IntWalk.i64_in _ (by omega)
    have w6 : IntKind.i64.wrap b0 = b0 := IntWalk.i64_in _ (by omega)
    have w7 : IntKind.i64.wrap c = c := IntWalk.i64_in _ (by omega)
    have w8 : IntKind.i64.wrap d = d := IntWalk.i64_in _ (by omega)
    have w9 : IntKind.i64.wrap u1 = u1 := IntWalk.i64_in _ (by omega)
    have w10 : IntKind.i64.wrap u2 = u2 := IntWalk.i64_in _ (by omega)
    have w11 : IntKind.i64.wrap u3 = u3 := IntWalk.i64_in _ (by omega)
    have w12 : IntKind.i64.wrap u4 = u4 := IntWalk.i64_in _ (by omega)
    have w13 : IntKind.i64.wrap v1 = v1 := IntWalk.i64_in _ (by omega)
    have w14 : IntKind.i64.wrap v2 = v2 := IntWalk.i64_in _ (by omega)
    have w15 : IntKind.i64.wrap v3 = v3 := IntWalk.i64_in _ (by omega)
    have w16 : IntKind.i64.wrap v4 = v4 := IntWalk.i64_in _ (by omega)
    have w17 : IntKind.i64.wrap s12 = s12 := IntWalk.i64_in _ (by omega)
    have w18 : IntKind.i64.wrap s123 = s123 := IntWalk.i64_in _ (by omega)
    have w19 : IntKind.i64.wrap s1234 = s1234 := IntWalk.i64_in _ (by omega)
    have g1 : (0 : Int) ≤ (i : Int) + 1 := by omega
    have g2 : (0 : Int) ≤ (k : Int) + 1 := by omega
    have g4 : (i : Int) + 1 < (lo : Int) := by omega
    have g5 : (k : Int) + 1 < (le : Int) := by omega
    have g6 : (i : Int) < (lo : Int) := by omega
    have g7 : (k : Int) < (le : Int) := by omega
    clear so se sb1 sb2 sb3 sb4 no ne j1 j2 j3 k1 k2 k3 q0 q1 x0 x1 y0 y1
    go_wp2_with fail
    go_quiet (fail)
    go_wp2_with fail
    go_quiet (fail)
    go_wp2_with fail
    go_quiet (fail)
    clear w1 w2 w3 w4 w5 w6 w7 w8 w9 w10 w11 w12 w13 w14 w15 w16 w17 w18 w19
    go_wp2_with fail
    go_ret
    rw [HV.out]
    refine ⟨rfl, ?_⟩
    repeat (first | exact (Below.refl _ _).alloc (Nat.le_refl _) _ | refine below_drewN ?_ _)
end Go.Proofs.Ytkddmjadilmldaa
