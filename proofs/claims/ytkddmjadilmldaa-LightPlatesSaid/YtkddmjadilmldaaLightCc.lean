/-
  The walk of Corrected of package light. By an AI agent.
-/
import Derived.Test.YtkddmjadilmldaaLightCb
import Derived.Deep.AppendLies
namespace Go.Proofs.Ytkddmjadilmldaa
set_option linter.unusedVariables false
set_option linter.unusedSimpArgs false
open Go.RowKit

theorem intInfo : (Try.prog.info? 3).map (fun i => (i.zero, i.size, i.bytes)) = some (some (.int .i64 0), 1, 8) := by kernel_rfl
theorem owns_below {w w' : World} {base : Nat} {e : TypeId} {size : Nat} {v : Value} {n : Nat} {xs : List Value} (h : w.ownsRow base e size v n xs) (hb : Below w.heap.size w w') : w'.ownsRow base e size v n xs := by
  refine ⟨h.1, ?_⟩
  rcases h.2 with h2 | ⟨g, cap, cur, h1, h2, h3, h4⟩
  · exact .inl h2
  · have hg : g < w.heap.size := by
      apply Nat.lt_of_not_le
      intro hle
      rw [Array.getElem?_eq_none hle] at h3
      cases h3
    exact .inr ⟨g, cap, cur, h1, h2, by rw [hb.block g hg]; exact h3, h4⟩
def gm (f : Nat → Int) (n : Nat) : List Int := (List.range n).map f
theorem gm_len (f : Nat → Int) (n : Nat) : (gm f n).length = n := by simp [gm]
theorem gm_at (f : Nat → Int) {n i : Nat} (h : i < n) : gi (gm f n) i = f i := by
  unfold gi gm; rw [List.getD_eq_getElem?_getD, List.getElem?_map, List.getElem?_range h]; rfl
def gv (f : Nat → Int) (n : Nat) : List Value := (List.range n).map fun j => .int .i64 (f j)
theorem gv_next (f : Nat → Int) (n : Nat) : gv f (n + 1) = gv f n ++ [.int .i64 (f n)] := by simp [gv, List.range_succ]
theorem ints_nil (w : World) : IntsS w none [] := ⟨by simp, fun i hi => absurd hi (Nat.not_lt_zero _), 0, 0, (fun h => absurd rfl h), fun i hi => absurd hi (Nat.not_lt_zero _)⟩
theorem ints_own {w : World} {base n c : Nat} {a : Option Addr} {f : Nat → Int} (h : w.ownsRow base 3 1 (.slice a n c) n (gv f n)) (hn : n ≤ 9223372036854775807) (hf : ∀ j, j < n → I64 (f j)) : IntsS w a (gm f n) := by
  refine ⟨by rw [gm_len]; exact hn, fun i hi => by rw [gm_len] at hi; rw [gm_at f hi]; exact hf i hi, ?_⟩
  rcases h.2 with ⟨h1, h2⟩ | ⟨g2, c2, cur, h1, _⟩
  · subst h2
    exact ⟨0, 0, (fun h => absurd (by simp [gm]) h), fun i hi => by rw [gm_len] at hi; omega⟩
  · obtain ⟨rfl, rfl⟩ : a = some ⟨g2, 0, none⟩ ∧ c = c2 := by simpa using h1
    refine ⟨g2, 0, fun _ => rfl, fun i hi => ?_⟩
    rw [gm_len] at hi
    rw [Nat.zero_add, World.ownsRow.cellAt h i (by omega), gm_at f hi]
    simp [gv, hi]

def corF (t1 c1 t2 c2 rf : Int) (l : List (Int × Int)) (j : Nat) : Int := corV t1 c1 t2 c2 rf (gp l j)
noncomputable def corE (t1 c1 t2 c2 rf : Int) (l : List (Int × Int)) : Int := if endsB t1 c1 t2 c2 rf = true ∧ rdsB l t1 t2 = true then (if drB c1 rf = true ∨ drB c2 rf = true then 32 else 0) else 2
noncomputable def corL (t1 c1 t2 c2 rf : Int) (l : List (Int × Int)) : List Int := if corE t1 c1 t2 c2 rf l = 0 then gm (corF t1 c1 t2 c2 rf l) l.length else []
theorem cor_arg {t1 c1 t2 c2 rf : Int} {l : List (Int × Int)} (h : ¬ (endsB t1 c1 t2 c2 rf = true ∧ rdsB l t1 t2 = true)) : corE t1 c1 t2 c2 rf l = 2 ∧ corL t1 c1 t2 c2 rf l = [] := by
  have e : corE t1 c1 t2 c2 rf l = 2 := by unfold corE; rw [if_neg h]
  exact ⟨e, by unfold corL; rw [e]; rfl⟩
theorem cor_drift {t1 c1 t2 c2 rf : Int} {l : List (Int × Int)} (h : endsB t1 c1 t2 c2 rf = true ∧ rdsB l t1 t2 = true) (hd : drB c1 rf = true ∨ drB c2 rf = true) : corE t1 c1 t2 c2 rf l = 32 ∧ corL t1 c1 t2 c2 rf l = [] := by
  have e : corE t1 c1 t2 c2 rf l = 32 := by unfold corE; rw [if_pos h, if_pos hd]
  exact ⟨e, by unfold corL; rw [e]; rfl⟩
theorem cor_ok {t1 c1 t2 c2 rf : Int} {l : List (Int × Int)} (h : endsB t1 c1 t2 c2 rf = true ∧ rdsB l t1 t2 = true) (h1 : drB c1 rf = false) (h2 : drB c2 rf = false) : corE t1 c1 t2 c2 rf l = 0 ∧ corL t1 c1 t2 c2 rf l = gm (corF t1 c1 t2 c2 rf l) l.length := by
  have e : corE t1 c1 t2 c2 rf l = 0 := by unfold corE; rw [if_pos h, if_neg (by rw [h1, h2]; simp)]
  exact ⟨e, by unfold corL; rw [if_pos e]⟩

set_option maxRecDepth 100000 in
set_option maxHeartbeats 8000000 in
theorem Corrected_any (aa : Option Addr) (l : List (Int × Int)) (ca : Nat) (t1 c1 t2 c2 rf : Int) (w : World) (hA : PairsS w aa l) :
    Calls Try.prog 18 #[.slice aa l.length ca, .agg #[.int .i64 t1, .int .i64 c1], .agg #[.int .i64 t2, .int .i64 c2], .int .i64 rf] w fun e w' => ∃ a cap, e = .returned (.tuple #[.slice a (corL t1 c1 t2 c2 rf l).length cap, .int .i64 (corE t1 c1 t2 c2 rf l)]) ∧ IntsS w' a (corL t1 c1 t2 c2 rf l) ∧ Below w.heap.size w w' := by
  have hlen := hA.1
  have HE := Lib.hid (endsValid_any t1 c1 t2 c2 rf)
  have HR := Lib.hid (fun W (hW : Below w.heap.size w W) => readingsValid_any aa l ca t1 c1 t2 c2 W (hA.below hW))
  by_cases he : endsB t1 c1 t2 c2 rf = true
  · rw [he] at HE
    by_cases hr : rdsB l t1 t2 = true
    · rw [hr] at HR
      obtain ⟨⟨a0, a1⟩, ⟨b0, b1⟩, ⟨f0, f1⟩, ⟨g0, g1⟩, h0, h1⟩ := endsB_iff.1 he
      obtain ⟨h100, hrd⟩ := rdsB_iff.1 hr
      have HD1 := Lib.hid (fun W => drifted_any c1 rf W ⟨a0, a1⟩ ⟨h0, h1⟩)
      have HD2 := Lib.hid (fun W => drifted_any c2 rf W ⟨f0, f1⟩ ⟨h0, h1⟩)
      have i0 : ∀ w, (Instr.index 83 (.agg #[.int .i64 t1, .int .i64 c1, .int .i64 t2, .int .i64 c2]) (.int .i64 0)).run Try.prog w = .ok (.agg #[.int .i64 t1, .int .i64 c1]) w := fun _ => by kernel_rfl
      have i1 : ∀ w, (Instr.index 83 (.agg #[.int .i64 t1, .int .i64 c1, .int .i64 t2, .int .i64 c2]) (.int .i64 1)).run Try.prog w = .ok (.agg #[.int .i64 t2, .int .i64 c2]) w := fun _ => by kernel_rfl
      cases hd1 : drB c1 rf with
      | true =>
        obtain ⟨x1, x2⟩ := cor_drift ⟨he, hr⟩ (.inl hd1)
        rw [x1, x2]
        rw [hd1] at HD1
        clear x1 x2 he hr hrd hd1 hA
        go_enter Try.func18, Try.ntmps18
        go_wp2_with fail
        obtain ⟨wo, hwo⟩ : ∃ wo, ((w.alloc (.cells #[.int .i64 t1, .int .i64 c1] 44)).alloc (.cells #[.int .i64 t2, .int .i64 c2] 44)).alloc (.cells #[.int .i64 t1, .int .i64 c1, .int .i64 t2, .int .i64 c2] 83) = wo := ⟨_, rfl⟩
        have hbo : Below w.heap.size w wo := by rw [← hwo]; exact (((Below.refl _ _).alloc (Nat.le_refl _) _ : Below w.heap.size w (w.alloc _)).alloc (by simp) _).alloc (by first | (simp; omega) | simp) _
        have e0 : wo.cell? ⟨w.heap.size + 1 + 1, 0, none⟩ = some (.int .i64 t1) := by rw [← hwo]; simp [go_sem]
        have e1 : wo.cell? ⟨w.heap.size + 1 + 1, 1, none⟩ = some (.int .i64 c1) := by rw [← hwo]; simp [go_sem]
        have e2 : wo.cell? ⟨w.heap.size + 1 + 1, 2, none⟩ = some (.int .i64 t2) := by rw [← hwo]; simp [go_sem]
        have e3 : wo.cell? ⟨w.heap.size + 1 + 1, 3, none⟩ = some (.int .i64 c2) := by rw [← hwo]; simp [go_sem]
        rw [hwo]
        clear hwo
        refine (HE.out _).mono ?_
        rintro e w1 ⟨rfl, hb1⟩
        have e0 := cell_below e0 hb1
        have e1 := cell_below e1 hb1
        have e2 := cell_below e2 hb1
        have e3 := cell_below e3 hb1
        have hbo := hbo.trans (hb1.mono hbo.size)
        clear hb1
        go_wp2_with fail
        refine (HR.out _ hbo).mono ?_
        rintro e w2 ⟨rfl, hb2⟩
        have e0 := cell_below e0 hb2
        have e1 := cell_below e1 hb2
        have e2 := cell_below e2 hb2
        have e3 := cell_below e3 hb2
        have hbo := hbo.trans (hb2.mono hbo.size)
        clear hb2
        go_wp2_with fail
        refine wp_loop_rounds 1 ?_
        rw [rounds_succ]
        go_wp2_with (go_at_call 44; refine (HD1.out _).mono ?_; rintro e w' ⟨rfl, rfl⟩)
        go_ret2
        exact ⟨none, 0, rfl, ints_nil _, hbo.alloc hbo.size _⟩
      | false =>
        rw [hd1] at HD1
        cases hd2 : drB c2 rf with
        | true =>
          obtain ⟨x1, x2⟩ := cor_drift ⟨he, hr⟩ (.inr hd2)
          rw [x1, x2]
          rw [hd2] at HD2
          clear x1 x2 he hr hrd hd1 hd2 hA
          go_enter Try.func18, Try.ntmps18
          go_wp2_with fail
          obtain ⟨wo, hwo⟩ : ∃ wo, ((w.alloc (.cells #[.int .i64 t1, .int .i64 c1] 44)).alloc (.cells #[.int .i64 t2, .int .i64 c2] 44)).alloc (.cells #[.int .i64 t1, .int .i64 c1, .int .i64 t2, .int .i64 c2] 83) = wo := ⟨_, rfl⟩
          have hbo : Below w.heap.size w wo := by rw [← hwo]; exact (((Below.refl _ _).alloc (Nat.le_refl _) _ : Below w.heap.size w (w.alloc _)).alloc (by simp) _).alloc (by first | (simp; omega) | simp) _
          have e0 : wo.cell? ⟨w.heap.size + 1 + 1, 0, none⟩ = some (.int .i64 t1) := by rw [← hwo]; simp [go_sem]
          have e1 : wo.cell? ⟨w.heap.size + 1 + 1, 1, none⟩ = some (.int .i64 c1) := by rw [← hwo]; simp [go_sem]
          have e2 : wo.cell? ⟨w.heap.size + 1 + 1, 2, none⟩ = some (.int .i64 t2) := by rw [← hwo]; simp [go_sem]
          have e3 : wo.cell? ⟨w.heap.size + 1 + 1, 3, none⟩ = some (.int .i64 c2) := by rw [← hwo]; simp [go_sem]
          rw [hwo]
          clear hwo
          refine (HE.out _).mono ?_
          rintro e w1 ⟨rfl, hb1⟩
          have e0 := cell_below e0 hb1
          have e1 := cell_below e1 hb1
          have e2 := cell_below e2 hb1
          have e3 := cell_below e3 hb1
          have hbo := hbo.trans (hb1.mono hbo.size)
          clear hb1
          go_wp2_with fail
          refine (HR.out _ hbo).mono ?_
          rintro e w2 ⟨rfl, hb2⟩
          have e0 := cell_below e0 hb2
          have e1 := cell_below e1 hb2
          have e2 := cell_below e2 hb2
          have e3 := cell_below e3 hb2
          have hbo := hbo.trans (hb2.mono hbo.size)
          clear hb2
          go_wp2_with fail
          refine wp_loop_rounds 2 ?_
          rw [rounds_succ]
          go_wp2_with (go_at_call 44; refine (HD1.out _).mono ?_; rintro e w' ⟨rfl, rfl⟩)
          rw [rounds_succ]
          go_wp2_with (go_at_call 44; refine (HD2.out _).mono ?_; rintro e w' ⟨rfl, rfl⟩)
          go_ret2
          exact ⟨none, 0, rfl, ints_nil _, (hbo.alloc hbo.size _).alloc (by have := hbo.size; simp; omega) _⟩
        | false =>
          rw [hd2] at HD2
          obtain ⟨x1, x2⟩ := cor_ok ⟨he, hr⟩ hd1 hd2
          rw [x1, x2]
          have hEok := endsB_iff.1 he
          have HV : Hid (∀ j, j < l.length → I64 (corF t1 c1 t2 c2 rf l j)) := Lib.hid fun j hj => by
            have b := (corV_bd (p := gp l j) hEok (hrd j hj).1 (hrd j hj).2).2.2.2.2.2
            unfold corF I64
            omega
          have HC0 : Hid (∀ j, j < l.length → ∀ W, Calls Try.prog 45 #[.agg #[.int .i64 (gp l j).1, .int .i64 (gp l j).2], .agg #[.int .i64 t1, .int .i64 c1, .int .i64 t2, .int .i64 c2], .int .i64 rf] W fun e w' => e = .returned (.int .i64 (corF t1 c1 t2 c2 rf l j)) ∧ Below W.heap.size W w') := Lib.hid fun j hj W => corrected_any _ _ t1 c1 t2 c2 rf W hEok (hrd j hj).1 (hrd j hj).2
          obtain ⟨-, -, blk, off, hadr, hc⟩ := hA
          have HC := Lib.hid hc
          have HL : Hid (0 < l.length → aa = some ⟨blk, off, none⟩) := Lib.hid fun h => hadr (by rintro rfl; simp at h)
          have HGN := Lib.hid (gv_next (corF t1 c1 t2 c2 rf l))
          have HGL := Lib.hid (gm_len (corF t1 c1 t2 c2 rf l) l.length)
          have HRES : Hid (∀ W a c base, W.ownsRow base 3 1 (.slice a l.length c) l.length (gv (corF t1 c1 t2 c2 rf l) l.length) → IntsS W a (gm (corF t1 c1 t2 c2 rf l) l.length)) := Lib.hid fun W a c base h => ints_own h hlen HV.out
          rw [HGL.out]
          obtain ⟨n0, hi, hz0, hz1, hz2⟩ := info_parts intInfo
          clear x1 x2 he hr hrd hd1 hd2 hc hadr hEok HV
          generalize corF t1 c1 t2 c2 rf l = f at *
          go_enter Try.func18, Try.ntmps18
          go_wp2_with fail
          obtain ⟨wo, hwo⟩ : ∃ wo, ((w.alloc (.cells #[.int .i64 t1, .int .i64 c1] 44)).alloc (.cells #[.int .i64 t2, .int .i64 c2] 44)).alloc (.cells #[.int .i64 t1, .int .i64 c1, .int .i64 t2, .int .i64 c2] 83) = wo := ⟨_, rfl⟩
          have hbo : Below w.heap.size w wo := by rw [← hwo]; exact (((Below.refl _ _).alloc (Nat.le_refl _) _ : Below w.heap.size w (w.alloc _)).alloc (by simp) _).alloc (by first | (simp; omega) | simp) _
          have e0 : wo.cell? ⟨w.heap.size + 1 + 1, 0, none⟩ = some (.int .i64 t1) := by rw [← hwo]; simp [go_sem]
          have e1 : wo.cell? ⟨w.heap.size + 1 + 1, 1, none⟩ = some (.int .i64 c1) := by rw [← hwo]; simp [go_sem]
          have e2 : wo.cell? ⟨w.heap.size + 1 + 1, 2, none⟩ = some (.int .i64 t2) := by rw [← hwo]; simp [go_sem]
          have e3 : wo.cell? ⟨w.heap.size + 1 + 1, 3, none⟩ = some (.int .i64 c2) := by rw [← hwo]; simp [go_sem]
          rw [hwo]
          clear hwo
          refine (HE.out _).mono ?_
          rintro e w1 ⟨rfl, hb1⟩
          have e0 := cell_below e0 hb1
          have e1 := cell_below e1 hb1
          have e2 := cell_below e2 hb1
          have e3 := cell_below e3 hb1
          have hbo := hbo.trans (hb1.mono hbo.size)
          clear hb1
          go_wp2_with fail
          refine (HR.out _ hbo).mono ?_
          rintro e w2 ⟨rfl, hb2⟩
          have e0 := cell_below e0 hb2
          have e1 := cell_below e1 hb2
          have e2 := cell_below e2 hb2
          have e3 := cell_below e3 hb2
          have hbo := hbo.trans (hb2.mono hbo.size)
          clear hb2
          go_wp2_with fail
          refine wp_loop_rounds 3 ?_
          rw [rounds_succ]
          go_wp2_with (go_at_call 44; refine (HD1.out _).mono ?_; rintro e w' ⟨rfl, rfl⟩)
          rw [rounds_succ]
          go_wp2_with (go_at_call 44; refine (HD2.out _).mono ?_; rintro e w' ⟨rfl, rfl⟩)
          rw [rounds_succ]
          go_wp2_with fail
          obtain ⟨wq, hwq⟩ : ∃ wq, (w2.alloc (.cells #[.int .i64 t1, .int .i64 c1] 44)).alloc (.cells #[.int .i64 t2, .int .i64 c2] 44) = wq := ⟨_, rfl⟩
          have hb2q : Below w2.heap.size w2 wq := by rw [← hwq]; exact ((Below.refl _ _).alloc (Nat.le_refl _) _ : Below w2.heap.size w2 (w2.alloc _)).alloc (by simp) _
          have e0 := cell_below e0 hb2q
          have e1 := cell_below e1 hb2q
          have e2 := cell_below e2 hb2q
          have e3 := cell_below e3 hb2q
          have hbo := hbo.trans (hb2q.mono hbo.size)
          rw [hwq]
          clear hwq hb2q HD1 HD2 i0 i1 HE HR
          go_loopw [13, 40] (fun v i wr => ∃ k : Nat, k ≤ l.length ∧ i = .int .i64 k ∧ (∃ a c, v = .slice a k c) ∧ Hid (wr.ownsRow wq.heap.size 3 1 v k (gv f k)) ∧ Below wq.heap.size wq wr) (fun _ i _ => l.length - (intOf i).toNat)
          case atStart => exact ⟨0, Nat.zero_le _, rfl, ⟨none, 0, rfl⟩, Lib.hid ⟨rfl, .inl ⟨rfl, rfl⟩⟩, Below.refl _ _⟩
          case round =>
            obtain ⟨k, hk, rfl, ⟨ar, cr, rfl⟩, HRow, hbr⟩ := hrel
            have hbw := hbo.trans (hbr.mono hbo.size)
            have hbs := hbr.size
            by_cases hlt : k < l.length
            · obtain rfl := HL.out (by omega)
              have d0 := cell_below (HC.out k hlt).1 hbw
              have d1 := cell_below (HC.out k hlt).2 hbw
              have e0 := cell_below e0 hbr
              have e1 := cell_below e1 hbr
              have e2 := cell_below e2 hbr
              have e3 := cell_below e3 hbr
              have hze := block_lt e0
              have hne : w.heap.size + 1 + 1 ≠ wr.heap.size := by omega
              have HCk := Lib.hid (HC0.out k hlt)
              have HNk := Lib.hid (HGN.out k)
              clear HC HC0 HGN HL HRES
              generalize (gp l k).1 = x at *
              generalize (gp l k).2 = y at *
              generalize f k = z at *
              go_wp2_with fail
              refine (HCk.out _).mono ?_
              rintro e w5 ⟨rfl, hb5⟩
              have hb5 : Below wr.heap.size wr w5 := box_below hb5
              have hown := Lib.hid ((owns_below HRow.out hb5).alloc (.cells #[.int .i64 z] 3))
              have hbs5 := hb5.size
              go_wp2_with (first | (at_builtin; go_loud (refine wpList_append_lies _ rfl _ _ 22 rfl wq.heap.size 3 n0 _ 1 8 Try.underlying22 hi hz0 hz1 hz2 rfl (by decide) (.slice ar k cr) k _ (by rfl) hown.out ⟨w5.heap.size, 0, none⟩ 1 1 [.int .i64 z] (by rfl) (by rfl) ?d1 ?d2 (by decide) ?d3 ?d4 ?d5 _ rfl ?_)))
              case d1 =>
                refine World.news_of_block (cs := #[.int .i64 z]) (t := 3) (fr := (0, 0)) ?_
                exact heap_alloc_new _ _
              case d2 => simp [Value.oneCell']
              case d3 => unfold maxLen; omega
              case d4 => omega
              case d5 => first | (simp; omega) | simp
              intro g c2' w6 hown6 hgrow6 hat6 hlt6
              have hb6 : Below wq.heap.size wq w6 := (((hbr.trans (hb5.mono hbs)).alloc (by omega) _).grown hgrow6 (by first | (simp; omega) | simp) (fun z hz => by
                rcases hown.out.2 with ⟨h, _⟩ | ⟨g2, c3, cur, h1, h2, _⟩
                · rw [h] at hz; simp [Value.ownBlock] at hz
                · rw [h1] at hz; simp [Value.ownBlock] at hz; omega))
              go_wp2_with fail
              go_roundw
              case rel => exact ⟨k + 1, by omega, by go_num, ⟨_, c2', rfl⟩, Lib.hid (by rw [HNk.out]; exact hown6), hb6⟩
              case measure => simp [intOf]; omega
            · obtain rfl : k = l.length := by omega
              have HI := Lib.hid (HRES.out _ _ _ _ HRow.out)
              clear HRES HRow
              go_wp2_with fail
              go_ret2
              exact ⟨ar, cr, rfl, HI.out, hbw⟩
    · have hr2 : rdsB l t1 t2 = false := by simpa using hr
      rw [hr2] at HR
      obtain ⟨x1, x2⟩ := cor_arg (t1 := t1) (c1 := c1) (t2 := t2) (c2 := c2) (rf := rf) (l := l) (fun h => hr h.2)
      rw [x1, x2]
      clear x1 x2 he hr hr2 hA
      go_enter Try.func18, Try.ntmps18
      go_wp2_with fail
      obtain ⟨wo, hwo⟩ : ∃ wo, ((w.alloc (.cells #[.int .i64 t1, .int .i64 c1] 44)).alloc (.cells #[.int .i64 t2, .int .i64 c2] 44)).alloc (.cells #[.int .i64 t1, .int .i64 c1, .int .i64 t2, .int .i64 c2] 83) = wo := ⟨_, rfl⟩
      have hbo : Below w.heap.size w wo := by rw [← hwo]; exact (((Below.refl _ _).alloc (Nat.le_refl _) _ : Below w.heap.size w (w.alloc _)).alloc (by simp) _).alloc (by first | (simp; omega) | simp) _
      have e0 : wo.cell? ⟨w.heap.size + 1 + 1, 0, none⟩ = some (.int .i64 t1) := by rw [← hwo]; simp [go_sem]
      have e1 : wo.cell? ⟨w.heap.size + 1 + 1, 1, none⟩ = some (.int .i64 c1) := by rw [← hwo]; simp [go_sem]
      have e2 : wo.cell? ⟨w.heap.size + 1 + 1, 2, none⟩ = some (.int .i64 t2) := by rw [← hwo]; simp [go_sem]
      have e3 : wo.cell? ⟨w.heap.size + 1 + 1, 3, none⟩ = some (.int .i64 c2) := by rw [← hwo]; simp [go_sem]
      rw [hwo]
      clear hwo
      refine (HE.out _).mono ?_
      rintro e w1 ⟨rfl, hb1⟩
      have e0 := cell_below e0 hb1
      have e1 := cell_below e1 hb1
      have e2 := cell_below e2 hb1
      have e3 := cell_below e3 hb1
      have hbo := hbo.trans (hb1.mono hbo.size)
      clear hb1
      go_wp2_with fail
      refine (HR.out _ hbo).mono ?_
      rintro e w2 ⟨rfl, hb2⟩
      have e0 := cell_below e0 hb2
      have e1 := cell_below e1 hb2
      have e2 := cell_below e2 hb2
      have e3 := cell_below e3 hb2
      have hbo := hbo.trans (hb2.mono hbo.size)
      clear hb2
      go_wp2_with fail
      go_ret2
      exact ⟨none, 0, rfl, ints_nil _, hbo⟩
  · have he2 : endsB t1 c1 t2 c2 rf = false := by simpa using he
    rw [he2] at HE
    obtain ⟨x1, x2⟩ := cor_arg (t1 := t1) (c1 := c1) (t2 := t2) (c2 := c2) (rf := rf) (l := l) (fun h => he h.1)
    rw [x1, x2]
    clear x1 x2 he he2 hA
    go_enter Try.func18, Try.ntmps18
    go_wp2_with fail
    obtain ⟨wo, hwo⟩ : ∃ wo, ((w.alloc (.cells #[.int .i64 t1, .int .i64 c1] 44)).alloc (.cells #[.int .i64 t2, .int .i64 c2] 44)).alloc (.cells #[.int .i64 t1, .int .i64 c1, .int .i64 t2, .int .i64 c2] 83) = wo := ⟨_, rfl⟩
    have hbo : Below w.heap.size w wo := by rw [← hwo]; exact (((Below.refl _ _).alloc (Nat.le_refl _) _ : Below w.heap.size w (w.alloc _)).alloc (by simp) _).alloc (by first | (simp; omega) | simp) _
    have e0 : wo.cell? ⟨w.heap.size + 1 + 1, 0, none⟩ = some (.int .i64 t1) := by rw [← hwo]; simp [go_sem]
    have e1 : wo.cell? ⟨w.heap.size + 1 + 1, 1, none⟩ = some (.int .i64 c1) := by rw [← hwo]; simp [go_sem]
    have e2 : wo.cell? ⟨w.heap.size + 1 + 1, 2, none⟩ = some (.int .i64 t2) := by rw [← hwo]; simp [go_sem]
    have e3 : wo.cell? ⟨w.heap.size + 1 + 1, 3, none⟩ = some (.int .i64 c2) := by rw [← hwo]; simp [go_sem]
    rw [hwo]
    clear hwo
    refine (HE.out _).mono ?_
    rintro e w1 ⟨rfl, hb1⟩
    have e0 := cell_below e0 hb1
    have e1 := cell_below e1 hb1
    have e2 := cell_below e2 hb1
    have e3 := cell_below e3 hb1
    have hbo := hbo.trans (hb1.mono hbo.size)
    clear hb1
    go_wp2_with fail
    go_ret2
    exact ⟨none, 0, rfl, ints_nil _, hbo⟩
end Go.Proofs.Ytkddmjadilmldaa
