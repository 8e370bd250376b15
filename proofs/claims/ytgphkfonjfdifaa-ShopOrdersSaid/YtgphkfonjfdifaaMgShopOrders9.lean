/-
  The reference's Judge. By an AI agent.
-/
import Derived.Test.YtgphkfonjfdifaaMgShopOrders8
import Derived.Deep.RegionHeld3
import Derived.BigRegion
import Derived.BigQuiet
import Derived.Deep.DeepCutAuto

namespace Go.Proofs.Ytgphkfonjfdifaa
set_option linter.unusedVariables false
set_option linter.unusedSimpArgs false
open Go.RowKit

theorem fl_shape (J : List (List Stp)) : ∀ i, i ≤ J.length → ∀ n, n < (flI J i).length → ∃ a b : Nat, a < i ∧ b < (gj J a).length ∧ n = (flI J a).length + b ∧ gp (flI J i) n = ((a : Int), (b : Int))
  | 0, _, n, h => by simp [flI] at h
  | i + 1, hi, n, h => by
    by_cases hn : n < (flI J i).length
    · obtain ⟨a, b, h1, h2, h3, h4⟩ := fl_shape J i (by omega) n hn
      refine ⟨a, b, by omega, h2, h3, ?_⟩
      rw [flI]
      unfold gp at h4 ⊢
      rw [List.getD_eq_getElem?_getD, List.getElem?_append_left hn, ← List.getD_eq_getElem?_getD]
      exact h4
    · rw [flI, List.length_append, rowP_len] at h
      refine ⟨i, n - (flI J i).length, by omega, by omega, by omega, ?_⟩
      rw [flI]
      unfold gp
      rw [List.getD_eq_getElem?_getD, List.getElem?_append_right (by omega)]
      unfold rowP
      rw [List.getElem?_map, List.getElem?_range (by omega)]
      rfl
theorem fl_prev {J : List (List Stp)} {n a b : Nat} (hn : n < (flP J).length) (h : gp (flP J) n = ((a : Int), ((b + 1 : Nat) : Int))) : 0 < n ∧ gp (flP J) (n - 1) = ((a : Int), (b : Int)) := by
  obtain ⟨a1, b1, h1, h2, h3, h4⟩ := fl_shape J J.length (Nat.le_refl _) n hn
  have h5 : gp (flI J J.length) n = ((a : Int), ((b + 1 : Nat) : Int)) := h
  rw [h4] at h5
  have ea : a1 = a := by have := congrArg Prod.fst h5; simp only at this; omega
  have eb : b1 = b + 1 := by have := congrArg Prod.snd h5; simp only at this; omega
  subst ea eb
  have hn1 : n - 1 < (flP J).length := by omega
  obtain ⟨a2, b2, g1, g2, g3, g4⟩ := fl_shape J J.length (Nat.le_refl _) (n - 1) hn1
  refine ⟨by omega, ?_⟩
  -- the place of (a, b) is n - 1
  obtain ⟨m, hm, em⟩ := fl_ix (J := J) (a := a1) (b := b) h1 (by omega)
  obtain ⟨a3, b3, k1, k2, k3, k4⟩ := fl_shape J J.length (Nat.le_refl _) m hm
  have h6 : gp (flI J J.length) m = ((a1 : Int), (b : Int)) := em
  rw [k4] at h6
  have e3 : a3 = a1 := by have := congrArg Prod.fst h6; simp only at this; omega
  have e4 : b3 = b := by have := congrArg Prod.snd h6; simp only at this; omega
  subst e3 e4
  have : m = n - 1 := by omega
  rw [← this]
  exact em
/-- The checks in the words of the reference. -/
theorem chk0_ref {s : Sh} {P : List (List Int)} {n a b : Nat} (hn : n < (flP s.J).length) (h : gp (flP s.J) n = ((a : Int), (b : Int))) : chk s (plcL s P) 0 n = !(inShB s.O s.C s.H (gi (gr P a) b) (gs (gj s.J a) b).2.1) := by
  unfold chk
  rw [if_pos rfl, plcL_at s P hn, h]
  unfold plcO stpP sttP
  simp only [Int.toNat_natCast]
theorem chk1_ref {s : Sh} {P : List (List Int)} {n a b : Nat} (hO : PlanOk s P) (hn : n < (flP s.J).length) (ha : a < s.J.length) (hb : b < (gj s.J a).length) (h : gp (flP s.J) n = ((a : Int), (b : Int))) : chk s (plcL s P) 1 n = decide (gi (gr P a) b < rdyV s P a b) := by
  unfold chk
  rw [if_neg (by decide), if_pos rfl]
  unfold erl
  rw [plcL_at s P hn, h]
  have h0 := ((hO.2 a (by rw [hO.1]; exact ha)).2 b (by rw [(hO.2 a (by rw [hO.1]; exact ha)).1]; exact hb)).1
  cases b with
  | zero =>
    unfold rdyV plcO
    rw [if_pos rfl, decide_eq_false (show ¬ gi (gr P a) 0 < 0 by omega)]
    simp
  | succ b =>
    obtain ⟨h1, h2⟩ := fl_prev hn h
    rw [plcL_at s P (show n - 1 < (flP s.J).length by omega), h2]
    unfold rdyV plcO stpP sttP
    rw [if_neg (by omega), Nat.add_sub_cancel]
    simp only [Int.toNat_natCast]
    rw [decide_eq_true (show (0 : Int) < ((b + 1 : Nat) : Int) by omega), Bool.true_and]
theorem clB_ap {s : Sh} (a b : Stp) (t u : Int) : clB s.S a t b u = (decide (a.1 = b.1) && !(apB s.S a t b u)) := by
  unfold clB apB
  by_cases h : a.1 = b.1
  · have hw : waitV s.S b a = waitV s.S a b := by
      unfold waitV
      rw [h]
      by_cases hc : b.2.2.1 = a.2.2.1
      · rw [if_pos hc, if_pos hc.symm]
      · rw [if_neg hc, if_neg (fun e => hc e.symm)]
    rw [hw, decide_eq_true h, Bool.true_and, Bool.true_and, Bool.eq_iff_iff]
    simp only [Bool.and_eq_true, decide_eq_true_eq, Bool.not_eq_true', Bool.or_eq_false_iff, decide_eq_false_iff_not]
    omega
  · rw [decide_eq_false h]; rfl
theorem chk2_ref {s : Sh} {P : List (List Int)} (n : Nat) (hn : n < (flP s.J).length) : chk s (plcL s P) 2 n = anyK (fun k => decide ((stpP s (gp (flP s.J) n)).1 = (stpP s (gp (flP s.J) (n + 1 + k))).1) && !(apB s.S (stpP s (gp (flP s.J) n)) (sttP P (gp (flP s.J) n)) (stpP s (gp (flP s.J) (n + 1 + k))) (sttP P (gp (flP s.J) (n + 1 + k))))) ((flP s.J).length - (n + 1)) := by
  unfold chk
  rw [if_neg (by decide), if_neg (by decide)]
  unfold cls
  rw [plcL_len]
  have key : ∀ m, m ≤ (flP s.J).length - (n + 1) → ∀ p q : Nat → Bool, (∀ k, k < m → p k = q k) → anyK p m = anyK q m := fun m => by
    induction m with
    | zero => intros; rfl
    | succ m ih =>
      intro hm p q hpq
      rw [anyK, anyK, ih (by omega) p q (fun k hk => hpq k (by omega)), hpq m (by omega)]
  refine key _ (Nat.le_refl _) _ _ fun k hk => ?_
  rw [plcL_at s P hn, plcL_at s P (show n + 1 + k < (flP s.J).length by omega), clB_ap]
  rfl
/-- A start in a row in memory. -/
theorem row_cell {w : World} {ad : Option Addr} {r : List Int} (h : IntsS w ad r) {b : Nat} (hb : b < r.length) : ∃ rb ro, ad = some ⟨rb, ro, none⟩ ∧ w.cell? ⟨rb, ro + b, none⟩ = some (.int .i64 (gi r b)) := by
  obtain ⟨h0, h1, rb, ro, h2, h3⟩ := h
  exact ⟨rb, ro, h2 (by rintro rfl; simp at hb), h3 b hb⟩
set_option maxRecDepth 100000 in
set_option maxHeartbeats 4000000 in
theorem refJudge_good (s : Sh) (ap : Option Addr) (P : List (List Int)) (cp : Nat) (w : World) (hI : ShS w s) (hV : ShOk s) (hP : RowsS w ap P) (hO : PlanOk s P) :
    Calls Try.prog 16 #[.agg #[.int .i64 s.O, .int .i64 s.C, .slice s.aH s.H.length s.cH, .int .i64 s.M, .slice s.aS s.S.length s.cS, .slice s.aJ s.J.length s.cJ], .slice ap P.length cp] w fun e w' => e = .returned (.tuple #[.int .i64 (judT s (plcL s P)).1, .int .i64 (judT s (plcL s P)).2.1, .int .i64 (judT s (plcL s P)).2.2]) ∧ Below w.heap.size w w' := by
  have HSh := Lib.hid (fun W (hW : Below w.heap.size w W) => shaped_sh s ap P cp W (hI.below hW) hV (hP.below hW))
  rw [planB_t hO] at HSh
  have HLs := Lib.hid (fun W (hW : Below w.heap.size w W) => list_sh s W (hI.below hW) hV)
  have HAt := Lib.hid (fun a b (ha : a < s.J.length) (hb : b < (gj s.J a).length) W (hW : Below w.heap.size w W) => at_sh s a b W (hI.below hW) hV ha hb)
  have HSf := Lib.hid (fun x m (h1 : 0 ≤ x ∧ x ≤ 100000000) (h2 : 0 ≤ m ∧ m ≤ 1440) W (hW : Below w.heap.size w W) => shift_sh s x m W (hI.below hW).1 hV.2.1.1 hV.1.1 hV.1.2.1 hV.1.2.2 h1.1 (by omega) (by omega) (by omega))
  have HRd := Lib.hid (fun a b (ha : a < s.J.length) (hb : b < (gj s.J a).length) W (hW : Below w.heap.size w W) => ready_sh s ap P cp a b W (hI.below hW) hV (hP.below hW) hO ha hb)
  have HApt := Lib.hid (fun x y u v W (hW : Below w.heap.size w W) (a0 : 0 ≤ x.1 ∧ x.1 < s.M) (a1 : 1 ≤ x.2.1 ∧ x.2.1 ≤ 1440) (b1 : 1 ≤ y.2.1 ∧ y.2.1 ≤ 1440) (t0 : 0 ≤ u ∧ u ≤ 100000000) (u0 : 0 ≤ v ∧ v ≤ 100000000) => apart_sh s x y u v W (hI.below hW).2.1 hV.2.2.1.2.1 hV.2.2.1.2.2 a0 a1 b1 t0 u0)
  have HAT : Hid (∀ j n, j < 3 → (∀ k, k < j → ∀ m, m < (flP s.J).length → chk s (plcL s P) k m = false) → n < (flP s.J).length → (∀ m, m < n → chk s (plcL s P) j m = false) → chk s (plcL s P) j n = true → judT s (plcL s P) = ((gp (flP s.J) n).1, (gp (flP s.J) n).2, ((51 + j : Nat) : Int))) := Lib.hid fun j n hj h0 hn h1 h2 => by
    rw [jud_at hj (fun k hk m hm => h0 k hk m (by rw [plcL_len] at hm; exact hm)) (by rw [plcL_len]; exact hn) h1 h2, plcL_at s P hn]
    rfl
  have HNO : Hid ((∀ k, k < 3 → ∀ m, m < (flP s.J).length → chk s (plcL s P) k m = false) → judT s (plcL s P) = (0, 0, 0)) := Lib.hid fun h => jud_ok fun k hk m hm => h k hk m (by rw [plcL_len] at hm; exact hm)
  have HK0 : Hid (∀ n a b : Nat, n < (flP s.J).length → gp (flP s.J) n = ((a : Int), (b : Int)) → chk s (plcL s P) 0 n = !(inShB s.O s.C s.H (gi (gr P a) b) (gs (gj s.J a) b).2.1)) := Lib.hid fun n a b h1 h2 => chk0_ref h1 h2
  have HK1 : Hid (∀ n a b : Nat, n < (flP s.J).length → a < s.J.length → b < (gj s.J a).length → gp (flP s.J) n = ((a : Int), (b : Int)) → chk s (plcL s P) 1 n = decide (gi (gr P a) b < rdyV s P a b)) := Lib.hid fun n a b h1 h2 h3 h4 => chk1_ref hO h1 h2 h3 h4
  have HK2 := Lib.hid (fun n hn => chk2_ref (s := s) (P := P) n hn)
  have hfl : (flP s.J).length ≤ 200 := by have := flI_len hV s.J.length (Nat.le_refl _); have := hV.2.2.2.1; unfold flP; omega
  have HRb : Hid (∀ a b, a < s.J.length → b < (gj s.J a).length → 0 ≤ rdyV s P a b ∧ rdyV s P a b ≤ 200000000) := Lib.hid fun a b ha hb => by
    unfold rdyV
    split
    · omega
    · have h1 := (hV.2.2.2.2 a ha).2 (b - 1) (by omega)
      have h2 := (hO.2 a (by rw [hO.1]; exact ha)).2 (b - 1) (by rw [(hO.2 a (by rw [hO.1]; exact ha)).1]; omega)
      obtain ⟨⟨o0, o1, o2⟩, _⟩ := hV
      unfold stpOk at h1
      omega
  obtain ⟨hlP, pb, po, ad, cq, hadr, hc⟩ := hP
  have HR0 : Hid (∀ a, a < P.length → w.cell? ⟨pb, po + a, none⟩ = some (.slice (ad a) (gr P a).length (cq a)) ∧ IntsS w (ad a) (gr P a)) := Lib.hid fun a ha => ⟨(hc a ha).1, (hc a ha).2.1⟩
  have HLa : Hid (0 < P.length → ap = some ⟨pb, po, none⟩) := Lib.hid fun h => hadr (List.ne_nil_of_length_pos h)
  have HO := Lib.hid hO
  have HVV := Lib.hid hV
  have hPJ := hO.1
  obtain ⟨N, hN⟩ : ∃ N, (flP s.J).length = N := ⟨_, rfl⟩
  rw [hN] at HAT HNO HK0 HK1 HK2 HLs hfl
  generalize judT s (plcL s P) = J3 at *
  clear hI hO hV hadr hc
  have HB := Lib.hid (ShBox.start w s 25)
  have HPJ := Lib.hid hPJ
  have HNN := Lib.hid hN
  clear hPJ hN
  go_enter Try.func16, Try.ntmps16
  go_wp2_with fail
  obtain ⟨wB, hwB⟩ : ∃ wB, w.alloc (.cells #[.int .i64 s.O, .int .i64 s.C, .slice s.aH s.H.length s.cH, .int .i64 s.M, .slice s.aS s.S.length s.cS, .slice s.aJ s.J.length s.cJ] 25) = wB := ⟨_, rfl⟩
  rw [hwB] at HB ⊢
  clear hwB
  obtain ⟨hb, p0, p1, p2, p3, p4, p5⟩ := HB.out
  clear HB
  go_wp2_with (first | (go_at_call 46; refine (HSh.out _ hb).mono ?_; rintro e w1 ⟨rfl, hb1⟩; replace hb := hb.trans (hb1.mono hb.size); replace p0 := cell_below p0 hb1; replace p1 := cell_below p1 hb1; replace p2 := cell_below p2 hb1; replace p3 := cell_below p3 hb1; replace p4 := cell_below p4 hb1; replace p5 := cell_below p5 hb1; clear hb1) | (go_at_call 47; refine (HLs.out _ hb).mono ?_; rintro e w2 ⟨la, lc, rfl, hPS, hb1⟩; replace hb := hb.trans (hb1.mono hb.size); replace p0 := cell_below p0 hb1; replace p1 := cell_below p1 hb1; replace p2 := cell_below p2 hb1; replace p3 := cell_below p3 hb1; replace p4 := cell_below p4 hb1; replace p5 := cell_below p5 hb1; clear hb1))
  obtain ⟨wL, rfl⟩ : ∃ wL : World, wL = w2 := ⟨_, rfl⟩
  obtain ⟨hl9, hi64, lb, lo, hadr, hc⟩ := hPS
  rw [HNN.out] at hc
  have HC := Lib.hid hc
  have HLl : Hid (0 < N → la = some ⟨lb, lo, none⟩) := Lib.hid fun h => hadr (by intro e; have h9 := HNN.out; rw [e] at h9; simp at h9; omega)
  have HR : Hid (∀ a, a < P.length → wL.cell? ⟨pb, po + a, none⟩ = some (.slice (ad a) (gr P a).length (cq a)) ∧ IntsS wL (ad a) (gr P a)) := Lib.hid fun a ha => ⟨cell_below (HR0.out a ha).1 hb, (HR0.out a ha).2.below hb⟩
  have HP0 := Lib.hid p0
  have HP1 := Lib.hid p1
  have HP2 := Lib.hid p2
  have HP3 := Lib.hid p3
  have HP4 := Lib.hid p4
  have HP5 := Lib.hid p5
  have HBL := Lib.hid hb
  clear hadr hc hi64 hl9 p0 p1 p2 p3 p4 p5 hb HSh HLs HR0
  have HST0 : Hid (Below wL.heap.size wL wL) := Lib.hid (Below.refl _ _)
  have HF0 : Hid (∀ k, k < 0 → ∀ m, m < N → chk s (plcL s P) k m = false) := Lib.hid fun k hk => absurd hk (Nat.not_lt_zero _)
  go_wp2_with fail
  go_loopw [8] (fun i wr => ∃ n : Nat, n ≤ N ∧ i = .int .i64 n ∧ Below wL.heap.size wL wr ∧ Hid (∀ m, m < n → chk s (plcL s P) 0 m = false)) (fun i _ => N - (intOf i).toNat)
  case atStart => exact ⟨0, Nat.zero_le _, rfl, HST0.out, Lib.hid fun m hm => absurd hm (Nat.not_lt_zero _)⟩
  case round =>
    obtain ⟨n, hn, rfl, hbr, HN⟩ := hrel
    by_cases hlt : n < N
    · obtain rfl := HLl.out (by omega)
      have hnl : n < (flP s.J).length := by rw [HNN.out]; exact hlt
      obtain ⟨a, b, egc, hac, hbc⟩ := flP_at (J := s.J) (n := n) hnl
      have haPc : a < P.length := by have := HO.out.1; omega
      have hbPc : b < (gr P a).length := by have := (HO.out.2 a haPc).1; omega
      obtain ⟨c0, c1⟩ := HC.out n (by omega)
      rw [egc] at c0 c1
      obtain ⟨gc, hrowc⟩ := HR.out a haPc
      obtain ⟨rb, ro, eac, hc⟩ := row_cell hrowc hbPc
      rw [eac] at gc
      have hstc := (HO.out.2 a haPc).2 b hbPc
      have hspc := (HVV.out.2.2.2.2 a hac).2 b hbc
      obtain rfl := HLa.out (by omega)
      have p0 := cell_below HP0.out hbr
      have p1 := cell_below HP1.out hbr
      have p2 := cell_below HP2.out hbr
      have p3 := cell_below HP3.out hbr
      have p4 := cell_below HP4.out hbr
      have p5 := cell_below HP5.out hbr
      have hzp := block_lt p0
      have c0 := cell_below c0 hbr
      have c1 := cell_below c1 hbr
      have gc := cell_below gc hbr
      have hc := cell_below hc hbr
      have hzc := block_lt c0
      have hzg := block_lt gc
      have hzh := block_lt hc
      have haI : (a : Int) < P.length := by omega
      have hbI : (b : Int) < (gr P a).length := by omega
      have hnI : (n : Int) < N := by omega
      have HbR := Lib.hid (HBL.out.trans (hbr.mono HBL.out.size))
      have Hbr := Lib.hid hbr
      have HAtn := Lib.hid (fun W (hW : Below w.heap.size w W) => HAt.out a b hac hbc W hW)
      have HSfn := Lib.hid (fun W (hW : Below w.heap.size w W) => HSf.out (gi (gr P a) b) (gs (gj s.J a) b).2.1 hstc (by unfold stpOk at hspc; have := HVV.out.1; omega) W hW)
      have HNx : Hid (chk s (plcL s P) 0 n = false → ∀ m, m < n + 1 → chk s (plcL s P) 0 m = false) := Lib.hid fun h m hm => by
        by_cases e : m = n
        · subst e; exact h
        · exact HN.out m (by omega)
      have HHit : Hid (chk s (plcL s P) 0 n = true → J3 = ((a : Int), (b : Int), 51)) := Lib.hid fun h => by
        have h9 := HAT.out 0 n (by decide) HF0.out hlt HN.out h
        rw [egc] at h9
        exact h9
      have hchk := HK0.out n a b hlt egc
      clear hbr HN
      generalize gi (gr P a) b = x at *
      generalize gs (gj s.J a) b = y at *
      generalize inShB s.O s.C s.H x y.2.1 = bb at *
      have f1 : ∀ W, (Instr.field 57 (.agg #[.int .i64 y.1, .int .i64 y.2.1, .int .i64 y.2.2.1, .int .i64 y.2.2.2]) 1).run Try.prog W = .ok (.int .i64 y.2.1) W := fun _ => by kernel_rfl
      clear HAt HSf HRd HApt HAT HNO HK0 HK1 HK2 HRb HR HLa HC HO HVV HPJ
      have HCk := Lib.hid hchk
      clear hchk egc hac hbc haPc hbPc hrowc eac hstc hspc
      go_wp2_with fail
      refine wp_region_held_drew (S := fun w' => Below wr.heap.size wr w') (by kernel_rfl) ((Below.refl _ _).drew) (fun hHeld => ?_)
      refine wpAnyH_take (i := 0) (oi := { dst := some 26, op := Go.Op.load 25 (Go.Operand.tmp 2), type := 25, pos := "ref.go:159", after := #[], guard := none }) (v := .agg #[.int .i64 s.O, .int .i64 s.C, .slice s.aH s.H.length s.cH, .int .i64 s.M, .slice s.aS s.S.length s.cS, .slice s.aJ s.J.length s.cJ]) rfl (by kernel_rfl) (by kernel_rfl) (by kernel_rfl) (fun _ _ _ h => h) (.inl ⟨by kernel_rfl, fun w9 h9 => by
        clear hHeld
        have d0 := (h9.cell (p := ⟨w.heap.size, 0, none⟩) hzp).trans p0
        have d1 := (h9.cell (p := ⟨w.heap.size, 1, none⟩) hzp).trans p1
        have d2 := (h9.cell (p := ⟨w.heap.size, 2, none⟩) hzp).trans p2
        have d3 := (h9.cell (p := ⟨w.heap.size, 3, none⟩) hzp).trans p3
        have d4 := (h9.cell (p := ⟨w.heap.size, 4, none⟩) hzp).trans p4
        have d5 := (h9.cell (p := ⟨w.heap.size, 5, none⟩) hzp).trans p5
        clear h9
        go_simp⟩) hHeld ?_
      refine takeU (i := 1) (some 27) (.slice (some ⟨pb, po, none⟩) P.length cp) (by kernel_rfl) (by kernel_rfl) (by kernel_rfl) (by kernel_rfl) (by kernel_rfl) (fun _ => by kernel_rfl) (fun _ _ _ h => h) hHeld ?_
      refine takeU (i := 2) (some 28) (.slice (some ⟨lb, lo, none⟩) N lc) (by kernel_rfl) (by kernel_rfl) (by kernel_rfl) (by kernel_rfl) (by kernel_rfl) (fun _ => by kernel_rfl) (fun _ _ _ h => h) hHeld ?_
      refine takeU (i := 3) (some 29) (.int .i64 n) (by kernel_rfl) (by kernel_rfl) (by kernel_rfl) (by kernel_rfl) (by kernel_rfl) (fun _ => by kernel_rfl) (fun _ _ _ h => h) hHeld ?_
      refine wpAnyH_take (i := 4) (oi := { dst := some 30, op := Go.Op.indexAddr 36 (Go.Operand.tmp 28) (Go.Operand.tmp 29), type := 0, pos := "ref.go:159", after := #[{ on := 2, ground := Go.Ground.data }, { on := 3, ground := Go.Ground.data }], guard := none }) (v := .pointer (some ⟨lb, lo + n * 2, none⟩)) rfl (by kernel_rfl) (by kernel_rfl) (by kernel_rfl) (fun _ _ _ h => h) (.inl ⟨by kernel_rfl, fun w9 h9 => by
        clear hHeld h9
        go_simp⟩) hHeld ?_
      refine wpAnyH_take (i := 5) (oi := { dst := some 31, op := Go.Op.indexAddr 76 (Go.Operand.tmp 30) (Go.Operand.const (Go.Value.int Go.IntKind.i64 0)), type := 0, pos := "ref.go:159", after := #[{ on := 4, ground := Go.Ground.data }], guard := none }) (v := .pointer (some ⟨lb, lo + n * 2, none⟩)) rfl (by kernel_rfl) (by kernel_rfl) (by kernel_rfl) (fun _ _ _ h => h) (.inl ⟨by kernel_rfl, fun w9 h9 => by
        clear hHeld h9
        go_simp⟩) hHeld ?_
      refine wpAnyH_take (i := 6) (oi := { dst := some 32, op := Go.Op.load 3 (Go.Operand.tmp 31), type := 3, pos := "ref.go:159", after := #[{ on := 5, ground := Go.Ground.data }], guard := none }) (v := .int .i64 a) rfl (by kernel_rfl) (by kernel_rfl) (by kernel_rfl) (fun _ _ _ h => h) (.inl ⟨by kernel_rfl, fun w9 h9 => by
        clear hHeld
        have d0 := (h9.cell (p := ⟨lb, lo + n * 2, none⟩) hzc).trans c0
        clear h9
        go_simp⟩) hHeld ?_
      refine wpAnyH_take (i := 7) (oi := { dst := some 33, op := Go.Op.indexAddr 26 (Go.Operand.tmp 27) (Go.Operand.tmp 32), type := 0, pos := "ref.go:159", after := #[{ on := 1, ground := Go.Ground.data }, { on := 6, ground := Go.Ground.data }], guard := none }) (v := .pointer (some ⟨pb, po + a, none⟩)) rfl (by kernel_rfl) (by kernel_rfl) (by kernel_rfl) (fun _ _ _ h => h) (.inl ⟨by kernel_rfl, fun w9 h9 => by
        clear hHeld h9
        go_simp⟩) hHeld ?_
      refine wpAnyH_take (i := 8) (oi := { dst := some 34, op := Go.Op.load 22 (Go.Operand.tmp 33), type := 22, pos := "ref.go:159", after := #[{ on := 7, ground := Go.Ground.data }], guard := none }) (v := .slice (some ⟨rb, ro, none⟩) (gr P a).length (cq a)) rfl (by kernel_rfl) (by kernel_rfl) (by kernel_rfl) (fun _ _ _ h => h) (.inl ⟨by kernel_rfl, fun w9 h9 => by
        clear hHeld
        have d0 := (h9.cell (p := ⟨pb, po + a, none⟩) hzg).trans gc
        clear h9
        go_simp⟩) hHeld ?_
      refine takeU (i := 9) (some 35) (.slice (some ⟨lb, lo, none⟩) N lc) (by kernel_rfl) (by kernel_rfl) (by kernel_rfl) (by kernel_rfl) (by kernel_rfl) (fun _ => by kernel_rfl) (fun _ _ _ h => h) hHeld ?_
      refine takeU (i := 10) (some 36) (.int .i64 n) (by kernel_rfl) (by kernel_rfl) (by kernel_rfl) (by kernel_rfl) (by kernel_rfl) (fun _ => by kernel_rfl) (fun _ _ _ h => h) hHeld ?_
      refine wpAnyH_take (i := 11) (oi := { dst := some 37, op := Go.Op.indexAddr 36 (Go.Operand.tmp 35) (Go.Operand.tmp 36), type := 0, pos := "ref.go:159", after := #[{ on := 9, ground := Go.Ground.data }, { on := 10, ground := Go.Ground.data }], guard := none }) (v := .pointer (some ⟨lb, lo + n * 2, none⟩)) rfl (by kernel_rfl) (by kernel_rfl) (by kernel_rfl) (fun _ _ _ h => h) (.inl ⟨by kernel_rfl, fun w9 h9 => by
        clear hHeld h9
        go_simp⟩) hHeld ?_
      refine wpAnyH_take (i := 12) (oi := { dst := some 38, op := Go.Op.indexAddr 76 (Go.Operand.tmp 37) (Go.Operand.const (Go.Value.int Go.IntKind.i64 1)), type := 0, pos := "ref.go:159", after := #[{ on := 11, ground := Go.Ground.data }], guard := none }) (v := .pointer (some ⟨lb, lo + n * 2 + 1, none⟩)) rfl (by kernel_rfl) (by kernel_rfl) (by kernel_rfl) (fun _ _ _ h => h) (.inl ⟨by kernel_rfl, fun w9 h9 => by
        clear hHeld h9
        go_simp⟩) hHeld ?_
      refine wpAnyH_take (i := 13) (oi := { dst := some 39, op := Go.Op.load 3 (Go.Operand.tmp 38), type := 3, pos := "ref.go:159", after := #[{ on := 12, ground := Go.Ground.data }], guard := none }) (v := .int .i64 b) rfl (by kernel_rfl) (by kernel_rfl) (by kernel_rfl) (fun _ _ _ h => h) (.inl ⟨by kernel_rfl, fun w9 h9 => by
        clear hHeld
        have d0 := (h9.cell (p := ⟨lb, lo + n * 2 + 1, none⟩) hzc).trans c1
        clear h9
        go_simp⟩) hHeld ?_
      refine wpAnyH_take (i := 14) (oi := { dst := some 40, op := Go.Op.indexAddr 22 (Go.Operand.tmp 34) (Go.Operand.tmp 39), type := 0, pos := "ref.go:159", after := #[{ on := 8, ground := Go.Ground.data }, { on := 13, ground := Go.Ground.data }], guard := none }) (v := .pointer (some ⟨rb, ro + b, none⟩)) rfl (by kernel_rfl) (by kernel_rfl) (by kernel_rfl) (fun _ _ _ h => h) (.inl ⟨by kernel_rfl, fun w9 h9 => by
        clear hHeld h9
        go_simp⟩) hHeld ?_
      refine wpAnyH_take (i := 15) (oi := { dst := some 41, op := Go.Op.load 3 (Go.Operand.tmp 40), type := 3, pos := "ref.go:159", after := #[{ on := 14, ground := Go.Ground.data }], guard := none }) (v := .int .i64 x) rfl (by kernel_rfl) (by kernel_rfl) (by kernel_rfl) (fun _ _ _ h => h) (.inl ⟨by kernel_rfl, fun w9 h9 => by
        clear hHeld
        have d0 := (h9.cell (p := ⟨rb, ro + b, none⟩) hzh).trans hc
        clear h9
        go_simp⟩) hHeld ?_
      refine wpAnyH_take (i := 16) (oi := { dst := some 42, op := Go.Op.load 25 (Go.Operand.tmp 2), type := 25, pos := "ref.go:159", after := #[], guard := none }) (v := .agg #[.int .i64 s.O, .int .i64 s.C, .slice s.aH s.H.length s.cH, .int .i64 s.M, .slice s.aS s.S.length s.cS, .slice s.aJ s.J.length s.cJ]) rfl (by kernel_rfl) (by kernel_rfl) (by kernel_rfl) (fun _ _ _ h => h) (.inl ⟨by kernel_rfl, fun w9 h9 => by
        clear hHeld
        have d0 := (h9.cell (p := ⟨w.heap.size, 0, none⟩) hzp).trans p0
        have d1 := (h9.cell (p := ⟨w.heap.size, 1, none⟩) hzp).trans p1
        have d2 := (h9.cell (p := ⟨w.heap.size, 2, none⟩) hzp).trans p2
        have d3 := (h9.cell (p := ⟨w.heap.size, 3, none⟩) hzp).trans p3
        have d4 := (h9.cell (p := ⟨w.heap.size, 4, none⟩) hzp).trans p4
        have d5 := (h9.cell (p := ⟨w.heap.size, 5, none⟩) hzp).trans p5
        clear h9
        go_simp⟩) hHeld ?_
      refine takeU (i := 17) (some 43) (.slice (some ⟨lb, lo, none⟩) N lc) (by kernel_rfl) (by kernel_rfl) (by kernel_rfl) (by kernel_rfl) (by kernel_rfl) (fun _ => by kernel_rfl) (fun _ _ _ h => h) hHeld ?_
      refine takeU (i := 18) (some 44) (.int .i64 n) (by kernel_rfl) (by kernel_rfl) (by kernel_rfl) (by kernel_rfl) (by kernel_rfl) (fun _ => by kernel_rfl) (fun _ _ _ h => h) hHeld ?_
      refine wpAnyH_take (i := 19) (oi := { dst := some 45, op := Go.Op.indexAddr 36 (Go.Operand.tmp 43) (Go.Operand.tmp 44), type := 0, pos := "ref.go:159", after := #[{ on := 17, ground := Go.Ground.data }, { on := 18, ground := Go.Ground.data }], guard := none }) (v := .pointer (some ⟨lb, lo + n * 2, none⟩)) rfl (by kernel_rfl) (by kernel_rfl) (by kernel_rfl) (fun _ _ _ h => h) (.inl ⟨by kernel_rfl, fun w9 h9 => by
        clear hHeld h9
        go_simp⟩) hHeld ?_
      refine wpAnyH_take (i := 20) (oi := { dst := some 46, op := Go.Op.load 76 (Go.Operand.tmp 45), type := 76, pos := "ref.go:159", after := #[{ on := 19, ground := Go.Ground.data }], guard := none }) (v := .agg #[.int .i64 a, .int .i64 b]) rfl (by kernel_rfl) (by kernel_rfl) (by kernel_rfl) (fun _ _ _ h => h) (.inl ⟨by kernel_rfl, fun w9 h9 => by
        clear hHeld
        have d0 := (h9.cell (p := ⟨lb, lo + n * 2, none⟩) hzc).trans c0
        have d1 := (h9.cell (p := ⟨lb, lo + n * 2 + 1, none⟩) hzc).trans c1
        clear h9
        go_simp⟩) hHeld ?_
      try simp only [Act.put, List.setIfInBounds_toArray, List.set_cons_zero, List.set_cons_succ]
      refine wpAnyH_ready (rs := [21]) (by kernel_rfl) (by simp) ?_
      refine AllReadyH.cons (o := { dst := some 47, op := Go.Op.call { callee := Go.Callee.value (Go.Operand.func 49), args := #[Go.Operand.tmp 42, Go.Operand.tmp 46], argTypes := #[25, 76] }, type := 57, pos := "ref.go:159", after := #[{ on := 16, ground := Go.Ground.data }, { on := 20, ground := Go.Ground.data }], guard := none }) rfl (fun K hK => ?_) AllReadyH.nil
      go_simp
      go_at_call 49
      refine (HAtn.out _ (HbR.out.trans (hHeld.mono HbR.out.size))).mono ?_
      rintro e w219 ⟨rfl, hb219⟩
      refine hK.out _ _ (hHeld.trans (hb219.mono hHeld.size)) (fun hHeld => ?_)
      clear hK K hb219
      try simp only [Act.put, List.setIfInBounds_toArray, List.set_cons_zero, List.set_cons_succ]
      refine wpAnyH_take (i := 22) (oi := { dst := some 48, op := Go.Op.field 57 (Go.Operand.tmp 47) 1, type := 3, pos := "ref.go:159", after := #[{ on := 21, ground := Go.Ground.data }], guard := none }) (v := .int .i64 y.2.1) rfl (by kernel_rfl) (by kernel_rfl) (by kernel_rfl) (fun _ _ _ h => h) (.inl ⟨by kernel_rfl, fun w9 h9 => by
        clear hHeld h9
        go_simp⟩) hHeld ?_
      try simp only [Act.put, List.setIfInBounds_toArray, List.set_cons_zero, List.set_cons_succ]
      refine wpAnyH_ready (rs := [23]) (by kernel_rfl) (by simp) ?_
      refine AllReadyH.cons (o := { dst := some 49, op := Go.Op.call { callee := Go.Callee.value (Go.Operand.func 48), args := #[Go.Operand.tmp 26, Go.Operand.tmp 41, Go.Operand.tmp 48], argTypes := #[25, 3, 3] }, type := 4, pos := "ref.go:159", after := #[{ on := 0, ground := Go.Ground.data }, { on := 15, ground := Go.Ground.data }, { on := 22, ground := Go.Ground.data }, { on := 21, ground := Go.Ground.chain }], guard := none }) rfl (fun K hK => ?_) AllReadyH.nil
      go_simp
      go_at_call 48
      refine (HSfn.out _ (HbR.out.trans (hHeld.mono HbR.out.size))).mono ?_
      rintro e w239 ⟨rfl, hb239⟩
      refine hK.out _ _ (hHeld.trans (hb239.mono hHeld.size)) (fun hHeld => ?_)
      clear hK K hb239
      try simp only [Act.put, List.setIfInBounds_toArray, List.set_cons_zero, List.set_cons_succ]
      refine wpAnyH_take (i := 24) (oi := { dst := some 50, op := Go.Op.unOp Go.UnOp.not 4 (Go.Operand.tmp 49), type := 4, pos := "ref.go:159", after := #[{ on := 23, ground := Go.Ground.data }], guard := none }) (v := .bool (!bb)) rfl (by kernel_rfl) (by kernel_rfl) (by kernel_rfl) (fun _ _ _ h => h) (.inl ⟨by kernel_rfl, fun w9 h9 => by
        clear hHeld h9
        go_simp⟩) hHeld ?_
      refine wpAnyH_done (by kernel_rfl) ?_ _
      try simp only [Act.put, List.setIfInBounds_toArray, List.set_cons_zero, List.set_cons_succ]
      have HbX := Lib.hid (HbR.out.trans (hHeld.mono HbR.out.size))
      have HbY := Lib.hid (Hbr.out.trans (hHeld.mono Hbr.out.size))
      replace c0 := cell_below c0 hHeld
      replace c1 := cell_below c1 hHeld
      clear p0 p1 p2 p3 p4 p5 gc hc hzp hzg hzh HbR Hbr hHeld
      cases bb with
      | false =>
        replace HHit := Lib.hid (HHit.out (by rw [HCk.out]; rfl))
        clear HNx HCk
        go_wp2_with fail
        go_quiet (fail)
        go_wp2_with fail
        go_ret3
        rw [HHit.out]
        exact ⟨rfl, below_drewN HbX.out _⟩
      | true =>
        have HX := Lib.hid (HNx.out (by rw [HCk.out]; rfl))
        clear HHit HNx HCk
        go_wp2_with fail
        go_roundw
        case rel => first | exact ⟨n + 1, by omega, by go_num, HbY.out, HX⟩ | ((repeat apply Exists.intro); exact ⟨⟨n + 1, by omega, by go_num, HbY.out, HX⟩, rfl⟩)
        case measure => first | (simp [intOf]; done) | (simp [intOf]; omega)
    · obtain rfl : N = n := by omega
      have HST1 := Lib.hid hbr
      have HF1 : Hid (∀ k, k < 1 → ∀ m, m < N → chk s (plcL s P) k m = false) := Lib.hid fun k hk => by
        obtain rfl : k = 0 := by omega
        exact HN.out
      clear hbr HN HF0 HST0 hlt
      go_wp2_with fail
      go_loopw [9] (fun i wr => ∃ n : Nat, n ≤ N ∧ i = .int .i64 n ∧ Below wL.heap.size wL wr ∧ Hid (∀ m, m < n → chk s (plcL s P) 1 m = false)) (fun i _ => N - (intOf i).toNat)
      case atStart => exact ⟨0, Nat.zero_le _, rfl, HST1.out, Lib.hid fun m hm => absurd hm (Nat.not_lt_zero _)⟩
      case round =>
        obtain ⟨n, hn, rfl, hbr, HN⟩ := hrel
        by_cases hlt : n < N
        · obtain rfl := HLl.out (by omega)
          have hnl : n < (flP s.J).length := by rw [HNN.out]; exact hlt
          obtain ⟨a, b, egc, hac, hbc⟩ := flP_at (J := s.J) (n := n) hnl
          have haPc : a < P.length := by have := HO.out.1; omega
          have hbPc : b < (gr P a).length := by have := (HO.out.2 a haPc).1; omega
          obtain ⟨c0, c1⟩ := HC.out n (by omega)
          rw [egc] at c0 c1
          obtain ⟨gc, hrowc⟩ := HR.out a haPc
          obtain ⟨rb, ro, eac, hc⟩ := row_cell hrowc hbPc
          rw [eac] at gc
          have hstc := (HO.out.2 a haPc).2 b hbPc
          have hspc := (HVV.out.2.2.2.2 a hac).2 b hbc
          obtain rfl := HLa.out (by omega)
          have p0 := cell_below HP0.out hbr
          have p1 := cell_below HP1.out hbr
          have p2 := cell_below HP2.out hbr
          have p3 := cell_below HP3.out hbr
          have p4 := cell_below HP4.out hbr
          have p5 := cell_below HP5.out hbr
          have hzp := block_lt p0
          have c0 := cell_below c0 hbr
          have c1 := cell_below c1 hbr
          have gc := cell_below gc hbr
          have hc := cell_below hc hbr
          have hzc := block_lt c0
          have hzg := block_lt gc
          have hzh := block_lt hc
          have haI : (a : Int) < P.length := by omega
          have hbI : (b : Int) < (gr P a).length := by omega
          have hnI : (n : Int) < N := by omega
          have HbR := Lib.hid (HBL.out.trans (hbr.mono HBL.out.size))
          have Hbr := Lib.hid hbr
          have HRdn := Lib.hid (fun W (hW : Below w.heap.size w W) => HRd.out a b hac hbc W hW)
          have hRb := HRb.out a b hac hbc
          have HNx : Hid (chk s (plcL s P) 1 n = false → ∀ m, m < n + 1 → chk s (plcL s P) 1 m = false) := Lib.hid fun h m hm => by
            by_cases e : m = n
            · subst e; exact h
            · exact HN.out m (by omega)
          have HHit : Hid (chk s (plcL s P) 1 n = true → J3 = ((a : Int), (b : Int), 52)) := Lib.hid fun h => by
            have h9 := HAT.out 1 n (by decide) HF1.out hlt HN.out h
            rw [egc] at h9
            exact h9
          have hchk := HK1.out n a b hlt hac hbc egc
          clear hbr HN
          generalize gi (gr P a) b = x at *
          generalize rdyV s P a b = D at *
          obtain ⟨bb, hbb⟩ : ∃ bb, decide (x < D) = bb := ⟨_, rfl⟩
          rw [hbb] at hchk
          clear HAt HSf HRd HApt HAT HNO HK0 HK1 HK2 HRb HR HLa HC HO HVV HPJ
          have HCk := Lib.hid hchk
          clear hchk egc hac hbc haPc hbPc hrowc eac hstc hspc
          go_wp2_with fail
          refine wp_region_held_drew (S := fun w' => Below wr.heap.size wr w') (by kernel_rfl) ((Below.refl _ _).drew) (fun hHeld => ?_)
          refine takeU (i := 0) (some 67) (.slice (some ⟨pb, po, none⟩) P.length cp) (by kernel_rfl) (by kernel_rfl) (by kernel_rfl) (by kernel_rfl) (by kernel_rfl) (fun _ => by kernel_rfl) (fun _ _ _ h => h) hHeld ?_
          refine takeU (i := 1) (some 68) (.slice (some ⟨lb, lo, none⟩) N lc) (by kernel_rfl) (by kernel_rfl) (by kernel_rfl) (by kernel_rfl) (by kernel_rfl) (fun _ => by kernel_rfl) (fun _ _ _ h => h) hHeld ?_
          refine takeU (i := 2) (some 69) (.int .i64 n) (by kernel_rfl) (by kernel_rfl) (by kernel_rfl) (by kernel_rfl) (by kernel_rfl) (fun _ => by kernel_rfl) (fun _ _ _ h => h) hHeld ?_
          refine wpAnyH_take (i := 3) (oi := { dst := some 70, op := Go.Op.indexAddr 36 (Go.Operand.tmp 68) (Go.Operand.tmp 69), type := 0, pos := "ref.go:164", after := #[{ on := 1, ground := Go.Ground.data }, { on := 2, ground := Go.Ground.data }], guard := none }) (v := .pointer (some ⟨lb, lo + n * 2, none⟩)) rfl (by kernel_rfl) (by kernel_rfl) (by kernel_rfl) (fun _ _ _ h => h) (.inl ⟨by kernel_rfl, fun w9 h9 => by
            clear hHeld h9
            go_simp⟩) hHeld ?_
          refine wpAnyH_take (i := 4) (oi := { dst := some 71, op := Go.Op.indexAddr 76 (Go.Operand.tmp 70) (Go.Operand.const (Go.Value.int Go.IntKind.i64 0)), type := 0, pos := "ref.go:164", after := #[{ on := 3, ground := Go.Ground.data }], guard := none }) (v := .pointer (some ⟨lb, lo + n * 2, none⟩)) rfl (by kernel_rfl) (by kernel_rfl) (by kernel_rfl) (fun _ _ _ h => h) (.inl ⟨by kernel_rfl, fun w9 h9 => by
            clear hHeld h9
            go_simp⟩) hHeld ?_
          refine wpAnyH_take (i := 5) (oi := { dst := some 72, op := Go.Op.load 3 (Go.Operand.tmp 71), type := 3, pos := "ref.go:164", after := #[{ on := 4, ground := Go.Ground.data }], guard := none }) (v := .int .i64 a) rfl (by kernel_rfl) (by kernel_rfl) (by kernel_rfl) (fun _ _ _ h => h) (.inl ⟨by kernel_rfl, fun w9 h9 => by
            clear hHeld
            have d0 := (h9.cell (p := ⟨lb, lo + n * 2, none⟩) hzc).trans c0
            clear h9
            go_simp⟩) hHeld ?_
          refine wpAnyH_take (i := 6) (oi := { dst := some 73, op := Go.Op.indexAddr 26 (Go.Operand.tmp 67) (Go.Operand.tmp 72), type := 0, pos := "ref.go:164", after := #[{ on := 0, ground := Go.Ground.data }, { on := 5, ground := Go.Ground.data }], guard := none }) (v := .pointer (some ⟨pb, po + a, none⟩)) rfl (by kernel_rfl) (by kernel_rfl) (by kernel_rfl) (fun _ _ _ h => h) (.inl ⟨by kernel_rfl, fun w9 h9 => by
            clear hHeld h9
            go_simp⟩) hHeld ?_
          refine wpAnyH_take (i := 7) (oi := { dst := some 74, op := Go.Op.load 22 (Go.Operand.tmp 73), type := 22, pos := "ref.go:164", after := #[{ on := 6, ground := Go.Ground.data }], guard := none }) (v := .slice (some ⟨rb, ro, none⟩) (gr P a).length (cq a)) rfl (by kernel_rfl) (by kernel_rfl) (by kernel_rfl) (fun _ _ _ h => h) (.inl ⟨by kernel_rfl, fun w9 h9 => by
            clear hHeld
            have d0 := (h9.cell (p := ⟨pb, po + a, none⟩) hzg).trans gc
            clear h9
            go_simp⟩) hHeld ?_
          refine takeU (i := 8) (some 75) (.slice (some ⟨lb, lo, none⟩) N lc) (by kernel_rfl) (by kernel_rfl) (by kernel_rfl) (by kernel_rfl) (by kernel_rfl) (fun _ => by kernel_rfl) (fun _ _ _ h => h) hHeld ?_
          refine takeU (i := 9) (some 76) (.int .i64 n) (by kernel_rfl) (by kernel_rfl) (by kernel_rfl) (by kernel_rfl) (by kernel_rfl) (fun _ => by kernel_rfl) (fun _ _ _ h => h) hHeld ?_
          refine wpAnyH_take (i := 10) (oi := { dst := some 77, op := Go.Op.indexAddr 36 (Go.Operand.tmp 75) (Go.Operand.tmp 76), type := 0, pos := "ref.go:164", after := #[{ on := 8, ground := Go.Ground.data }, { on := 9, ground := Go.Ground.data }], guard := none }) (v := .pointer (some ⟨lb, lo + n * 2, none⟩)) rfl (by kernel_rfl) (by kernel_rfl) (by kernel_rfl) (fun _ _ _ h => h) (.inl ⟨by kernel_rfl, fun w9 h9 => by
            clear hHeld h9
            go_simp⟩) hHeld ?_
          refine wpAnyH_take (i := 11) (oi := { dst := some 78, op := Go.Op.indexAddr 76 (Go.Operand.tmp 77) (Go.Operand.const (Go.Value.int Go.IntKind.i64 1)), type := 0, pos := "ref.go:164", after := #[{ on := 10, ground := Go.Ground.data }], guard := none }) (v := .pointer (some ⟨lb, lo + n * 2 + 1, none⟩)) rfl (by kernel_rfl) (by kernel_rfl) (by kernel_rfl) (fun _ _ _ h => h) (.inl ⟨by kernel_rfl, fun w9 h9 => by
            clear hHeld h9
            go_simp⟩) hHeld ?_
          refine wpAnyH_take (i := 12) (oi := { dst := some 79, op := Go.Op.load 3 (Go.Operand.tmp 78), type := 3, pos := "ref.go:164", after := #[{ on := 11, ground := Go.Ground.data }], guard := none }) (v := .int .i64 b) rfl (by kernel_rfl) (by kernel_rfl) (by kernel_rfl) (fun _ _ _ h => h) (.inl ⟨by kernel_rfl, fun w9 h9 => by
            clear hHeld
            have d0 := (h9.cell (p := ⟨lb, lo + n * 2 + 1, none⟩) hzc).trans c1
            clear h9
            go_simp⟩) hHeld ?_
          refine wpAnyH_take (i := 13) (oi := { dst := some 80, op := Go.Op.indexAddr 22 (Go.Operand.tmp 74) (Go.Operand.tmp 79), type := 0, pos := "ref.go:164", after := #[{ on := 7, ground := Go.Ground.data }, { on := 12, ground := Go.Ground.data }], guard := none }) (v := .pointer (some ⟨rb, ro + b, none⟩)) rfl (by kernel_rfl) (by kernel_rfl) (by kernel_rfl) (fun _ _ _ h => h) (.inl ⟨by kernel_rfl, fun w9 h9 => by
            clear hHeld h9
            go_simp⟩) hHeld ?_
          refine wpAnyH_take (i := 14) (oi := { dst := some 81, op := Go.Op.load 3 (Go.Operand.tmp 80), type := 3, pos := "ref.go:164", after := #[{ on := 13, ground := Go.Ground.data }], guard := none }) (v := .int .i64 x) rfl (by kernel_rfl) (by kernel_rfl) (by kernel_rfl) (fun _ _ _ h => h) (.inl ⟨by kernel_rfl, fun w9 h9 => by
            clear hHeld
            have d0 := (h9.cell (p := ⟨rb, ro + b, none⟩) hzh).trans hc
            clear h9
            go_simp⟩) hHeld ?_
          refine wpAnyH_take (i := 15) (oi := { dst := some 82, op := Go.Op.load 25 (Go.Operand.tmp 2), type := 25, pos := "ref.go:164", after := #[], guard := none }) (v := .agg #[.int .i64 s.O, .int .i64 s.C, .slice s.aH s.H.length s.cH, .int .i64 s.M, .slice s.aS s.S.length s.cS, .slice s.aJ s.J.length s.cJ]) rfl (by kernel_rfl) (by kernel_rfl) (by kernel_rfl) (fun _ _ _ h => h) (.inl ⟨by kernel_rfl, fun w9 h9 => by
            clear hHeld
            have d0 := (h9.cell (p := ⟨w.heap.size, 0, none⟩) hzp).trans p0
            have d1 := (h9.cell (p := ⟨w.heap.size, 1, none⟩) hzp).trans p1
            have d2 := (h9.cell (p := ⟨w.heap.size, 2, none⟩) hzp).trans p2
            have d3 := (h9.cell (p := ⟨w.heap.size, 3, none⟩) hzp).trans p3
            have d4 := (h9.cell (p := ⟨w.heap.size, 4, none⟩) hzp).trans p4
            have d5 := (h9.cell (p := ⟨w.heap.size, 5, none⟩) hzp).trans p5
            clear h9
            go_simp⟩) hHeld ?_
          refine takeU (i := 16) (some 83) (.slice (some ⟨pb, po, none⟩) P.length cp) (by kernel_rfl) (by kernel_rfl) (by kernel_rfl) (by kernel_rfl) (by kernel_rfl) (fun _ => by kernel_rfl) (fun _ _ _ h => h) hHeld ?_
          refine takeU (i := 17) (some 84) (.slice (some ⟨lb, lo, none⟩) N lc) (by kernel_rfl) (by kernel_rfl) (by kernel_rfl) (by kernel_rfl) (by kernel_rfl) (fun _ => by kernel_rfl) (fun _ _ _ h => h) hHeld ?_
          refine takeU (i := 18) (some 85) (.int .i64 n) (by kernel_rfl) (by kernel_rfl) (by kernel_rfl) (by kernel_rfl) (by kernel_rfl) (fun _ => by kernel_rfl) (fun _ _ _ h => h) hHeld ?_
          refine wpAnyH_take (i := 19) (oi := { dst := some 86, op := Go.Op.indexAddr 36 (Go.Operand.tmp 84) (Go.Operand.tmp 85), type := 0, pos := "ref.go:164", after := #[{ on := 17, ground := Go.Ground.data }, { on := 18, ground := Go.Ground.data }], guard := none }) (v := .pointer (some ⟨lb, lo + n * 2, none⟩)) rfl (by kernel_rfl) (by kernel_rfl) (by kernel_rfl) (fun _ _ _ h => h) (.inl ⟨by kernel_rfl, fun w9 h9 => by
            clear hHeld h9
            go_simp⟩) hHeld ?_
          refine wpAnyH_take (i := 20) (oi := { dst := some 87, op := Go.Op.load 76 (Go.Operand.tmp 86), type := 76, pos := "ref.go:164", after := #[{ on := 19, ground := Go.Ground.data }], guard := none }) (v := .agg #[.int .i64 a, .int .i64 b]) rfl (by kernel_rfl) (by kernel_rfl) (by kernel_rfl) (fun _ _ _ h => h) (.inl ⟨by kernel_rfl, fun w9 h9 => by
            clear hHeld
            have d0 := (h9.cell (p := ⟨lb, lo + n * 2, none⟩) hzc).trans c0
            have d1 := (h9.cell (p := ⟨lb, lo + n * 2 + 1, none⟩) hzc).trans c1
            clear h9
            go_simp⟩) hHeld ?_
          try simp only [Act.put, List.setIfInBounds_toArray, List.set_cons_zero, List.set_cons_succ]
          refine wpAnyH_ready (rs := [21]) (by kernel_rfl) (by simp) ?_
          refine AllReadyH.cons (o := { dst := some 88, op := Go.Op.call { callee := Go.Callee.value (Go.Operand.func 50), args := #[Go.Operand.tmp 82, Go.Operand.tmp 83, Go.Operand.tmp 87], argTypes := #[25, 26, 76] }, type := 3, pos := "ref.go:164", after := #[{ on := 15, ground := Go.Ground.data }, { on := 16, ground := Go.Ground.data }, { on := 20, ground := Go.Ground.data }], guard := none }) rfl (fun K hK => ?_) AllReadyH.nil
          go_simp
          go_at_call 50
          refine (HRdn.out _ (HbR.out.trans (hHeld.mono HbR.out.size))).mono ?_
          rintro e w219 ⟨rfl, hb219⟩
          refine hK.out _ _ (hHeld.trans (hb219.mono hHeld.size)) (fun hHeld => ?_)
          clear hK K hb219
          try simp only [Act.put, List.setIfInBounds_toArray, List.set_cons_zero, List.set_cons_succ]
          refine wpAnyH_take (i := 22) (oi := { dst := some 89, op := Go.Op.binOp Go.BinOp.lss 3 (Go.Operand.tmp 81) (Go.Operand.tmp 88) 3, type := 4, pos := "ref.go:164", after := #[{ on := 14, ground := Go.Ground.data }, { on := 21, ground := Go.Ground.data }], guard := none }) (v := .bool bb) rfl (by kernel_rfl) (by kernel_rfl) (by kernel_rfl) (fun _ _ _ h => h) (.inl ⟨by kernel_rfl, fun w9 h9 => by
            clear hHeld h9
            go_simp⟩) hHeld ?_
          refine wpAnyH_done (by kernel_rfl) ?_ _
          try simp only [Act.put, List.setIfInBounds_toArray, List.set_cons_zero, List.set_cons_succ]
          have HbX := Lib.hid (HbR.out.trans (hHeld.mono HbR.out.size))
          have HbY := Lib.hid (Hbr.out.trans (hHeld.mono Hbr.out.size))
          replace c0 := cell_below c0 hHeld
          replace c1 := cell_below c1 hHeld
          clear p0 p1 p2 p3 p4 p5 gc hc hzp hzg hzh HbR Hbr hHeld
          cases bb with
          | true =>
            replace HHit := Lib.hid (HHit.out (by rw [HCk.out]))
            clear HNx HCk
            go_wp2_with fail
            go_quiet (fail)
            go_wp2_with fail
            go_ret3
            rw [HHit.out]
            exact ⟨rfl, below_drewN HbX.out _⟩
          | false =>
            have HX := Lib.hid (HNx.out (by rw [HCk.out]))
            clear HHit HNx HCk
            go_wp2_with fail
            go_roundw
            case rel => first | exact ⟨n + 1, by omega, by go_num, HbY.out, HX⟩ | ((repeat apply Exists.intro); exact ⟨⟨n + 1, by omega, by go_num, HbY.out, HX⟩, rfl⟩)
            case measure => first | (simp [intOf]; done) | (simp [intOf]; omega)
        · obtain rfl : N = n := by omega
          have HST2 := Lib.hid hbr
          have HF2 : Hid (∀ k, k < 2 → ∀ m, m < N → chk s (plcL s P) k m = false) := Lib.hid fun k hk => by
            rcases k with _ | _ | k
            · exact HF1.out 0 (by omega)
            · exact HN.out
            · omega
          clear hbr HN HF1 HST1 hlt
          go_wp2_with fail
          go_loopw [10] (fun i wr => ∃ n : Nat, n ≤ N ∧ i = .int .i64 n ∧ Below wL.heap.size wL wr ∧ Hid (∀ m, m < n → chk s (plcL s P) 2 m = false)) (fun i _ => N - (intOf i).toNat)
          case atStart => exact ⟨0, Nat.zero_le _, rfl, HST2.out, Lib.hid fun m hm => absurd hm (Nat.not_lt_zero _)⟩
          case round =>
            obtain ⟨n, hn, rfl, hbr, HN⟩ := hrel
            by_cases hlt : n < N
            · obtain rfl := HLl.out (by omega)
              have hnl : n < (flP s.J).length := by rw [HNN.out]; exact hlt
              have HNx : Hid (chk s (plcL s P) 2 n = false → ∀ m, m < n + 1 → chk s (plcL s P) 2 m = false) := Lib.hid fun h m hm => by
                by_cases e : m = n
                · subst e; exact h
                · exact HN.out m (by omega)
              have HHit : Hid (chk s (plcL s P) 2 n = true → J3 = ((gp (flP s.J) n).1, (gp (flP s.J) n).2, 53)) := Lib.hid fun h => HAT.out 2 n (by decide) HF2.out hlt HN.out h
              have HC2 : Hid (chk s (plcL s P) 2 n = anyK (fun q => (fun n q => decide ((stpP s (gp (flP s.J) n)).1 = (stpP s (gp (flP s.J) q)).1) && !(apB s.S (stpP s (gp (flP s.J) n)) (sttP P (gp (flP s.J) n)) (stpP s (gp (flP s.J) q)) (sttP P (gp (flP s.J) q)))) n (n + 1 + q)) (N - (n + 1))) := Lib.hid (by have h9 := HK2.out n hlt; exact h9)
              have Hbo := Lib.hid hbr
              obtain ⟨wo, rfl⟩ : ∃ wo : World, wo = wr := ⟨_, rfl⟩
              have hnI : (n : Int) < N := by omega
              clear hbr HN
              go_wp2_with fail
              go_loopw [11] (fun j wr => ∃ k : Nat, n + 1 ≤ k ∧ k ≤ N ∧ j = .int .i64 k ∧ Below wL.heap.size wL wr ∧ Hid (∀ q, n < q → q < k → (fun n q => decide ((stpP s (gp (flP s.J) n)).1 = (stpP s (gp (flP s.J) q)).1) && !(apB s.S (stpP s (gp (flP s.J) n)) (sttP P (gp (flP s.J) n)) (stpP s (gp (flP s.J) q)) (sttP P (gp (flP s.J) q)))) n q = false)) (fun j _ => N - (intOf j).toNat)
              case atStart => exact ⟨n + 1, by omega, by omega, by go_num, Hbo.out, Lib.hid fun q h1 h2 => absurd h2 (by omega)⟩
              case round =>
                obtain ⟨k, hk1, hk2, rfl, hbr, HQ⟩ := hrel
                by_cases hlk : k < N
                · have hkl : k < (flP s.J).length := by rw [HNN.out]; exact hlk
                  obtain ⟨a, b, egc, hac, hbc⟩ := flP_at (J := s.J) (n := n) hnl
                  have haPc : a < P.length := by have := HO.out.1; omega
                  have hbPc : b < (gr P a).length := by have := (HO.out.2 a haPc).1; omega
                  obtain ⟨c0, c1⟩ := HC.out n (by omega)
                  rw [egc] at c0 c1
                  obtain ⟨gc, hrowc⟩ := HR.out a haPc
                  obtain ⟨rb, ro, eac, hc⟩ := row_cell hrowc hbPc
                  rw [eac] at gc
                  have hstc := (HO.out.2 a haPc).2 b hbPc
                  have hspc := (HVV.out.2.2.2.2 a hac).2 b hbc
                  obtain ⟨a2, b2, egd, had, hbd⟩ := flP_at (J := s.J) (n := k) hkl
                  have haPd : a2 < P.length := by have := HO.out.1; omega
                  have hbPd : b2 < (gr P a2).length := by have := (HO.out.2 a2 haPd).1; omega
                  obtain ⟨d0, d1⟩ := HC.out k (by omega)
                  rw [egd] at d0 d1
                  obtain ⟨gd, hrowd⟩ := HR.out a2 haPd
                  obtain ⟨rc, rd, ead, hd⟩ := row_cell hrowd hbPd
                  rw [ead] at gd
                  have hstd := (HO.out.2 a2 haPd).2 b2 hbPd
                  have hspd := (HVV.out.2.2.2.2 a2 had).2 b2 hbd
                  obtain rfl := HLa.out (by omega)
                  have p0 := cell_below HP0.out hbr
                  have p1 := cell_below HP1.out hbr
                  have p2 := cell_below HP2.out hbr
                  have p3 := cell_below HP3.out hbr
                  have p4 := cell_below HP4.out hbr
                  have p5 := cell_below HP5.out hbr
                  have hzp := block_lt p0
                  have c0 := cell_below c0 hbr
                  have c1 := cell_below c1 hbr
                  have gc := cell_below gc hbr
                  have hc := cell_below hc hbr
                  have d0 := cell_below d0 hbr
                  have d1 := cell_below d1 hbr
                  have gd := cell_below gd hbr
                  have hd := cell_below hd hbr
                  have hzc := block_lt c0
                  have hzg := block_lt gc
                  have hzh := block_lt hc
                  have haI : (a : Int) < P.length := by omega
                  have hbI : (b : Int) < (gr P a).length := by omega
                  have hnI : (n : Int) < N := by omega
                  have hkI : (k : Int) < N := by omega
                  have ha2I : (a2 : Int) < P.length := by omega
                  have hb2I : (b2 : Int) < (gr P a2).length := by omega
                  have HbR := Lib.hid (HBL.out.trans (hbr.mono HBL.out.size))
                  have Hbr := Lib.hid hbr
                  have HAtn := Lib.hid (fun W (hW : Below w.heap.size w W) => HAt.out a b hac hbc W hW)
                  have HAtk := Lib.hid (fun W (hW : Below w.heap.size w W) => HAt.out a2 b2 had hbd W hW)
                  have HC9 : Hid ((fun n q => decide ((stpP s (gp (flP s.J) n)).1 = (stpP s (gp (flP s.J) q)).1) && !(apB s.S (stpP s (gp (flP s.J) n)) (sttP P (gp (flP s.J) n)) (stpP s (gp (flP s.J) q)) (sttP P (gp (flP s.J) q)))) n k = (decide ((gs (gj s.J a) b).1 = (gs (gj s.J a2) b2).1) && !(apB s.S (gs (gj s.J a) b) (gi (gr P a) b) (gs (gj s.J a2) b2) (gi (gr P a2) b2)))) := Lib.hid (by
                    show (decide ((stpP s (gp (flP s.J) n)).1 = (stpP s (gp (flP s.J) k)).1) && !(apB s.S (stpP s (gp (flP s.J) n)) (sttP P (gp (flP s.J) n)) (stpP s (gp (flP s.J) k)) (sttP P (gp (flP s.J) k)))) = _
                    rw [egc, egd]
                    unfold stpP sttP
                    simp only [Int.toNat_natCast])
                  have HAp := Lib.hid (fun W (hW : Below w.heap.size w W) => HApt.out (gs (gj s.J a) b) (gs (gj s.J a2) b2) (gi (gr P a) b) (gi (gr P a2) b2) W hW (by unfold stpOk at hspc; omega) (by unfold stpOk at hspc; have := HVV.out.1; omega) (by unfold stpOk at hspd; have := HVV.out.1; omega) hstc hstd)
                  have HQx : Hid ((fun n q => decide ((stpP s (gp (flP s.J) n)).1 = (stpP s (gp (flP s.J) q)).1) && !(apB s.S (stpP s (gp (flP s.J) n)) (sttP P (gp (flP s.J) n)) (stpP s (gp (flP s.J) q)) (sttP P (gp (flP s.J) q)))) n k = false → ∀ q, n < q → q < k + 1 → (fun n q => decide ((stpP s (gp (flP s.J) n)).1 = (stpP s (gp (flP s.J) q)).1) && !(apB s.S (stpP s (gp (flP s.J) n)) (sttP P (gp (flP s.J) n)) (stpP s (gp (flP s.J) q)) (sttP P (gp (flP s.J) q)))) n q = false) := Lib.hid fun h q h1 h2 => by
                    by_cases e : q = k
                    · subst e; exact h
                    · exact HQ.out q h1 (by omega)
                  have HHk : Hid ((fun n q => decide ((stpP s (gp (flP s.J) n)).1 = (stpP s (gp (flP s.J) q)).1) && !(apB s.S (stpP s (gp (flP s.J) n)) (sttP P (gp (flP s.J) n)) (stpP s (gp (flP s.J) q)) (sttP P (gp (flP s.J) q)))) n k = true → J3 = ((a : Int), (b : Int), 53)) := Lib.hid fun h => by
                    have h9 := HHit.out (by
                      rw [HC2.out]
                      refine anyK_true (j := k - (n + 1)) ?_ _ (by omega)
                      rw [show n + 1 + (k - (n + 1)) = k by omega]
                      exact h)
                    rw [egc] at h9
                    exact h9
                  clear HQ hbr
                  generalize (fun n q => decide ((stpP s (gp (flP s.J) n)).1 = (stpP s (gp (flP s.J) q)).1) && !(apB s.S (stpP s (gp (flP s.J) n)) (sttP P (gp (flP s.J) n)) (stpP s (gp (flP s.J) q)) (sttP P (gp (flP s.J) q)))) n k = ck at *
                  clear egc egd hrowc hrowd eac ead hstc hstd hspc hspd hac had hbc hbd haPc haPd hbPc hbPd
                  generalize gi (gr P a) b = x at *
                  generalize gi (gr P a2) b2 = x2 at *
                  generalize gs (gj s.J a) b = y at *
                  generalize gs (gj s.J a2) b2 = y2 at *
                  clear HAt HSf HRd HApt HAT HNO HK0 HK1 HK2 HRb HR HLa HC HO HVV HPJ HF2
                  have hzd := block_lt d0
                  go_upto_region 21 with (fail)
                  go_cut [12, 13] (fun v12 v13 wx => ∃ g1 g2 : Nat, v12 = .pointer (some ⟨g1, 0, none⟩) ∧ v13 = .pointer (some ⟨g2, 0, none⟩) ∧ wx.cell? ⟨g1, 0, none⟩ = some (.int .i64 y.1) ∧ wx.cell? ⟨g1, 1, none⟩ = some (.int .i64 y.2.1) ∧ wx.cell? ⟨g1, 2, none⟩ = some (.int .i64 y.2.2.1) ∧ wx.cell? ⟨g1, 3, none⟩ = some (.int .i64 y.2.2.2) ∧ wx.cell? ⟨g2, 0, none⟩ = some (.int .i64 y2.1) ∧ wx.cell? ⟨g2, 1, none⟩ = some (.int .i64 y2.2.1) ∧ wx.cell? ⟨g2, 2, none⟩ = some (.int .i64 y2.2.2.1) ∧ wx.cell? ⟨g2, 3, none⟩ = some (.int .i64 y2.2.2.2) ∧ Below wr.heap.size wr wx)
                  case first =>
                    go_wp2_with fail
                    apply shareM
                    intro kS5_11_12_13_14_15
                    apply shareM
                    intro kS5_11_12_13_14
                    apply shareM
                    intro kS5_11_12_13
                    apply shareM
                    intro kS5_11_12
                    apply shareM
                    intro kS5_11_13
                    apply shareM
                    intro kS5_11
                    apply shareM
                    intro kS5_12_13
                    apply shareM
                    intro kS5_12
                    apply shareM
                    intro kS5_13
                    apply shareM
                    intro kS5
                    apply shareM
                    intro kS12_13
                    apply shareM
                    intro kS12
                    apply shareM
                    intro kS13
                    · refine wp_region_held_drew (S := fun w' => Below wr.heap.size wr w') (by kernel_rfl) ((Below.refl _ _).drew) (fun hHeld => ?_)
                      obtain ⟨wZ, hwZ⟩ : ∃ wZ, wr.drew = wZ := ⟨_, rfl⟩
                      rw [hwZ] at hHeld ⊢
                      clear hwZ
                      refine wpAnyH_take (i := 0) (oi := { dst := some 114, op := Go.Op.load 25 (Go.Operand.tmp 2), type := 25, pos := "ref.go:170", after := #[], guard := none }) (v := .agg #[.int .i64 s.O, .int .i64 s.C, .slice s.aH s.H.length s.cH, .int .i64 s.M, .slice s.aS s.S.length s.cS, .slice s.aJ s.J.length s.cJ]) rfl (by kernel_rfl) (by kernel_rfl) (by kernel_rfl) (fun _ _ _ h => h) (.inl ⟨by kernel_rfl, fun w9 h9 => by
                        clear hHeld
                        have d0 := (h9.cell (p := ⟨w.heap.size, 0, none⟩) hzp).trans p0
                        have d1 := (h9.cell (p := ⟨w.heap.size, 1, none⟩) hzp).trans p1
                        have d2 := (h9.cell (p := ⟨w.heap.size, 2, none⟩) hzp).trans p2
                        have d3 := (h9.cell (p := ⟨w.heap.size, 3, none⟩) hzp).trans p3
                        have d4 := (h9.cell (p := ⟨w.heap.size, 4, none⟩) hzp).trans p4
                        have d5 := (h9.cell (p := ⟨w.heap.size, 5, none⟩) hzp).trans p5
                        clear h9
                        go_simp⟩) hHeld ?_
                      refine takeU (i := 1) (some 115) (.slice (some ⟨lb, lo, none⟩) N lc) (by kernel_rfl) (by kernel_rfl) (by kernel_rfl) (by kernel_rfl) (by kernel_rfl) (fun _ => by kernel_rfl) (fun _ _ _ h => h) hHeld ?_
                      refine takeU (i := 2) (some 116) (.int .i64 n) (by kernel_rfl) (by kernel_rfl) (by kernel_rfl) (by kernel_rfl) (by kernel_rfl) (fun _ => by kernel_rfl) (fun _ _ _ h => h) hHeld ?_
                      refine wpAnyH_take (i := 3) (oi := { dst := some 117, op := Go.Op.indexAddr 36 (Go.Operand.tmp 115) (Go.Operand.tmp 116), type := 0, pos := "ref.go:170", after := #[{ on := 1, ground := Go.Ground.data }, { on := 2, ground := Go.Ground.data }], guard := none }) (v := .pointer (some ⟨lb, lo + n * 2, none⟩)) rfl (by kernel_rfl) (by kernel_rfl) (by kernel_rfl) (fun _ _ _ h => h) (.inl ⟨by kernel_rfl, fun w9 h9 => by
                        clear hHeld h9
                        go_simp⟩) hHeld ?_
                      refine wpAnyH_take (i := 4) (oi := { dst := some 118, op := Go.Op.load 76 (Go.Operand.tmp 117), type := 76, pos := "ref.go:170", after := #[{ on := 3, ground := Go.Ground.data }], guard := none }) (v := .agg #[.int .i64 a, .int .i64 b]) rfl (by kernel_rfl) (by kernel_rfl) (by kernel_rfl) (fun _ _ _ h => h) (.inl ⟨by kernel_rfl, fun w9 h9 => by
                        clear hHeld
                        have d0 := (h9.cell (p := ⟨lb, lo + n * 2, none⟩) hzc).trans c0
                        have d1 := (h9.cell (p := ⟨lb, lo + n * 2 + 1, none⟩) hzc).trans c1
                        clear h9
                        go_simp⟩) hHeld ?_
                      refine wpAnyH_take (i := 6) (oi := { dst := some 120, op := Go.Op.load 25 (Go.Operand.tmp 2), type := 25, pos := "ref.go:170", after := #[], guard := none }) (v := .agg #[.int .i64 s.O, .int .i64 s.C, .slice s.aH s.H.length s.cH, .int .i64 s.M, .slice s.aS s.S.length s.cS, .slice s.aJ s.J.length s.cJ]) rfl (by kernel_rfl) (by kernel_rfl) (by kernel_rfl) (fun _ _ _ h => h) (.inl ⟨by kernel_rfl, fun w9 h9 => by
                        clear hHeld
                        have d0 := (h9.cell (p := ⟨w.heap.size, 0, none⟩) hzp).trans p0
                        have d1 := (h9.cell (p := ⟨w.heap.size, 1, none⟩) hzp).trans p1
                        have d2 := (h9.cell (p := ⟨w.heap.size, 2, none⟩) hzp).trans p2
                        have d3 := (h9.cell (p := ⟨w.heap.size, 3, none⟩) hzp).trans p3
                        have d4 := (h9.cell (p := ⟨w.heap.size, 4, none⟩) hzp).trans p4
                        have d5 := (h9.cell (p := ⟨w.heap.size, 5, none⟩) hzp).trans p5
                        clear h9
                        go_simp⟩) hHeld ?_
                      refine takeU (i := 7) (some 121) (.slice (some ⟨lb, lo, none⟩) N lc) (by kernel_rfl) (by kernel_rfl) (by kernel_rfl) (by kernel_rfl) (by kernel_rfl) (fun _ => by kernel_rfl) (fun _ _ _ h => h) hHeld ?_
                      refine takeU (i := 8) (some 122) (.int .i64 k) (by kernel_rfl) (by kernel_rfl) (by kernel_rfl) (by kernel_rfl) (by kernel_rfl) (fun _ => by kernel_rfl) (fun _ _ _ h => h) hHeld ?_
                      refine wpAnyH_take (i := 9) (oi := { dst := some 123, op := Go.Op.indexAddr 36 (Go.Operand.tmp 121) (Go.Operand.tmp 122), type := 0, pos := "ref.go:170", after := #[{ on := 7, ground := Go.Ground.data }, { on := 8, ground := Go.Ground.data }], guard := none }) (v := .pointer (some ⟨lb, lo + k * 2, none⟩)) rfl (by kernel_rfl) (by kernel_rfl) (by kernel_rfl) (fun _ _ _ h => h) (.inl ⟨by kernel_rfl, fun w9 h9 => by
                        clear hHeld h9
                        go_simp⟩) hHeld ?_
                      refine wpAnyH_take (i := 10) (oi := { dst := some 124, op := Go.Op.load 76 (Go.Operand.tmp 123), type := 76, pos := "ref.go:170", after := #[{ on := 9, ground := Go.Ground.data }], guard := none }) (v := .agg #[.int .i64 a2, .int .i64 b2]) rfl (by kernel_rfl) (by kernel_rfl) (by kernel_rfl) (fun _ _ _ h => h) (.inl ⟨by kernel_rfl, fun w9 h9 => by
                        clear hHeld
                        have d0 := (h9.cell (p := ⟨lb, lo + k * 2, none⟩) hzd).trans d0
                        have d1 := (h9.cell (p := ⟨lb, lo + k * 2 + 1, none⟩) hzd).trans d1
                        clear h9
                        go_simp⟩) hHeld ?_
                      try simp only [Act.put, List.setIfInBounds_toArray, List.set_cons_zero, List.set_cons_succ]
                      refine wpAnyH_ready (rs := [5, 12, 13]) (by kernel_rfl) (by simp) ?_
                      refine AllReadyH.cons (o := { dst := some 119, op := Go.Op.call { callee := Go.Callee.value (Go.Operand.func 49), args := #[Go.Operand.tmp 114, Go.Operand.tmp 118], argTypes := #[25, 76] }, type := 57, pos := "ref.go:170", after := #[{ on := 0, ground := Go.Ground.data }, { on := 4, ground := Go.Ground.data }], guard := none }) rfl (fun K hK => ?_) (AllReadyH.cons (o := { dst := some 12, op := Go.Op.alloc 57, type := 0, pos := "ref.go:170", after := #[], guard := none }) rfl (fun K hK => ?_) (AllReadyH.cons (o := { dst := some 13, op := Go.Op.alloc 57, type := 0, pos := "ref.go:170", after := #[], guard := none }) rfl (fun K hK => ?_) AllReadyH.nil))
                      · go_simp
                        go_at_call 49
                        refine (HAtn.out _ (HbR.out.trans (hHeld.mono HbR.out.size))).mono ?_
                        rintro e wY ⟨rfl, hb9⟩
                        refine hK.out _ _ (hHeld.trans (hb9.mono hHeld.size)) (fun hHeld => ?_)
                        clear hK K hb9
                        try simp only [Act.put, List.setIfInBounds_toArray, List.set_cons_zero, List.set_cons_succ]
                        obtain ⟨wZ, rfl⟩ : ∃ wZ : World, wZ = wY := ⟨_, rfl⟩
                        try simp only [Act.put, List.setIfInBounds_toArray, List.set_cons_zero, List.set_cons_succ]
                        change wpAnyH _ _ _ _ _ _ #[true, true, true, true, true, true, true, true, true, true, true, false, false, false, false, false] _ _
                        revert hHeld
                        revert wZ
                        exact kS5.out
                      · go_simp
                        have hA0 := hHeld
                        refine hK.out _ _ (hHeld.alloc hHeld.size _) (fun hHeld => ?_)
                        clear hK K
                        try simp only [Act.put, List.setIfInBounds_toArray, List.set_cons_zero, List.set_cons_succ]
                        have hx12 : (wZ.alloc (.cells #[.int .i64 0, .int .i64 0, .int .i64 0, .int .i64 0] 57)).heap[wZ.heap.size]? = some (.cells #[.int .i64 0, .int .i64 0, .int .i64 0, .int .i64 0] 57 (0, 0)) := heap_alloc_new _ _
                        have hq12 : wr.heap.size ≤ wZ.heap.size := hA0.size
                        obtain ⟨wY, hwY⟩ : ∃ wY, wZ.alloc (.cells #[.int .i64 0, .int .i64 0, .int .i64 0, .int .i64 0] 57) = wY := ⟨_, rfl⟩
                        obtain ⟨b12, hb12⟩ : ∃ b, wZ.heap.size = b := ⟨_, rfl⟩
                        rw [hwY] at hHeld hx12  ⊢
                        rw [hb12] at hx12 hq12  ⊢
                        clear hwY hb12 hA0
                        obtain ⟨wZ, rfl⟩ : ∃ wZ : World, wZ = wY := ⟨_, rfl⟩
                        try simp only [Act.put, List.setIfInBounds_toArray, List.set_cons_zero, List.set_cons_succ]
                        change wpAnyH _ _ _ _ _ _ #[true, true, true, true, true, false, true, true, true, true, true, false, true, false, false, false] _ _
                        revert hq12
                        revert hx12
                        revert hHeld
                        revert b12
                        revert wZ
                        exact kS12.out
                      · go_simp
                        have hA0 := hHeld
                        refine hK.out _ _ (hHeld.alloc hHeld.size _) (fun hHeld => ?_)
                        clear hK K
                        try simp only [Act.put, List.setIfInBounds_toArray, List.set_cons_zero, List.set_cons_succ]
                        have hx13 : (wZ.alloc (.cells #[.int .i64 0, .int .i64 0, .int .i64 0, .int .i64 0] 57)).heap[wZ.heap.size]? = some (.cells #[.int .i64 0, .int .i64 0, .int .i64 0, .int .i64 0] 57 (0, 0)) := heap_alloc_new _ _
                        have hq13 : wr.heap.size ≤ wZ.heap.size := hA0.size
                        obtain ⟨wY, hwY⟩ : ∃ wY, wZ.alloc (.cells #[.int .i64 0, .int .i64 0, .int .i64 0, .int .i64 0] 57) = wY := ⟨_, rfl⟩
                        obtain ⟨b13, hb13⟩ : ∃ b, wZ.heap.size = b := ⟨_, rfl⟩
                        rw [hwY] at hHeld hx13  ⊢
                        rw [hb13] at hx13 hq13  ⊢
                        clear hwY hb13 hA0
                        obtain ⟨wZ, rfl⟩ : ∃ wZ : World, wZ = wY := ⟨_, rfl⟩
                        try simp only [Act.put, List.setIfInBounds_toArray, List.set_cons_zero, List.set_cons_succ]
                        change wpAnyH _ _ _ _ _ _ #[true, true, true, true, true, false, true, true, true, true, true, false, false, true, false, false] _ _
                        revert hq13
                        revert hx13
                        revert hHeld
                        revert b13
                        revert wZ
                        exact kS13.out
                    · intro wZ b13 hHeld hx13 hq13
                      try simp only [Act.put, List.setIfInBounds_toArray, List.set_cons_zero, List.set_cons_succ]
                      refine wpAnyH_ready (rs := [5, 12]) (by kernel_rfl) (by simp) ?_
                      refine AllReadyH.cons (o := { dst := some 119, op := Go.Op.call { callee := Go.Callee.value (Go.Operand.func 49), args := #[Go.Operand.tmp 114, Go.Operand.tmp 118], argTypes := #[25, 76] }, type := 57, pos := "ref.go:170", after := #[{ on := 0, ground := Go.Ground.data }, { on := 4, ground := Go.Ground.data }], guard := none }) rfl (fun K hK => ?_) (AllReadyH.cons (o := { dst := some 12, op := Go.Op.alloc 57, type := 0, pos := "ref.go:170", after := #[], guard := none }) rfl (fun K hK => ?_) AllReadyH.nil)
                      · go_simp
                        go_at_call 49
                        refine (HAtn.out _ (HbR.out.trans (hHeld.mono HbR.out.size))).mono ?_
                        rintro e wY ⟨rfl, hb9⟩
                        replace hx13 := (hb9.block b13 (heapltM hx13)).trans hx13
                        refine hK.out _ _ (hHeld.trans (hb9.mono hHeld.size)) (fun hHeld => ?_)
                        clear hK K hb9
                        try simp only [Act.put, List.setIfInBounds_toArray, List.set_cons_zero, List.set_cons_succ]
                        obtain ⟨wZ, rfl⟩ : ∃ wZ : World, wZ = wY := ⟨_, rfl⟩
                        try simp only [Act.put, List.setIfInBounds_toArray, List.set_cons_zero, List.set_cons_succ]
                        change wpAnyH _ _ _ _ _ _ #[true, true, true, true, true, true, true, true, true, true, true, false, false, true, false, false] _ _
                        revert hq13
                        revert hx13
                        revert hHeld
                        revert b13
                        revert wZ
                        exact kS5_13.out
                      · go_simp
                        have hA0 := hHeld
                        have hn13_12 : b13 ≠ wZ.heap.size := Nat.ne_of_lt (heapltM hx13)
                        refine hK.out _ _ (hHeld.alloc hHeld.size _) (fun hHeld => ?_)
                        clear hK K
                        try simp only [Act.put, List.setIfInBounds_toArray, List.set_cons_zero, List.set_cons_succ]
                        have hx12 : (wZ.alloc (.cells #[.int .i64 0, .int .i64 0, .int .i64 0, .int .i64 0] 57)).heap[wZ.heap.size]? = some (.cells #[.int .i64 0, .int .i64 0, .int .i64 0, .int .i64 0] 57 (0, 0)) := heap_alloc_new _ _
                        replace hx13 := (((Below.refl wZ.heap.size wZ).alloc (Nat.le_refl _) (.cells #[.int .i64 0, .int .i64 0, .int .i64 0, .int .i64 0] 57)).block b13 (heapltM hx13)).trans hx13
                        have hq12 : wr.heap.size ≤ wZ.heap.size := hA0.size
                        obtain ⟨wY, hwY⟩ : ∃ wY, wZ.alloc (.cells #[.int .i64 0, .int .i64 0, .int .i64 0, .int .i64 0] 57) = wY := ⟨_, rfl⟩
                        obtain ⟨b12, hb12⟩ : ∃ b, wZ.heap.size = b := ⟨_, rfl⟩
                        rw [hwY] at hHeld hx12 hx13 ⊢
                        rw [hb12] at hx12 hq12 hn13_12 ⊢
                        clear hwY hb12 hA0
                        obtain ⟨wZ, rfl⟩ : ∃ wZ : World, wZ = wY := ⟨_, rfl⟩
                        try simp only [Act.put, List.setIfInBounds_toArray, List.set_cons_zero, List.set_cons_succ]
                        change wpAnyH _ _ _ _ _ _ #[true, true, true, true, true, false, true, true, true, true, true, false, true, true, false, false] _ _
                        revert hn13_12
                        revert hq13
                        revert hx13
                        revert hq12
                        revert hx12
                        revert hHeld
                        revert b13
                        revert b12
                        revert wZ
                        exact kS12_13.out
                    · intro wZ b12 hHeld hx12 hq12
                      try simp only [Act.put, List.setIfInBounds_toArray, List.set_cons_zero, List.set_cons_succ]
                      refine wpAnyH_ready (rs := [5, 13]) (by kernel_rfl) (by simp) ?_
                      refine AllReadyH.cons (o := { dst := some 119, op := Go.Op.call { callee := Go.Callee.value (Go.Operand.func 49), args := #[Go.Operand.tmp 114, Go.Operand.tmp 118], argTypes := #[25, 76] }, type := 57, pos := "ref.go:170", after := #[{ on := 0, ground := Go.Ground.data }, { on := 4, ground := Go.Ground.data }], guard := none }) rfl (fun K hK => ?_) (AllReadyH.cons (o := { dst := some 13, op := Go.Op.alloc 57, type := 0, pos := "ref.go:170", after := #[], guard := none }) rfl (fun K hK => ?_) AllReadyH.nil)
                      · go_simp
                        go_at_call 49
                        refine (HAtn.out _ (HbR.out.trans (hHeld.mono HbR.out.size))).mono ?_
                        rintro e wY ⟨rfl, hb9⟩
                        replace hx12 := (hb9.block b12 (heapltM hx12)).trans hx12
                        refine hK.out _ _ (hHeld.trans (hb9.mono hHeld.size)) (fun hHeld => ?_)
                        clear hK K hb9
                        try simp only [Act.put, List.setIfInBounds_toArray, List.set_cons_zero, List.set_cons_succ]
                        obtain ⟨wZ, rfl⟩ : ∃ wZ : World, wZ = wY := ⟨_, rfl⟩
                        try simp only [Act.put, List.setIfInBounds_toArray, List.set_cons_zero, List.set_cons_succ]
                        change wpAnyH _ _ _ _ _ _ #[true, true, true, true, true, true, true, true, true, true, true, false, true, false, false, false] _ _
                        revert hq12
                        revert hx12
                        revert hHeld
                        revert b12
                        revert wZ
                        exact kS5_12.out
                      · go_simp
                        have hA0 := hHeld
                        have hn13_12 : wZ.heap.size ≠ b12 := Nat.ne_of_gt (heapltM hx12)
                        refine hK.out _ _ (hHeld.alloc hHeld.size _) (fun hHeld => ?_)
                        clear hK K
                        try simp only [Act.put, List.setIfInBounds_toArray, List.set_cons_zero, List.set_cons_succ]
                        have hx13 : (wZ.alloc (.cells #[.int .i64 0, .int .i64 0, .int .i64 0, .int .i64 0] 57)).heap[wZ.heap.size]? = some (.cells #[.int .i64 0, .int .i64 0, .int .i64 0, .int .i64 0] 57 (0, 0)) := heap_alloc_new _ _
                        replace hx12 := (((Below.refl wZ.heap.size wZ).alloc (Nat.le_refl _) (.cells #[.int .i64 0, .int .i64 0, .int .i64 0, .int .i64 0] 57)).block b12 (heapltM hx12)).trans hx12
                        have hq13 : wr.heap.size ≤ wZ.heap.size := hA0.size
                        obtain ⟨wY, hwY⟩ : ∃ wY, wZ.alloc (.cells #[.int .i64 0, .int .i64 0, .int .i64 0, .int .i64 0] 57) = wY := ⟨_, rfl⟩
                        obtain ⟨b13, hb13⟩ : ∃ b, wZ.heap.size = b := ⟨_, rfl⟩
                        rw [hwY] at hHeld hx13 hx12 ⊢
                        rw [hb13] at hx13 hq13 hn13_12 ⊢
                        clear hwY hb13 hA0
                        obtain ⟨wZ, rfl⟩ : ∃ wZ : World, wZ = wY := ⟨_, rfl⟩
                        try simp only [Act.put, List.setIfInBounds_toArray, List.set_cons_zero, List.set_cons_succ]
                        change wpAnyH _ _ _ _ _ _ #[true, true, true, true, true, false, true, true, true, true, true, false, true, true, false, false] _ _
                        revert hn13_12
                        revert hq13
                        revert hx13
                        revert hq12
                        revert hx12
                        revert hHeld
                        revert b13
                        revert b12
                        revert wZ
                        exact kS12_13.out
                    · intro wZ b12 b13 hHeld hx12 hq12 hx13 hq13 hn13_12
                      try simp only [Act.put, List.setIfInBounds_toArray, List.set_cons_zero, List.set_cons_succ]
                      refine wpAnyH_ready (rs := [5]) (by kernel_rfl) (by simp) ?_
                      refine AllReadyH.cons (o := { dst := some 119, op := Go.Op.call { callee := Go.Callee.value (Go.Operand.func 49), args := #[Go.Operand.tmp 114, Go.Operand.tmp 118], argTypes := #[25, 76] }, type := 57, pos := "ref.go:170", after := #[{ on := 0, ground := Go.Ground.data }, { on := 4, ground := Go.Ground.data }], guard := none }) rfl (fun K hK => ?_) AllReadyH.nil
                      go_simp
                      go_at_call 49
                      refine (HAtn.out _ (HbR.out.trans (hHeld.mono HbR.out.size))).mono ?_
                      rintro e wY ⟨rfl, hb9⟩
                      replace hx12 := (hb9.block b12 (heapltM hx12)).trans hx12
                      replace hx13 := (hb9.block b13 (heapltM hx13)).trans hx13
                      refine hK.out _ _ (hHeld.trans (hb9.mono hHeld.size)) (fun hHeld => ?_)
                      clear hK K hb9
                      try simp only [Act.put, List.setIfInBounds_toArray, List.set_cons_zero, List.set_cons_succ]
                      obtain ⟨wZ, rfl⟩ : ∃ wZ : World, wZ = wY := ⟨_, rfl⟩
                      try simp only [Act.put, List.setIfInBounds_toArray, List.set_cons_zero, List.set_cons_succ]
                      change wpAnyH _ _ _ _ _ _ #[true, true, true, true, true, true, true, true, true, true, true, false, true, true, false, false] _ _
                      revert hn13_12
                      revert hq13
                      revert hx13
                      revert hq12
                      revert hx12
                      revert hHeld
                      revert b13
                      revert b12
                      revert wZ
                      exact kS5_12_13.out
                    · intro wZ hHeld
                      try simp only [Act.put, List.setIfInBounds_toArray, List.set_cons_zero, List.set_cons_succ]
                      refine wpAnyH_ready (rs := [11, 12, 13]) (by kernel_rfl) (by simp) ?_
                      refine AllReadyH.cons (o := { dst := some 125, op := Go.Op.call { callee := Go.Callee.value (Go.Operand.func 49), args := #[Go.Operand.tmp 120, Go.Operand.tmp 124], argTypes := #[25, 76] }, type := 57, pos := "ref.go:170", after := #[{ on := 6, ground := Go.Ground.data }, { on := 10, ground := Go.Ground.data }, { on := 5, ground := Go.Ground.chain }], guard := none }) rfl (fun K hK => ?_) (AllReadyH.cons (o := { dst := some 12, op := Go.Op.alloc 57, type := 0, pos := "ref.go:170", after := #[], guard := none }) rfl (fun K hK => ?_) (AllReadyH.cons (o := { dst := some 13, op := Go.Op.alloc 57, type := 0, pos := "ref.go:170", after := #[], guard := none }) rfl (fun K hK => ?_) AllReadyH.nil))
                      · go_simp
                        go_at_call 49
                        refine (HAtk.out _ (HbR.out.trans (hHeld.mono HbR.out.size))).mono ?_
                        rintro e wY ⟨rfl, hb9⟩
                        refine hK.out _ _ (hHeld.trans (hb9.mono hHeld.size)) (fun hHeld => ?_)
                        clear hK K hb9
                        try simp only [Act.put, List.setIfInBounds_toArray, List.set_cons_zero, List.set_cons_succ]
                        obtain ⟨wZ, rfl⟩ : ∃ wZ : World, wZ = wY := ⟨_, rfl⟩
                        try simp only [Act.put, List.setIfInBounds_toArray, List.set_cons_zero, List.set_cons_succ]
                        change wpAnyH _ _ _ _ _ _ #[true, true, true, true, true, true, true, true, true, true, true, true, false, false, false, false] _ _
                        revert hHeld
                        revert wZ
                        exact kS5_11.out
                      · go_simp
                        have hA0 := hHeld
                        refine hK.out _ _ (hHeld.alloc hHeld.size _) (fun hHeld => ?_)
                        clear hK K
                        try simp only [Act.put, List.setIfInBounds_toArray, List.set_cons_zero, List.set_cons_succ]
                        have hx12 : (wZ.alloc (.cells #[.int .i64 0, .int .i64 0, .int .i64 0, .int .i64 0] 57)).heap[wZ.heap.size]? = some (.cells #[.int .i64 0, .int .i64 0, .int .i64 0, .int .i64 0] 57 (0, 0)) := heap_alloc_new _ _
                        have hq12 : wr.heap.size ≤ wZ.heap.size := hA0.size
                        obtain ⟨wY, hwY⟩ : ∃ wY, wZ.alloc (.cells #[.int .i64 0, .int .i64 0, .int .i64 0, .int .i64 0] 57) = wY := ⟨_, rfl⟩
                        obtain ⟨b12, hb12⟩ : ∃ b, wZ.heap.size = b := ⟨_, rfl⟩
                        rw [hwY] at hHeld hx12  ⊢
                        rw [hb12] at hx12 hq12  ⊢
                        clear hwY hb12 hA0
                        obtain ⟨wZ, rfl⟩ : ∃ wZ : World, wZ = wY := ⟨_, rfl⟩
                        try simp only [Act.put, List.setIfInBounds_toArray, List.set_cons_zero, List.set_cons_succ]
                        change wpAnyH _ _ _ _ _ _ #[true, true, true, true, true, true, true, true, true, true, true, false, true, false, false, false] _ _
                        revert hq12
                        revert hx12
                        revert hHeld
                        revert b12
                        revert wZ
                        exact kS5_12.out
                      · go_simp
                        have hA0 := hHeld
                        refine hK.out _ _ (hHeld.alloc hHeld.size _) (fun hHeld => ?_)
                        clear hK K
                        try simp only [Act.put, List.setIfInBounds_toArray, List.set_cons_zero, List.set_cons_succ]
                        have hx13 : (wZ.alloc (.cells #[.int .i64 0, .int .i64 0, .int .i64 0, .int .i64 0] 57)).heap[wZ.heap.size]? = some (.cells #[.int .i64 0, .int .i64 0, .int .i64 0, .int .i64 0] 57 (0, 0)) := heap_alloc_new _ _
                        have hq13 : wr.heap.size ≤ wZ.heap.size := hA0.size
                        obtain ⟨wY, hwY⟩ : ∃ wY, wZ.alloc (.cells #[.int .i64 0, .int .i64 0, .int .i64 0, .int .i64 0] 57) = wY := ⟨_, rfl⟩
                        obtain ⟨b13, hb13⟩ : ∃ b, wZ.heap.size = b := ⟨_, rfl⟩
                        rw [hwY] at hHeld hx13  ⊢
                        rw [hb13] at hx13 hq13  ⊢
                        clear hwY hb13 hA0
                        obtain ⟨wZ, rfl⟩ : ∃ wZ : World, wZ = wY := ⟨_, rfl⟩
                        try simp only [Act.put, List.setIfInBounds_toArray, List.set_cons_zero, List.set_cons_succ]
                        change wpAnyH _ _ _ _ _ _ #[true, true, true, true, true, true, true, true, true, true, true, false, false, true, false, false] _ _
                        revert hq13
                        revert hx13
                        revert hHeld
                        revert b13
                        revert wZ
                        exact kS5_13.out
                    · intro wZ b13 hHeld hx13 hq13
                      try simp only [Act.put, List.setIfInBounds_toArray, List.set_cons_zero, List.set_cons_succ]
                      refine wpAnyH_ready (rs := [11, 12]) (by kernel_rfl) (by simp) ?_
                      refine AllReadyH.cons (o := { dst := some 125, op := Go.Op.call { callee := Go.Callee.value (Go.Operand.func 49), args := #[Go.Operand.tmp 120, Go.Operand.tmp 124], argTypes := #[25, 76] }, type := 57, pos := "ref.go:170", after := #[{ on := 6, ground := Go.Ground.data }, { on := 10, ground := Go.Ground.data }, { on := 5, ground := Go.Ground.chain }], guard := none }) rfl (fun K hK => ?_) (AllReadyH.cons (o := { dst := some 12, op := Go.Op.alloc 57, type := 0, pos := "ref.go:170", after := #[], guard := none }) rfl (fun K hK => ?_) AllReadyH.nil)
                      · go_simp
                        go_at_call 49
                        refine (HAtk.out _ (HbR.out.trans (hHeld.mono HbR.out.size))).mono ?_
                        rintro e wY ⟨rfl, hb9⟩
                        replace hx13 := (hb9.block b13 (heapltM hx13)).trans hx13
                        refine hK.out _ _ (hHeld.trans (hb9.mono hHeld.size)) (fun hHeld => ?_)
                        clear hK K hb9
                        try simp only [Act.put, List.setIfInBounds_toArray, List.set_cons_zero, List.set_cons_succ]
                        obtain ⟨wZ, rfl⟩ : ∃ wZ : World, wZ = wY := ⟨_, rfl⟩
                        try simp only [Act.put, List.setIfInBounds_toArray, List.set_cons_zero, List.set_cons_succ]
                        change wpAnyH _ _ _ _ _ _ #[true, true, true, true, true, true, true, true, true, true, true, true, false, true, false, false] _ _
                        revert hq13
                        revert hx13
                        revert hHeld
                        revert b13
                        revert wZ
                        exact kS5_11_13.out
                      · go_simp
                        have hA0 := hHeld
                        have hn13_12 : b13 ≠ wZ.heap.size := Nat.ne_of_lt (heapltM hx13)
                        refine hK.out _ _ (hHeld.alloc hHeld.size _) (fun hHeld => ?_)
                        clear hK K
                        try simp only [Act.put, List.setIfInBounds_toArray, List.set_cons_zero, List.set_cons_succ]
                        have hx12 : (wZ.alloc (.cells #[.int .i64 0, .int .i64 0, .int .i64 0, .int .i64 0] 57)).heap[wZ.heap.size]? = some (.cells #[.int .i64 0, .int .i64 0, .int .i64 0, .int .i64 0] 57 (0, 0)) := heap_alloc_new _ _
                        replace hx13 := (((Below.refl wZ.heap.size wZ).alloc (Nat.le_refl _) (.cells #[.int .i64 0, .int .i64 0, .int .i64 0, .int .i64 0] 57)).block b13 (heapltM hx13)).trans hx13
                        have hq12 : wr.heap.size ≤ wZ.heap.size := hA0.size
                        obtain ⟨wY, hwY⟩ : ∃ wY, wZ.alloc (.cells #[.int .i64 0, .int .i64 0, .int .i64 0, .int .i64 0] 57) = wY := ⟨_, rfl⟩
                        obtain ⟨b12, hb12⟩ : ∃ b, wZ.heap.size = b := ⟨_, rfl⟩
                        rw [hwY] at hHeld hx12 hx13 ⊢
                        rw [hb12] at hx12 hq12 hn13_12 ⊢
                        clear hwY hb12 hA0
                        obtain ⟨wZ, rfl⟩ : ∃ wZ : World, wZ = wY := ⟨_, rfl⟩
                        try simp only [Act.put, List.setIfInBounds_toArray, List.set_cons_zero, List.set_cons_succ]
                        change wpAnyH _ _ _ _ _ _ #[true, true, true, true, true, true, true, true, true, true, true, false, true, true, false, false] _ _
                        revert hn13_12
                        revert hq13
                        revert hx13
                        revert hq12
                        revert hx12
                        revert hHeld
                        revert b13
                        revert b12
                        revert wZ
                        exact kS5_12_13.out
                    · intro wZ b12 hHeld hx12 hq12
                      try simp only [Act.put, List.setIfInBounds_toArray, List.set_cons_zero, List.set_cons_succ]
                      refine wpAnyH_ready (rs := [11, 13]) (by kernel_rfl) (by simp) ?_
                      refine AllReadyH.cons (o := { dst := some 125, op := Go.Op.call { callee := Go.Callee.value (Go.Operand.func 49), args := #[Go.Operand.tmp 120, Go.Operand.tmp 124], argTypes := #[25, 76] }, type := 57, pos := "ref.go:170", after := #[{ on := 6, ground := Go.Ground.data }, { on := 10, ground := Go.Ground.data }, { on := 5, ground := Go.Ground.chain }], guard := none }) rfl (fun K hK => ?_) (AllReadyH.cons (o := { dst := some 13, op := Go.Op.alloc 57, type := 0, pos := "ref.go:170", after := #[], guard := none }) rfl (fun K hK => ?_) AllReadyH.nil)
                      · go_simp
                        go_at_call 49
                        refine (HAtk.out _ (HbR.out.trans (hHeld.mono HbR.out.size))).mono ?_
                        rintro e wY ⟨rfl, hb9⟩
                        replace hx12 := (hb9.block b12 (heapltM hx12)).trans hx12
                        refine hK.out _ _ (hHeld.trans (hb9.mono hHeld.size)) (fun hHeld => ?_)
                        clear hK K hb9
                        try simp only [Act.put, List.setIfInBounds_toArray, List.set_cons_zero, List.set_cons_succ]
                        obtain ⟨wZ, rfl⟩ : ∃ wZ : World, wZ = wY := ⟨_, rfl⟩
                        try simp only [Act.put, List.setIfInBounds_toArray, List.set_cons_zero, List.set_cons_succ]
                        change wpAnyH _ _ _ _ _ _ #[true, true, true, true, true, true, true, true, true, true, true, true, true, false, false, false] _ _
                        revert hq12
                        revert hx12
                        revert hHeld
                        revert b12
                        revert wZ
                        exact kS5_11_12.out
                      · go_simp
                        have hA0 := hHeld
                        have hn13_12 : wZ.heap.size ≠ b12 := Nat.ne_of_gt (heapltM hx12)
                        refine hK.out _ _ (hHeld.alloc hHeld.size _) (fun hHeld => ?_)
                        clear hK K
                        try simp only [Act.put, List.setIfInBounds_toArray, List.set_cons_zero, List.set_cons_succ]
                        have hx13 : (wZ.alloc (.cells #[.int .i64 0, .int .i64 0, .int .i64 0, .int .i64 0] 57)).heap[wZ.heap.size]? = some (.cells #[.int .i64 0, .int .i64 0, .int .i64 0, .int .i64 0] 57 (0, 0)) := heap_alloc_new _ _
                        replace hx12 := (((Below.refl wZ.heap.size wZ).alloc (Nat.le_refl _) (.cells #[.int .i64 0, .int .i64 0, .int .i64 0, .int .i64 0] 57)).block b12 (heapltM hx12)).trans hx12
                        have hq13 : wr.heap.size ≤ wZ.heap.size := hA0.size
                        obtain ⟨wY, hwY⟩ : ∃ wY, wZ.alloc (.cells #[.int .i64 0, .int .i64 0, .int .i64 0, .int .i64 0] 57) = wY := ⟨_, rfl⟩
                        obtain ⟨b13, hb13⟩ : ∃ b, wZ.heap.size = b := ⟨_, rfl⟩
                        rw [hwY] at hHeld hx13 hx12 ⊢
                        rw [hb13] at hx13 hq13 hn13_12 ⊢
                        clear hwY hb13 hA0
                        obtain ⟨wZ, rfl⟩ : ∃ wZ : World, wZ = wY := ⟨_, rfl⟩
                        try simp only [Act.put, List.setIfInBounds_toArray, List.set_cons_zero, List.set_cons_succ]
                        change wpAnyH _ _ _ _ _ _ #[true, true, true, true, true, true, true, true, true, true, true, false, true, true, false, false] _ _
                        revert hn13_12
                        revert hq13
                        revert hx13
                        revert hq12
                        revert hx12
                        revert hHeld
                        revert b13
                        revert b12
                        revert wZ
                        exact kS5_12_13.out
                    · intro wZ b12 b13 hHeld hx12 hq12 hx13 hq13 hn13_12
                      try simp only [Act.put, List.setIfInBounds_toArray, List.set_cons_zero, List.set_cons_succ]
                      refine wpAnyH_ready (rs := [11]) (by kernel_rfl) (by simp) ?_
                      refine AllReadyH.cons (o := { dst := some 125, op := Go.Op.call { callee := Go.Callee.value (Go.Operand.func 49), args := #[Go.Operand.tmp 120, Go.Operand.tmp 124], argTypes := #[25, 76] }, type := 57, pos := "ref.go:170", after := #[{ on := 6, ground := Go.Ground.data }, { on := 10, ground := Go.Ground.data }, { on := 5, ground := Go.Ground.chain }], guard := none }) rfl (fun K hK => ?_) AllReadyH.nil
                      go_simp
                      go_at_call 49
                      refine (HAtk.out _ (HbR.out.trans (hHeld.mono HbR.out.size))).mono ?_
                      rintro e wY ⟨rfl, hb9⟩
                      replace hx12 := (hb9.block b12 (heapltM hx12)).trans hx12
                      replace hx13 := (hb9.block b13 (heapltM hx13)).trans hx13
                      refine hK.out _ _ (hHeld.trans (hb9.mono hHeld.size)) (fun hHeld => ?_)
                      clear hK K hb9
                      try simp only [Act.put, List.setIfInBounds_toArray, List.set_cons_zero, List.set_cons_succ]
                      obtain ⟨wZ, rfl⟩ : ∃ wZ : World, wZ = wY := ⟨_, rfl⟩
                      try simp only [Act.put, List.setIfInBounds_toArray, List.set_cons_zero, List.set_cons_succ]
                      change wpAnyH _ _ _ _ _ _ #[true, true, true, true, true, true, true, true, true, true, true, true, true, true, false, false] _ _
                      revert hn13_12
                      revert hq13
                      revert hx13
                      revert hq12
                      revert hx12
                      revert hHeld
                      revert b13
                      revert b12
                      revert wZ
                      exact kS5_11_12_13.out
                    · intro wZ hHeld
                      try simp only [Act.put, List.setIfInBounds_toArray, List.set_cons_zero, List.set_cons_succ]
                      refine wpAnyH_ready (rs := [12, 13]) (by kernel_rfl) (by simp) ?_
                      refine AllReadyH.cons (o := { dst := some 12, op := Go.Op.alloc 57, type := 0, pos := "ref.go:170", after := #[], guard := none }) rfl (fun K hK => ?_) (AllReadyH.cons (o := { dst := some 13, op := Go.Op.alloc 57, type := 0, pos := "ref.go:170", after := #[], guard := none }) rfl (fun K hK => ?_) AllReadyH.nil)
                      · go_simp
                        have hA0 := hHeld
                        refine hK.out _ _ (hHeld.alloc hHeld.size _) (fun hHeld => ?_)
                        clear hK K
                        try simp only [Act.put, List.setIfInBounds_toArray, List.set_cons_zero, List.set_cons_succ]
                        have hx12 : (wZ.alloc (.cells #[.int .i64 0, .int .i64 0, .int .i64 0, .int .i64 0] 57)).heap[wZ.heap.size]? = some (.cells #[.int .i64 0, .int .i64 0, .int .i64 0, .int .i64 0] 57 (0, 0)) := heap_alloc_new _ _
                        have hq12 : wr.heap.size ≤ wZ.heap.size := hA0.size
                        obtain ⟨wY, hwY⟩ : ∃ wY, wZ.alloc (.cells #[.int .i64 0, .int .i64 0, .int .i64 0, .int .i64 0] 57) = wY := ⟨_, rfl⟩
                        obtain ⟨b12, hb12⟩ : ∃ b, wZ.heap.size = b := ⟨_, rfl⟩
                        rw [hwY] at hHeld hx12  ⊢
                        rw [hb12] at hx12 hq12  ⊢
                        clear hwY hb12 hA0
                        obtain ⟨wZ, rfl⟩ : ∃ wZ : World, wZ = wY := ⟨_, rfl⟩
                        try simp only [Act.put, List.setIfInBounds_toArray, List.set_cons_zero, List.set_cons_succ]
                        change wpAnyH _ _ _ _ _ _ #[true, true, true, true, true, true, true, true, true, true, true, true, true, false, false, false] _ _
                        revert hq12
                        revert hx12
                        revert hHeld
                        revert b12
                        revert wZ
                        exact kS5_11_12.out
                      · go_simp
                        have hA0 := hHeld
                        refine hK.out _ _ (hHeld.alloc hHeld.size _) (fun hHeld => ?_)
                        clear hK K
                        try simp only [Act.put, List.setIfInBounds_toArray, List.set_cons_zero, List.set_cons_succ]
                        have hx13 : (wZ.alloc (.cells #[.int .i64 0, .int .i64 0, .int .i64 0, .int .i64 0] 57)).heap[wZ.heap.size]? = some (.cells #[.int .i64 0, .int .i64 0, .int .i64 0, .int .i64 0] 57 (0, 0)) := heap_alloc_new _ _
                        have hq13 : wr.heap.size ≤ wZ.heap.size := hA0.size
                        obtain ⟨wY, hwY⟩ : ∃ wY, wZ.alloc (.cells #[.int .i64 0, .int .i64 0, .int .i64 0, .int .i64 0] 57) = wY := ⟨_, rfl⟩
                        obtain ⟨b13, hb13⟩ : ∃ b, wZ.heap.size = b := ⟨_, rfl⟩
                        rw [hwY] at hHeld hx13  ⊢
                        rw [hb13] at hx13 hq13  ⊢
                        clear hwY hb13 hA0
                        obtain ⟨wZ, rfl⟩ : ∃ wZ : World, wZ = wY := ⟨_, rfl⟩
                        try simp only [Act.put, List.setIfInBounds_toArray, List.set_cons_zero, List.set_cons_succ]
                        change wpAnyH _ _ _ _ _ _ #[true, true, true, true, true, true, true, true, true, true, true, true, false, true, false, false] _ _
                        revert hq13
                        revert hx13
                        revert hHeld
                        revert b13
                        revert wZ
                        exact kS5_11_13.out
                    · intro wZ b13 hHeld hx13 hq13
                      try simp only [Act.put, List.setIfInBounds_toArray, List.set_cons_zero, List.set_cons_succ]
                      refine wpAnyH_ready (rs := [12]) (by kernel_rfl) (by simp) ?_
                      refine AllReadyH.cons (o := { dst := some 12, op := Go.Op.alloc 57, type := 0, pos := "ref.go:170", after := #[], guard := none }) rfl (fun K hK => ?_) AllReadyH.nil
                      go_simp
                      have hA0 := hHeld
                      have hn13_12 : b13 ≠ wZ.heap.size := Nat.ne_of_lt (heapltM hx13)
                      refine hK.out _ _ (hHeld.alloc hHeld.size _) (fun hHeld => ?_)
                      clear hK K
                      try simp only [Act.put, List.setIfInBounds_toArray, List.set_cons_zero, List.set_cons_succ]
                      have hx12 : (wZ.alloc (.cells #[.int .i64 0, .int .i64 0, .int .i64 0, .int .i64 0] 57)).heap[wZ.heap.size]? = some (.cells #[.int .i64 0, .int .i64 0, .int .i64 0, .int .i64 0] 57 (0, 0)) := heap_alloc_new _ _
                      replace hx13 := (((Below.refl wZ.heap.size wZ).alloc (Nat.le_refl _) (.cells #[.int .i64 0, .int .i64 0, .int .i64 0, .int .i64 0] 57)).block b13 (heapltM hx13)).trans hx13
                      have hq12 : wr.heap.size ≤ wZ.heap.size := hA0.size
                      obtain ⟨wY, hwY⟩ : ∃ wY, wZ.alloc (.cells #[.int .i64 0, .int .i64 0, .int .i64 0, .int .i64 0] 57) = wY := ⟨_, rfl⟩
                      obtain ⟨b12, hb12⟩ : ∃ b, wZ.heap.size = b := ⟨_, rfl⟩
                      rw [hwY] at hHeld hx12 hx13 ⊢
                      rw [hb12] at hx12 hq12 hn13_12 ⊢
                      clear hwY hb12 hA0
                      obtain ⟨wZ, rfl⟩ : ∃ wZ : World, wZ = wY := ⟨_, rfl⟩
                      try simp only [Act.put, List.setIfInBounds_toArray, List.set_cons_zero, List.set_cons_succ]
                      change wpAnyH _ _ _ _ _ _ #[true, true, true, true, true, true, true, true, true, true, true, true, true, true, false, false] _ _
                      revert hn13_12
                      revert hq13
                      revert hx13
                      revert hq12
                      revert hx12
                      revert hHeld
                      revert b13
                      revert b12
                      revert wZ
                      exact kS5_11_12_13.out
                    · intro wZ b12 hHeld hx12 hq12
                      try simp only [Act.put, List.setIfInBounds_toArray, List.set_cons_zero, List.set_cons_succ]
                      refine wpAnyH_ready (rs := [13]) (by kernel_rfl) (by simp) ?_
                      refine AllReadyH.cons (o := { dst := some 13, op := Go.Op.alloc 57, type := 0, pos := "ref.go:170", after := #[], guard := none }) rfl (fun K hK => ?_) AllReadyH.nil
                      go_simp
                      have hA0 := hHeld
                      have hn13_12 : wZ.heap.size ≠ b12 := Nat.ne_of_gt (heapltM hx12)
                      refine hK.out _ _ (hHeld.alloc hHeld.size _) (fun hHeld => ?_)
                      clear hK K
                      try simp only [Act.put, List.setIfInBounds_toArray, List.set_cons_zero, List.set_cons_succ]
                      have hx13 : (wZ.alloc (.cells #[.int .i64 0, .int .i64 0, .int .i64 0, .int .i64 0] 57)).heap[wZ.heap.size]? = some (.cells #[.int .i64 0, .int .i64 0, .int .i64 0, .int .i64 0] 57 (0, 0)) := heap_alloc_new _ _
                      replace hx12 := (((Below.refl wZ.heap.size wZ).alloc (Nat.le_refl _) (.cells #[.int .i64 0, .int .i64 0, .int .i64 0, .int .i64 0] 57)).block b12 (heapltM hx12)).trans hx12
                      have hq13 : wr.heap.size ≤ wZ.heap.size := hA0.size
                      obtain ⟨wY, hwY⟩ : ∃ wY, wZ.alloc (.cells #[.int .i64 0, .int .i64 0, .int .i64 0, .int .i64 0] 57) = wY := ⟨_, rfl⟩
                      obtain ⟨b13, hb13⟩ : ∃ b, wZ.heap.size = b := ⟨_, rfl⟩
                      rw [hwY] at hHeld hx13 hx12 ⊢
                      rw [hb13] at hx13 hq13 hn13_12 ⊢
                      clear hwY hb13 hA0
                      obtain ⟨wZ, rfl⟩ : ∃ wZ : World, wZ = wY := ⟨_, rfl⟩
                      try simp only [Act.put, List.setIfInBounds_toArray, List.set_cons_zero, List.set_cons_succ]
                      change wpAnyH _ _ _ _ _ _ #[true, true, true, true, true, true, true, true, true, true, true, true, true, true, false, false] _ _
                      revert hn13_12
                      revert hq13
                      revert hx13
                      revert hq12
                      revert hx12
                      revert hHeld
                      revert b13
                      revert b12
                      revert wZ
                      exact kS5_11_12_13.out
                    · intro wZ b12 b13 hHeld hx12 hq12 hx13 hq13 hn13_12
                      try simp only [Act.put, List.setIfInBounds_toArray, List.set_cons_zero, List.set_cons_succ]
                      refine wpAnyH_ready (rs := [14]) (by kernel_rfl) (by simp) ?_
                      refine AllReadyH.cons (o := { dst := none, op := Go.Op.store 57 (Go.Operand.tmp 12) (Go.Operand.tmp 119), type := 0, pos := "ref.go:170", after := #[{ on := 12, ground := Go.Ground.data }, { on := 5, ground := Go.Ground.data }, { on := 11, ground := Go.Ground.chain }, { on := 0, ground := Go.Ground.phase }, { on := 1, ground := Go.Ground.phase }, { on := 2, ground := Go.Ground.phase }, { on := 3, ground := Go.Ground.phase }, { on := 4, ground := Go.Ground.phase }, { on := 5, ground := Go.Ground.phase }, { on := 6, ground := Go.Ground.textOnly Go.Departure.lateStores }, { on := 7, ground := Go.Ground.textOnly Go.Departure.lateStores }, { on := 8, ground := Go.Ground.textOnly Go.Departure.lateStores }, { on := 9, ground := Go.Ground.textOnly Go.Departure.lateStores }, { on := 10, ground := Go.Ground.textOnly Go.Departure.lateStores }, { on := 11, ground := Go.Ground.textOnly Go.Departure.lateStoresUnsure }, { on := 12, ground := Go.Ground.phase }, { on := 13, ground := Go.Ground.phase }], guard := none }) rfl (fun K hK => ?_) AllReadyH.nil
                      have y0 := heapcM hx12 0 _ rfl
                      have g0 : wZ.frozen? ⟨b12, 0, none⟩ = false := by simp [World.frozen?, hx12]
                      have y1 := heapcM hx12 1 _ rfl
                      have g1 : wZ.frozen? ⟨b12, 1, none⟩ = false := by simp [World.frozen?, hx12]
                      have y2 := heapcM hx12 2 _ rfl
                      have g2 : wZ.frozen? ⟨b12, 2, none⟩ = false := by simp [World.frozen?, hx12]
                      have y3 := heapcM hx12 3 _ rfl
                      have g3 : wZ.frozen? ⟨b12, 3, none⟩ = false := by simp [World.frozen?, hx12]
                      go_simp
                      refine hK.out _ _ ((((hHeld.setCell (p := ⟨b12, 0, none⟩) hq12 _).setCell (p := ⟨b12, 1, none⟩) hq12 _).setCell (p := ⟨b12, 2, none⟩) hq12 _).setCell (p := ⟨b12, 3, none⟩) hq12 _) (fun hHeld => ?_)
                      clear hK K y0 g0 y1 g1 y2 g2 y3 g3
                      try simp only [Act.put, List.setIfInBounds_toArray, List.set_cons_zero, List.set_cons_succ]
                      replace hx13 := (heapO4 (w := wZ) (B := b12) hn13_12 (.int .i64 y.1) (.int .i64 y.2.1) (.int .i64 y.2.2.1) (.int .i64 y.2.2.2)).trans hx13
                      replace hx12 := heapM4 hx12 (.int .i64 y.1) (.int .i64 y.2.1) (.int .i64 y.2.2.1) (.int .i64 y.2.2.2)
                      obtain ⟨wY, hwY⟩ : ∃ wY, ((((wZ.setCell ⟨b12, 0, none⟩ (.int .i64 y.1)).setCell ⟨b12, 1, none⟩ (.int .i64 y.2.1)).setCell ⟨b12, 2, none⟩ (.int .i64 y.2.2.1)).setCell ⟨b12, 3, none⟩ (.int .i64 y.2.2.2)) = wY := ⟨_, rfl⟩
                      rw [hwY] at hHeld hx12 hx13 ⊢
                      clear hwY
                      obtain ⟨wZ, rfl⟩ : ∃ wZ : World, wZ = wY := ⟨_, rfl⟩
                      try simp only [Act.put, List.setIfInBounds_toArray, List.set_cons_zero, List.set_cons_succ]
                      change wpAnyH _ _ _ _ _ _ #[true, true, true, true, true, true, true, true, true, true, true, true, true, true, true, false] _ _
                      revert hn13_12
                      revert hq13
                      revert hx13
                      revert hq12
                      revert hx12
                      revert hHeld
                      revert b13
                      revert b12
                      revert wZ
                      exact kS5_11_12_13_14.out
                    · intro wZ b12 b13 hHeld hx12 hq12 hx13 hq13 hn13_12
                      try simp only [Act.put, List.setIfInBounds_toArray, List.set_cons_zero, List.set_cons_succ]
                      refine wpAnyH_ready (rs := [15]) (by kernel_rfl) (by simp) ?_
                      refine AllReadyH.cons (o := { dst := none, op := Go.Op.store 57 (Go.Operand.tmp 13) (Go.Operand.tmp 125), type := 0, pos := "ref.go:170", after := #[{ on := 13, ground := Go.Ground.data }, { on := 11, ground := Go.Ground.data }, { on := 14, ground := Go.Ground.chain }, { on := 0, ground := Go.Ground.phase }, { on := 1, ground := Go.Ground.phase }, { on := 2, ground := Go.Ground.phase }, { on := 3, ground := Go.Ground.phase }, { on := 4, ground := Go.Ground.phase }, { on := 5, ground := Go.Ground.phase }, { on := 6, ground := Go.Ground.phase }, { on := 7, ground := Go.Ground.phase }, { on := 8, ground := Go.Ground.phase }, { on := 9, ground := Go.Ground.phase }, { on := 10, ground := Go.Ground.phase }, { on := 11, ground := Go.Ground.phase }, { on := 12, ground := Go.Ground.phase }, { on := 13, ground := Go.Ground.phase }, { on := 14, ground := Go.Ground.phase }], guard := none }) rfl (fun K hK => ?_) AllReadyH.nil
                      have y0 := heapcM hx13 0 _ rfl
                      have g0 : wZ.frozen? ⟨b13, 0, none⟩ = false := by simp [World.frozen?, hx13]
                      have y1 := heapcM hx13 1 _ rfl
                      have g1 : wZ.frozen? ⟨b13, 1, none⟩ = false := by simp [World.frozen?, hx13]
                      have y2 := heapcM hx13 2 _ rfl
                      have g2 : wZ.frozen? ⟨b13, 2, none⟩ = false := by simp [World.frozen?, hx13]
                      have y3 := heapcM hx13 3 _ rfl
                      have g3 : wZ.frozen? ⟨b13, 3, none⟩ = false := by simp [World.frozen?, hx13]
                      go_simp
                      refine hK.out _ _ ((((hHeld.setCell (p := ⟨b13, 0, none⟩) hq13 _).setCell (p := ⟨b13, 1, none⟩) hq13 _).setCell (p := ⟨b13, 2, none⟩) hq13 _).setCell (p := ⟨b13, 3, none⟩) hq13 _) (fun hHeld => ?_)
                      clear hK K y0 g0 y1 g1 y2 g2 y3 g3
                      try simp only [Act.put, List.setIfInBounds_toArray, List.set_cons_zero, List.set_cons_succ]
                      replace hx12 := (heapO4 (w := wZ) (B := b13) hn13_12.symm (.int .i64 y2.1) (.int .i64 y2.2.1) (.int .i64 y2.2.2.1) (.int .i64 y2.2.2.2)).trans hx12
                      replace hx13 := heapM4 hx13 (.int .i64 y2.1) (.int .i64 y2.2.1) (.int .i64 y2.2.2.1) (.int .i64 y2.2.2.2)
                      obtain ⟨wY, hwY⟩ : ∃ wY, ((((wZ.setCell ⟨b13, 0, none⟩ (.int .i64 y2.1)).setCell ⟨b13, 1, none⟩ (.int .i64 y2.2.1)).setCell ⟨b13, 2, none⟩ (.int .i64 y2.2.2.1)).setCell ⟨b13, 3, none⟩ (.int .i64 y2.2.2.2)) = wY := ⟨_, rfl⟩
                      rw [hwY] at hHeld hx12 hx13 ⊢
                      clear hwY
                      obtain ⟨wZ, rfl⟩ : ∃ wZ : World, wZ = wY := ⟨_, rfl⟩
                      try simp only [Act.put, List.setIfInBounds_toArray, List.set_cons_zero, List.set_cons_succ]
                      change wpAnyH _ _ _ _ _ _ #[true, true, true, true, true, true, true, true, true, true, true, true, true, true, true, true] _ _
                      revert hn13_12
                      revert hq13
                      revert hx13
                      revert hq12
                      revert hx12
                      revert hHeld
                      revert b13
                      revert b12
                      revert wZ
                      exact kS5_11_12_13_14_15.out
                    · intro wZ b12 b13 hHeld hx12 hq12 hx13 hq13 hn13_12
                      refine wpAnyH_done (by kernel_rfl) ?_ _
                      try simp only [Act.put, List.setIfInBounds_toArray, List.set_cons_zero, List.set_cons_succ]
                      go_wp2_with fail
                      go_meet
                      exact ⟨b12, b13, rfl, rfl, heapcM hx12 0 _ rfl, heapcM hx12 1 _ rfl, heapcM hx12 2 _ rfl, heapcM hx12 3 _ rfl, heapcM hx13 0 _ rfl, heapcM hx13 1 _ rfl, heapcM hx13 2 _ rfl, heapcM hx13 3 _ rfl, hHeld⟩
                  case rest =>
                    obtain ⟨g1, g2, rfl, rfl, e0, e1, e2, e3, f0, f1, f2, f3, hbx⟩ := hcut
                    obtain ⟨wM, rfl⟩ : ∃ wM : World, wM = wc := ⟨_, rfl⟩
                    replace p0 := cell_below p0 hbx
                    replace p1 := cell_below p1 hbx
                    replace p2 := cell_below p2 hbx
                    replace p3 := cell_below p3 hbx
                    replace p4 := cell_below p4 hbx
                    replace p5 := cell_below p5 hbx
                    replace c0 := cell_below c0 hbx
                    replace c1 := cell_below c1 hbx
                    replace d0 := cell_below d0 hbx
                    replace d1 := cell_below d1 hbx
                    replace gc := cell_below gc hbx
                    replace hc := cell_below hc hbx
                    replace gd := cell_below gd hbx
                    replace hd := cell_below hd hbx
                    clear hzp hzc hzd hzg hzh
                    have hzp := block_lt p0
                    have hzc := block_lt c0
                    have hzd := block_lt d0
                    have hzg := block_lt gc
                    have hzh := block_lt hc
                    have hzgd := block_lt gd
                    have hzhd := block_lt hd
                    have hze := block_lt e0
                    have hzf := block_lt f0
                    have HbM := Lib.hid (HbR.out.trans (hbx.mono HbR.out.size))
                    have HbLM := Lib.hid (Hbr.out.trans (hbx.mono Hbr.out.size))
                    obtain ⟨bb, hbb⟩ : ∃ bb, apB s.S y x y2 x2 = bb := ⟨_, rfl⟩
                    rw [hbb] at HAp HC9
                    clear hbb hbx HbR Hbr HAtn HAtk
                    by_cases hm : y.1 = y2.1
                    · have dm : (y.1 == y2.1) = true := by rw [beq_iff_eq]; exact hm
                      have HCk : Hid (ck = !bb) := Lib.hid (by rw [HC9.out, decide_eq_true hm, Bool.true_and])
                      clear hm HC9
                      go_wp2_with fail
                      refine wp_region_held_drew (S := fun w' => Below wM.heap.size wM w') (by kernel_rfl) ((Below.refl _ _).drew) (fun hHeld => ?_)
                      refine takeU (i := 0) (some 126) (.pointer (some ⟨g1, 0, none⟩)) (by kernel_rfl) (by kernel_rfl) (by kernel_rfl) (by kernel_rfl) (by kernel_rfl) (fun _ => by kernel_rfl) (fun _ _ _ h => h) hHeld ?_
                      refine wpAnyH_take (i := 1) (oi := { dst := some 127, op := Go.Op.load 3 (Go.Operand.tmp 126), type := 3, pos := "ref.go:171", after := #[{ on := 0, ground := Go.Ground.data }], guard := none }) (v := .int .i64 y.1) rfl (by kernel_rfl) (by kernel_rfl) (by kernel_rfl) (fun _ _ _ h => h) (.inl ⟨by kernel_rfl, fun w9 h9 => by
                        clear hHeld
                        have d0 := (h9.cell (p := ⟨g1, 0, none⟩) hze).trans e0
                        clear h9
                        go_simp⟩) hHeld ?_
                      refine takeU (i := 2) (some 128) (.pointer (some ⟨g2, 0, none⟩)) (by kernel_rfl) (by kernel_rfl) (by kernel_rfl) (by kernel_rfl) (by kernel_rfl) (fun _ => by kernel_rfl) (fun _ _ _ h => h) hHeld ?_
                      refine wpAnyH_take (i := 3) (oi := { dst := some 129, op := Go.Op.load 3 (Go.Operand.tmp 128), type := 3, pos := "ref.go:171", after := #[{ on := 2, ground := Go.Ground.data }], guard := none }) (v := .int .i64 y2.1) rfl (by kernel_rfl) (by kernel_rfl) (by kernel_rfl) (fun _ _ _ h => h) (.inl ⟨by kernel_rfl, fun w9 h9 => by
                        clear hHeld
                        have d0 := (h9.cell (p := ⟨g2, 0, none⟩) hzf).trans f0
                        clear h9
                        go_simp⟩) hHeld ?_
                      refine wpAnyH_take (i := 4) (oi := { dst := some 130, op := Go.Op.binOp Go.BinOp.eql 3 (Go.Operand.tmp 127) (Go.Operand.tmp 129) 3, type := 4, pos := "ref.go:171", after := #[{ on := 1, ground := Go.Ground.data }, { on := 3, ground := Go.Ground.data }], guard := none }) (v := .bool true) rfl (by kernel_rfl) (by kernel_rfl) (by kernel_rfl) (fun _ _ _ h => h) (.inl ⟨by kernel_rfl, fun w9 h9 => by
                        clear hHeld h9
                        go_simp⟩) hHeld ?_
                      refine takeU (i := 5) (some 131) (.bool true) (by kernel_rfl) (by kernel_rfl) (by kernel_rfl) (by kernel_rfl) (by kernel_rfl) (fun _ => by kernel_rfl) (fun _ _ _ h => h) hHeld ?_
                      refine wpAnyH_take (i := 6) (oi := { dst := some 132, op := Go.Op.load 25 (Go.Operand.tmp 2), type := 25, pos := "ref.go:171", after := #[{ on := 5, ground := Go.Ground.guard }], guard := some (5, true) }) (v := .agg #[.int .i64 s.O, .int .i64 s.C, .slice s.aH s.H.length s.cH, .int .i64 s.M, .slice s.aS s.S.length s.cS, .slice s.aJ s.J.length s.cJ]) rfl (by kernel_rfl) (by kernel_rfl) (by kernel_rfl) (fun _ _ _ h => h) (.inl ⟨by kernel_rfl, fun w9 h9 => by
                        clear hHeld
                        have d0 := (h9.cell (p := ⟨w.heap.size, 0, none⟩) hzp).trans p0
                        have d1 := (h9.cell (p := ⟨w.heap.size, 1, none⟩) hzp).trans p1
                        have d2 := (h9.cell (p := ⟨w.heap.size, 2, none⟩) hzp).trans p2
                        have d3 := (h9.cell (p := ⟨w.heap.size, 3, none⟩) hzp).trans p3
                        have d4 := (h9.cell (p := ⟨w.heap.size, 4, none⟩) hzp).trans p4
                        have d5 := (h9.cell (p := ⟨w.heap.size, 5, none⟩) hzp).trans p5
                        clear h9
                        go_simp⟩) hHeld ?_
                      refine wpAnyH_take (i := 7) (oi := { dst := some 133, op := Go.Op.load 57 (Go.Operand.tmp 12), type := 57, pos := "ref.go:171", after := #[{ on := 5, ground := Go.Ground.guard }], guard := some (5, true) }) (v := .agg #[.int .i64 y.1, .int .i64 y.2.1, .int .i64 y.2.2.1, .int .i64 y.2.2.2]) rfl (by kernel_rfl) (by kernel_rfl) (by kernel_rfl) (fun _ _ _ h => h) (.inl ⟨by kernel_rfl, fun w9 h9 => by
                        clear hHeld
                        have d0 := (h9.cell (p := ⟨g1, 0, none⟩) hze).trans e0
                        have d1 := (h9.cell (p := ⟨g1, 1, none⟩) hze).trans e1
                        have d2 := (h9.cell (p := ⟨g1, 2, none⟩) hze).trans e2
                        have d3 := (h9.cell (p := ⟨g1, 3, none⟩) hze).trans e3
                        clear h9
                        go_simp⟩) hHeld ?_
                      refine takeU (i := 8) (some 134) (.slice (some ⟨pb, po, none⟩) P.length cp) (by kernel_rfl) (by kernel_rfl) (by kernel_rfl) (by kernel_rfl) (by kernel_rfl) (fun _ => by kernel_rfl) (fun _ _ _ h => h) hHeld ?_
                      refine takeU (i := 9) (some 135) (.slice (some ⟨lb, lo, none⟩) N lc) (by kernel_rfl) (by kernel_rfl) (by kernel_rfl) (by kernel_rfl) (by kernel_rfl) (fun _ => by kernel_rfl) (fun _ _ _ h => h) hHeld ?_
                      refine takeU (i := 10) (some 136) (.int .i64 n) (by kernel_rfl) (by kernel_rfl) (by kernel_rfl) (by kernel_rfl) (by kernel_rfl) (fun _ => by kernel_rfl) (fun _ _ _ h => h) hHeld ?_
                      refine wpAnyH_take (i := 11) (oi := { dst := some 137, op := Go.Op.indexAddr 36 (Go.Operand.tmp 135) (Go.Operand.tmp 136), type := 0, pos := "ref.go:171", after := #[{ on := 9, ground := Go.Ground.data }, { on := 10, ground := Go.Ground.data }, { on := 5, ground := Go.Ground.guard }], guard := some (5, true) }) (v := .pointer (some ⟨lb, lo + n * 2, none⟩)) rfl (by kernel_rfl) (by kernel_rfl) (by kernel_rfl) (fun _ _ _ h => h) (.inl ⟨by kernel_rfl, fun w9 h9 => by
                        clear hHeld h9
                        go_simp⟩) hHeld ?_
                      refine wpAnyH_take (i := 12) (oi := { dst := some 138, op := Go.Op.indexAddr 76 (Go.Operand.tmp 137) (Go.Operand.const (Go.Value.int Go.IntKind.i64 0)), type := 0, pos := "ref.go:171", after := #[{ on := 11, ground := Go.Ground.data }, { on := 5, ground := Go.Ground.guard }], guard := some (5, true) }) (v := .pointer (some ⟨lb, lo + n * 2, none⟩)) rfl (by kernel_rfl) (by kernel_rfl) (by kernel_rfl) (fun _ _ _ h => h) (.inl ⟨by kernel_rfl, fun w9 h9 => by
                        clear hHeld h9
                        go_simp⟩) hHeld ?_
                      refine wpAnyH_take (i := 13) (oi := { dst := some 139, op := Go.Op.load 3 (Go.Operand.tmp 138), type := 3, pos := "ref.go:171", after := #[{ on := 12, ground := Go.Ground.data }, { on := 5, ground := Go.Ground.guard }], guard := some (5, true) }) (v := .int .i64 a) rfl (by kernel_rfl) (by kernel_rfl) (by kernel_rfl) (fun _ _ _ h => h) (.inl ⟨by kernel_rfl, fun w9 h9 => by
                        clear hHeld
                        have d0 := (h9.cell (p := ⟨lb, lo + n * 2, none⟩) hzc).trans c0
                        clear h9
                        go_simp⟩) hHeld ?_
                      refine wpAnyH_take (i := 14) (oi := { dst := some 140, op := Go.Op.indexAddr 26 (Go.Operand.tmp 134) (Go.Operand.tmp 139), type := 0, pos := "ref.go:171", after := #[{ on := 8, ground := Go.Ground.data }, { on := 13, ground := Go.Ground.data }, { on := 5, ground := Go.Ground.guard }], guard := some (5, true) }) (v := .pointer (some ⟨pb, po + a, none⟩)) rfl (by kernel_rfl) (by kernel_rfl) (by kernel_rfl) (fun _ _ _ h => h) (.inl ⟨by kernel_rfl, fun w9 h9 => by
                        clear hHeld h9
                        go_simp⟩) hHeld ?_
                      refine wpAnyH_take (i := 15) (oi := { dst := some 141, op := Go.Op.load 22 (Go.Operand.tmp 140), type := 22, pos := "ref.go:171", after := #[{ on := 14, ground := Go.Ground.data }, { on := 5, ground := Go.Ground.guard }], guard := some (5, true) }) (v := .slice (some ⟨rb, ro, none⟩) (gr P a).length (cq a)) rfl (by kernel_rfl) (by kernel_rfl) (by kernel_rfl) (fun _ _ _ h => h) (.inl ⟨by kernel_rfl, fun w9 h9 => by
                        clear hHeld
                        have d0 := (h9.cell (p := ⟨pb, po + a, none⟩) hzg).trans gc
                        clear h9
                        go_simp⟩) hHeld ?_
                      refine takeU (i := 16) (some 142) (.slice (some ⟨lb, lo, none⟩) N lc) (by kernel_rfl) (by kernel_rfl) (by kernel_rfl) (by kernel_rfl) (by kernel_rfl) (fun _ => by kernel_rfl) (fun _ _ _ h => h) hHeld ?_
                      refine takeU (i := 17) (some 143) (.int .i64 n) (by kernel_rfl) (by kernel_rfl) (by kernel_rfl) (by kernel_rfl) (by kernel_rfl) (fun _ => by kernel_rfl) (fun _ _ _ h => h) hHeld ?_
                      refine wpAnyH_take (i := 18) (oi := { dst := some 144, op := Go.Op.indexAddr 36 (Go.Operand.tmp 142) (Go.Operand.tmp 143), type := 0, pos := "ref.go:171", after := #[{ on := 16, ground := Go.Ground.data }, { on := 17, ground := Go.Ground.data }, { on := 5, ground := Go.Ground.guard }], guard := some (5, true) }) (v := .pointer (some ⟨lb, lo + n * 2, none⟩)) rfl (by kernel_rfl) (by kernel_rfl) (by kernel_rfl) (fun _ _ _ h => h) (.inl ⟨by kernel_rfl, fun w9 h9 => by
                        clear hHeld h9
                        go_simp⟩) hHeld ?_
                      refine wpAnyH_take (i := 19) (oi := { dst := some 145, op := Go.Op.indexAddr 76 (Go.Operand.tmp 144) (Go.Operand.const (Go.Value.int Go.IntKind.i64 1)), type := 0, pos := "ref.go:171", after := #[{ on := 18, ground := Go.Ground.data }, { on := 5, ground := Go.Ground.guard }], guard := some (5, true) }) (v := .pointer (some ⟨lb, lo + n * 2 + 1, none⟩)) rfl (by kernel_rfl) (by kernel_rfl) (by kernel_rfl) (fun _ _ _ h => h) (.inl ⟨by kernel_rfl, fun w9 h9 => by
                        clear hHeld h9
                        go_simp⟩) hHeld ?_
                      refine wpAnyH_take (i := 20) (oi := { dst := some 146, op := Go.Op.load 3 (Go.Operand.tmp 145), type := 3, pos := "ref.go:171", after := #[{ on := 19, ground := Go.Ground.data }, { on := 5, ground := Go.Ground.guard }], guard := some (5, true) }) (v := .int .i64 b) rfl (by kernel_rfl) (by kernel_rfl) (by kernel_rfl) (fun _ _ _ h => h) (.inl ⟨by kernel_rfl, fun w9 h9 => by
                        clear hHeld
                        have d0 := (h9.cell (p := ⟨lb, lo + n * 2 + 1, none⟩) hzc).trans c1
                        clear h9
                        go_simp⟩) hHeld ?_
                      refine wpAnyH_take (i := 21) (oi := { dst := some 147, op := Go.Op.indexAddr 22 (Go.Operand.tmp 141) (Go.Operand.tmp 146), type := 0, pos := "ref.go:171", after := #[{ on := 15, ground := Go.Ground.data }, { on := 20, ground := Go.Ground.data }, { on := 5, ground := Go.Ground.guard }], guard := some (5, true) }) (v := .pointer (some ⟨rb, ro + b, none⟩)) rfl (by kernel_rfl) (by kernel_rfl) (by kernel_rfl) (fun _ _ _ h => h) (.inl ⟨by kernel_rfl, fun w9 h9 => by
                        clear hHeld h9
                        go_simp⟩) hHeld ?_
                      refine wpAnyH_take (i := 22) (oi := { dst := some 148, op := Go.Op.load 3 (Go.Operand.tmp 147), type := 3, pos := "ref.go:171", after := #[{ on := 21, ground := Go.Ground.data }, { on := 5, ground := Go.Ground.guard }], guard := some (5, true) }) (v := .int .i64 x) rfl (by kernel_rfl) (by kernel_rfl) (by kernel_rfl) (fun _ _ _ h => h) (.inl ⟨by kernel_rfl, fun w9 h9 => by
                        clear hHeld
                        have d0 := (h9.cell (p := ⟨rb, ro + b, none⟩) hzh).trans hc
                        clear h9
                        go_simp⟩) hHeld ?_
                      refine wpAnyH_take (i := 23) (oi := { dst := some 149, op := Go.Op.load 57 (Go.Operand.tmp 13), type := 57, pos := "ref.go:171", after := #[{ on := 5, ground := Go.Ground.guard }], guard := some (5, true) }) (v := .agg #[.int .i64 y2.1, .int .i64 y2.2.1, .int .i64 y2.2.2.1, .int .i64 y2.2.2.2]) rfl (by kernel_rfl) (by kernel_rfl) (by kernel_rfl) (fun _ _ _ h => h) (.inl ⟨by kernel_rfl, fun w9 h9 => by
                        clear hHeld
                        have d0 := (h9.cell (p := ⟨g2, 0, none⟩) hzf).trans f0
                        have d1 := (h9.cell (p := ⟨g2, 1, none⟩) hzf).trans f1
                        have d2 := (h9.cell (p := ⟨g2, 2, none⟩) hzf).trans f2
                        have d3 := (h9.cell (p := ⟨g2, 3, none⟩) hzf).trans f3
                        clear h9
                        go_simp⟩) hHeld ?_
                      refine takeU (i := 24) (some 150) (.slice (some ⟨pb, po, none⟩) P.length cp) (by kernel_rfl) (by kernel_rfl) (by kernel_rfl) (by kernel_rfl) (by kernel_rfl) (fun _ => by kernel_rfl) (fun _ _ _ h => h) hHeld ?_
                      refine takeU (i := 25) (some 151) (.slice (some ⟨lb, lo, none⟩) N lc) (by kernel_rfl) (by kernel_rfl) (by kernel_rfl) (by kernel_rfl) (by kernel_rfl) (fun _ => by kernel_rfl) (fun _ _ _ h => h) hHeld ?_
                      refine takeU (i := 26) (some 152) (.int .i64 k) (by kernel_rfl) (by kernel_rfl) (by kernel_rfl) (by kernel_rfl) (by kernel_rfl) (fun _ => by kernel_rfl) (fun _ _ _ h => h) hHeld ?_
                      refine wpAnyH_take (i := 27) (oi := { dst := some 153, op := Go.Op.indexAddr 36 (Go.Operand.tmp 151) (Go.Operand.tmp 152), type := 0, pos := "ref.go:171", after := #[{ on := 25, ground := Go.Ground.data }, { on := 26, ground := Go.Ground.data }, { on := 5, ground := Go.Ground.guard }], guard := some (5, true) }) (v := .pointer (some ⟨lb, lo + k * 2, none⟩)) rfl (by kernel_rfl) (by kernel_rfl) (by kernel_rfl) (fun _ _ _ h => h) (.inl ⟨by kernel_rfl, fun w9 h9 => by
                        clear hHeld h9
                        go_simp⟩) hHeld ?_
                      refine wpAnyH_take (i := 28) (oi := { dst := some 154, op := Go.Op.indexAddr 76 (Go.Operand.tmp 153) (Go.Operand.const (Go.Value.int Go.IntKind.i64 0)), type := 0, pos := "ref.go:171", after := #[{ on := 27, ground := Go.Ground.data }, { on := 5, ground := Go.Ground.guard }], guard := some (5, true) }) (v := .pointer (some ⟨lb, lo + k * 2, none⟩)) rfl (by kernel_rfl) (by kernel_rfl) (by kernel_rfl) (fun _ _ _ h => h) (.inl ⟨by kernel_rfl, fun w9 h9 => by
                        clear hHeld h9
                        go_simp⟩) hHeld ?_
                      refine wpAnyH_take (i := 29) (oi := { dst := some 155, op := Go.Op.load 3 (Go.Operand.tmp 154), type := 3, pos := "ref.go:171", after := #[{ on := 28, ground := Go.Ground.data }, { on := 5, ground := Go.Ground.guard }], guard := some (5, true) }) (v := .int .i64 a2) rfl (by kernel_rfl) (by kernel_rfl) (by kernel_rfl) (fun _ _ _ h => h) (.inl ⟨by kernel_rfl, fun w9 h9 => by
                        clear hHeld
                        have d0 := (h9.cell (p := ⟨lb, lo + k * 2, none⟩) hzd).trans d0
                        clear h9
                        go_simp⟩) hHeld ?_
                      refine wpAnyH_take (i := 30) (oi := { dst := some 156, op := Go.Op.indexAddr 26 (Go.Operand.tmp 150) (Go.Operand.tmp 155), type := 0, pos := "ref.go:171", after := #[{ on := 24, ground := Go.Ground.data }, { on := 29, ground := Go.Ground.data }, { on := 5, ground := Go.Ground.guard }], guard := some (5, true) }) (v := .pointer (some ⟨pb, po + a2, none⟩)) rfl (by kernel_rfl) (by kernel_rfl) (by kernel_rfl) (fun _ _ _ h => h) (.inl ⟨by kernel_rfl, fun w9 h9 => by
                        clear hHeld h9
                        go_simp⟩) hHeld ?_
                      refine wpAnyH_take (i := 31) (oi := { dst := some 157, op := Go.Op.load 22 (Go.Operand.tmp 156), type := 22, pos := "ref.go:171", after := #[{ on := 30, ground := Go.Ground.data }, { on := 5, ground := Go.Ground.guard }], guard := some (5, true) }) (v := .slice (some ⟨rc, rd, none⟩) (gr P a2).length (cq a2)) rfl (by kernel_rfl) (by kernel_rfl) (by kernel_rfl) (fun _ _ _ h => h) (.inl ⟨by kernel_rfl, fun w9 h9 => by
                        clear hHeld
                        have d0 := (h9.cell (p := ⟨pb, po + a2, none⟩) hzgd).trans gd
                        clear h9
                        go_simp⟩) hHeld ?_
                      refine takeU (i := 32) (some 158) (.slice (some ⟨lb, lo, none⟩) N lc) (by kernel_rfl) (by kernel_rfl) (by kernel_rfl) (by kernel_rfl) (by kernel_rfl) (fun _ => by kernel_rfl) (fun _ _ _ h => h) hHeld ?_
                      refine takeU (i := 33) (some 159) (.int .i64 k) (by kernel_rfl) (by kernel_rfl) (by kernel_rfl) (by kernel_rfl) (by kernel_rfl) (fun _ => by kernel_rfl) (fun _ _ _ h => h) hHeld ?_
                      refine wpAnyH_take (i := 34) (oi := { dst := some 160, op := Go.Op.indexAddr 36 (Go.Operand.tmp 158) (Go.Operand.tmp 159), type := 0, pos := "ref.go:171", after := #[{ on := 32, ground := Go.Ground.data }, { on := 33, ground := Go.Ground.data }, { on := 5, ground := Go.Ground.guard }], guard := some (5, true) }) (v := .pointer (some ⟨lb, lo + k * 2, none⟩)) rfl (by kernel_rfl) (by kernel_rfl) (by kernel_rfl) (fun _ _ _ h => h) (.inl ⟨by kernel_rfl, fun w9 h9 => by
                        clear hHeld h9
                        go_simp⟩) hHeld ?_
                      refine wpAnyH_take (i := 35) (oi := { dst := some 161, op := Go.Op.indexAddr 76 (Go.Operand.tmp 160) (Go.Operand.const (Go.Value.int Go.IntKind.i64 1)), type := 0, pos := "ref.go:171", after := #[{ on := 34, ground := Go.Ground.data }, { on := 5, ground := Go.Ground.guard }], guard := some (5, true) }) (v := .pointer (some ⟨lb, lo + k * 2 + 1, none⟩)) rfl (by kernel_rfl) (by kernel_rfl) (by kernel_rfl) (fun _ _ _ h => h) (.inl ⟨by kernel_rfl, fun w9 h9 => by
                        clear hHeld h9
                        go_simp⟩) hHeld ?_
                      refine wpAnyH_take (i := 36) (oi := { dst := some 162, op := Go.Op.load 3 (Go.Operand.tmp 161), type := 3, pos := "ref.go:171", after := #[{ on := 35, ground := Go.Ground.data }, { on := 5, ground := Go.Ground.guard }], guard := some (5, true) }) (v := .int .i64 b2) rfl (by kernel_rfl) (by kernel_rfl) (by kernel_rfl) (fun _ _ _ h => h) (.inl ⟨by kernel_rfl, fun w9 h9 => by
                        clear hHeld
                        have d0 := (h9.cell (p := ⟨lb, lo + k * 2 + 1, none⟩) hzd).trans d1
                        clear h9
                        go_simp⟩) hHeld ?_
                      refine wpAnyH_take (i := 37) (oi := { dst := some 163, op := Go.Op.indexAddr 22 (Go.Operand.tmp 157) (Go.Operand.tmp 162), type := 0, pos := "ref.go:171", after := #[{ on := 31, ground := Go.Ground.data }, { on := 36, ground := Go.Ground.data }, { on := 5, ground := Go.Ground.guard }], guard := some (5, true) }) (v := .pointer (some ⟨rc, rd + b2, none⟩)) rfl (by kernel_rfl) (by kernel_rfl) (by kernel_rfl) (fun _ _ _ h => h) (.inl ⟨by kernel_rfl, fun w9 h9 => by
                        clear hHeld h9
                        go_simp⟩) hHeld ?_
                      refine wpAnyH_take (i := 38) (oi := { dst := some 164, op := Go.Op.load 3 (Go.Operand.tmp 163), type := 3, pos := "ref.go:171", after := #[{ on := 37, ground := Go.Ground.data }, { on := 5, ground := Go.Ground.guard }], guard := some (5, true) }) (v := .int .i64 x2) rfl (by kernel_rfl) (by kernel_rfl) (by kernel_rfl) (fun _ _ _ h => h) (.inl ⟨by kernel_rfl, fun w9 h9 => by
                        clear hHeld
                        have d0 := (h9.cell (p := ⟨rc, rd + b2, none⟩) hzhd).trans hd
                        clear h9
                        go_simp⟩) hHeld ?_
                      try simp only [Act.put, List.setIfInBounds_toArray, List.set_cons_zero, List.set_cons_succ]
                      refine wpAnyH_ready (rs := [39]) (by kernel_rfl) (by simp) ?_
                      refine AllReadyH.cons (o := { dst := some 165, op := Go.Op.call { callee := Go.Callee.value (Go.Operand.func 51), args := #[Go.Operand.tmp 132, Go.Operand.tmp 133, Go.Operand.tmp 148, Go.Operand.tmp 149, Go.Operand.tmp 164], argTypes := #[25, 57, 3, 57, 3] }, type := 4, pos := "ref.go:171", after := #[{ on := 6, ground := Go.Ground.data }, { on := 7, ground := Go.Ground.data }, { on := 22, ground := Go.Ground.data }, { on := 23, ground := Go.Ground.data }, { on := 38, ground := Go.Ground.data }, { on := 5, ground := Go.Ground.chain }, { on := 5, ground := Go.Ground.guard }], guard := some (5, true) }) rfl (fun K hK => ?_) AllReadyH.nil
                      go_simp
                      go_at_call 51
                      refine (HAp.out _ (HbM.out.trans (hHeld.mono HbM.out.size))).mono ?_
                      rintro e w399 ⟨rfl, hb399⟩
                      refine hK.out _ _ (hHeld.trans (hb399.mono hHeld.size)) (fun hHeld => ?_)
                      clear hK K hb399
                      try simp only [Act.put, List.setIfInBounds_toArray, List.set_cons_zero, List.set_cons_succ]
                      refine wpAnyH_take (i := 40) (oi := { dst := some 166, op := Go.Op.unOp Go.UnOp.not 4 (Go.Operand.tmp 165), type := 4, pos := "ref.go:171", after := #[{ on := 39, ground := Go.Ground.data }, { on := 5, ground := Go.Ground.guard }], guard := some (5, true) }) (v := .bool (!bb)) rfl (by kernel_rfl) (by kernel_rfl) (by kernel_rfl) (fun _ _ _ h => h) (.inl ⟨by kernel_rfl, fun w9 h9 => by
                        clear hHeld h9
                        go_simp⟩) hHeld ?_
                      refine takeU (i := 41) (some 167) (.bool (!bb)) (by kernel_rfl) (by kernel_rfl) (by kernel_rfl) (by kernel_rfl) (by kernel_rfl) (fun _ => by kernel_rfl) (fun _ _ _ h => h) hHeld ?_
                      refine wpAnyH_done (by kernel_rfl) ?_ _
                      try simp only [Act.put, List.setIfInBounds_toArray, List.set_cons_zero, List.set_cons_succ]
                      replace c0 := cell_below c0 hHeld
                      replace c1 := cell_below c1 hHeld
                      have HbX := Lib.hid (HbM.out.trans (hHeld.mono HbM.out.size))
                      have HbY := Lib.hid (HbLM.out.trans (hHeld.mono HbLM.out.size))
                      clear p0 p1 p2 p3 p4 p5 d0 d1 gc hc gd hd e0 e1 e2 e3 f0 f1 f2 f3 hzp hzd hzg hzh hzgd hzhd hze hzf hHeld HbM HbLM HAp
                      cases bb with
                      | false =>
                        have HR := Lib.hid (HHk.out (by rw [HCk.out]; rfl))
                        clear HHk HQx HCk HHit HC2 HNx
                        go_wp2_with fail
                        go_quiet (fail)
                        go_wp2_with fail
                        go_ret3
                        rw [HR.out]
                        exact ⟨rfl, below_drewN HbX.out _⟩
                      | true =>
                        have HX := Lib.hid (HQx.out (by rw [HCk.out]; rfl))
                        clear HHk HQx HCk
                        go_wp2_with fail
                        go_roundw
                        case rel => first | exact ⟨k + 1, by omega, by omega, by go_num, HbY.out, HX⟩ | ((repeat apply Exists.intro); exact ⟨⟨k + 1, by omega, by omega, by go_num, HbY.out, HX⟩, rfl⟩)
                        case measure => first | (simp [intOf]; done) | (simp [intOf]; omega)
                    · have dm : (y.1 == y2.1) = false := by rw [beq_eq_false_iff_ne]; exact hm
                      have HX := Lib.hid (HQx.out (by rw [HC9.out, decide_eq_false hm, Bool.false_and]))
                      clear hm HC9 HAp HHk HQx
                      go_wp2_with fail
                      refine wp_region_held_drew (S := fun w' => Below wM.heap.size wM w') (by kernel_rfl) ((Below.refl _ _).drew) (fun hHeld => ?_)
                      refine takeU (i := 0) (some 126) (.pointer (some ⟨g1, 0, none⟩)) (by kernel_rfl) (by kernel_rfl) (by kernel_rfl) (by kernel_rfl) (by kernel_rfl) (fun _ => by kernel_rfl) (fun _ _ _ h => h) hHeld ?_
                      refine wpAnyH_take (i := 1) (oi := { dst := some 127, op := Go.Op.load 3 (Go.Operand.tmp 126), type := 3, pos := "ref.go:171", after := #[{ on := 0, ground := Go.Ground.data }], guard := none }) (v := .int .i64 y.1) rfl (by kernel_rfl) (by kernel_rfl) (by kernel_rfl) (fun _ _ _ h => h) (.inl ⟨by kernel_rfl, fun w9 h9 => by
                        clear hHeld
                        have d0 := (h9.cell (p := ⟨g1, 0, none⟩) hze).trans e0
                        clear h9
                        go_simp⟩) hHeld ?_
                      refine takeU (i := 2) (some 128) (.pointer (some ⟨g2, 0, none⟩)) (by kernel_rfl) (by kernel_rfl) (by kernel_rfl) (by kernel_rfl) (by kernel_rfl) (fun _ => by kernel_rfl) (fun _ _ _ h => h) hHeld ?_
                      refine wpAnyH_take (i := 3) (oi := { dst := some 129, op := Go.Op.load 3 (Go.Operand.tmp 128), type := 3, pos := "ref.go:171", after := #[{ on := 2, ground := Go.Ground.data }], guard := none }) (v := .int .i64 y2.1) rfl (by kernel_rfl) (by kernel_rfl) (by kernel_rfl) (fun _ _ _ h => h) (.inl ⟨by kernel_rfl, fun w9 h9 => by
                        clear hHeld
                        have d0 := (h9.cell (p := ⟨g2, 0, none⟩) hzf).trans f0
                        clear h9
                        go_simp⟩) hHeld ?_
                      refine wpAnyH_take (i := 4) (oi := { dst := some 130, op := Go.Op.binOp Go.BinOp.eql 3 (Go.Operand.tmp 127) (Go.Operand.tmp 129) 3, type := 4, pos := "ref.go:171", after := #[{ on := 1, ground := Go.Ground.data }, { on := 3, ground := Go.Ground.data }], guard := none }) (v := .bool false) rfl (by kernel_rfl) (by kernel_rfl) (by kernel_rfl) (fun _ _ _ h => h) (.inl ⟨by kernel_rfl, fun w9 h9 => by
                        clear hHeld h9
                        go_simp⟩) hHeld ?_
                      refine takeU (i := 5) (some 131) (.bool false) (by kernel_rfl) (by kernel_rfl) (by kernel_rfl) (by kernel_rfl) (by kernel_rfl) (fun _ => by kernel_rfl) (fun _ _ _ h => h) hHeld ?_
                      refine skipU (i := 6) (some 132) (by kernel_rfl) (by kernel_rfl) (by kernel_rfl) (by kernel_rfl) (by kernel_rfl) (fun _ _ _ h => h) hHeld ?_
                      refine skipU (i := 7) (some 133) (by kernel_rfl) (by kernel_rfl) (by kernel_rfl) (by kernel_rfl) (by kernel_rfl) (fun _ _ _ h => h) hHeld ?_
                      refine skipU (i := 8) (some 134) (by kernel_rfl) (by kernel_rfl) (by kernel_rfl) (by kernel_rfl) (by kernel_rfl) (fun _ _ _ h => h) hHeld ?_
                      refine skipU (i := 9) (some 135) (by kernel_rfl) (by kernel_rfl) (by kernel_rfl) (by kernel_rfl) (by kernel_rfl) (fun _ _ _ h => h) hHeld ?_
                      refine skipU (i := 10) (some 136) (by kernel_rfl) (by kernel_rfl) (by kernel_rfl) (by kernel_rfl) (by kernel_rfl) (fun _ _ _ h => h) hHeld ?_
                      refine skipU (i := 11) (some 137) (by kernel_rfl) (by kernel_rfl) (by kernel_rfl) (by kernel_rfl) (by kernel_rfl) (fun _ _ _ h => h) hHeld ?_
                      refine skipU (i := 12) (some 138) (by kernel_rfl) (by kernel_rfl) (by kernel_rfl) (by kernel_rfl) (by kernel_rfl) (fun _ _ _ h => h) hHeld ?_
                      refine skipU (i := 13) (some 139) (by kernel_rfl) (by kernel_rfl) (by kernel_rfl) (by kernel_rfl) (by kernel_rfl) (fun _ _ _ h => h) hHeld ?_
                      refine skipU (i := 14) (some 140) (by kernel_rfl) (by kernel_rfl) (by kernel_rfl) (by kernel_rfl) (by kernel_rfl) (fun _ _ _ h => h) hHeld ?_
                      refine skipU (i := 15) (some 141) (by kernel_rfl) (by kernel_rfl) (by kernel_rfl) (by kernel_rfl) (by kernel_rfl) (fun _ _ _ h => h) hHeld ?_
                      refine skipU (i := 16) (some 142) (by kernel_rfl) (by kernel_rfl) (by kernel_rfl) (by kernel_rfl) (by kernel_rfl) (fun _ _ _ h => h) hHeld ?_
                      refine skipU (i := 17) (some 143) (by kernel_rfl) (by kernel_rfl) (by kernel_rfl) (by kernel_rfl) (by kernel_rfl) (fun _ _ _ h => h) hHeld ?_
                      refine skipU (i := 18) (some 144) (by kernel_rfl) (by kernel_rfl) (by kernel_rfl) (by kernel_rfl) (by kernel_rfl) (fun _ _ _ h => h) hHeld ?_
                      refine skipU (i := 19) (some 145) (by kernel_rfl) (by kernel_rfl) (by kernel_rfl) (by kernel_rfl) (by kernel_rfl) (fun _ _ _ h => h) hHeld ?_
                      refine skipU (i := 20) (some 146) (by kernel_rfl) (by kernel_rfl) (by kernel_rfl) (by kernel_rfl) (by kernel_rfl) (fun _ _ _ h => h) hHeld ?_
                      refine skipU (i := 21) (some 147) (by kernel_rfl) (by kernel_rfl) (by kernel_rfl) (by kernel_rfl) (by kernel_rfl) (fun _ _ _ h => h) hHeld ?_
                      refine skipU (i := 22) (some 148) (by kernel_rfl) (by kernel_rfl) (by kernel_rfl) (by kernel_rfl) (by kernel_rfl) (fun _ _ _ h => h) hHeld ?_
                      refine skipU (i := 23) (some 149) (by kernel_rfl) (by kernel_rfl) (by kernel_rfl) (by kernel_rfl) (by kernel_rfl) (fun _ _ _ h => h) hHeld ?_
                      refine skipU (i := 24) (some 150) (by kernel_rfl) (by kernel_rfl) (by kernel_rfl) (by kernel_rfl) (by kernel_rfl) (fun _ _ _ h => h) hHeld ?_
                      refine skipU (i := 25) (some 151) (by kernel_rfl) (by kernel_rfl) (by kernel_rfl) (by kernel_rfl) (by kernel_rfl) (fun _ _ _ h => h) hHeld ?_
                      refine skipU (i := 26) (some 152) (by kernel_rfl) (by kernel_rfl) (by kernel_rfl) (by kernel_rfl) (by kernel_rfl) (fun _ _ _ h => h) hHeld ?_
                      refine skipU (i := 27) (some 153) (by kernel_rfl) (by kernel_rfl) (by kernel_rfl) (by kernel_rfl) (by kernel_rfl) (fun _ _ _ h => h) hHeld ?_
                      refine skipU (i := 28) (some 154) (by kernel_rfl) (by kernel_rfl) (by kernel_rfl) (by kernel_rfl) (by kernel_rfl) (fun _ _ _ h => h) hHeld ?_
                      refine skipU (i := 29) (some 155) (by kernel_rfl) (by kernel_rfl) (by kernel_rfl) (by kernel_rfl) (by kernel_rfl) (fun _ _ _ h => h) hHeld ?_
                      refine skipU (i := 30) (some 156) (by kernel_rfl) (by kernel_rfl) (by kernel_rfl) (by kernel_rfl) (by kernel_rfl) (fun _ _ _ h => h) hHeld ?_
                      refine skipU (i := 31) (some 157) (by kernel_rfl) (by kernel_rfl) (by kernel_rfl) (by kernel_rfl) (by kernel_rfl) (fun _ _ _ h => h) hHeld ?_
                      refine skipU (i := 32) (some 158) (by kernel_rfl) (by kernel_rfl) (by kernel_rfl) (by kernel_rfl) (by kernel_rfl) (fun _ _ _ h => h) hHeld ?_
                      refine skipU (i := 33) (some 159) (by kernel_rfl) (by kernel_rfl) (by kernel_rfl) (by kernel_rfl) (by kernel_rfl) (fun _ _ _ h => h) hHeld ?_
                      refine skipU (i := 34) (some 160) (by kernel_rfl) (by kernel_rfl) (by kernel_rfl) (by kernel_rfl) (by kernel_rfl) (fun _ _ _ h => h) hHeld ?_
                      refine skipU (i := 35) (some 161) (by kernel_rfl) (by kernel_rfl) (by kernel_rfl) (by kernel_rfl) (by kernel_rfl) (fun _ _ _ h => h) hHeld ?_
                      refine skipU (i := 36) (some 162) (by kernel_rfl) (by kernel_rfl) (by kernel_rfl) (by kernel_rfl) (by kernel_rfl) (fun _ _ _ h => h) hHeld ?_
                      refine skipU (i := 37) (some 163) (by kernel_rfl) (by kernel_rfl) (by kernel_rfl) (by kernel_rfl) (by kernel_rfl) (fun _ _ _ h => h) hHeld ?_
                      refine skipU (i := 38) (some 164) (by kernel_rfl) (by kernel_rfl) (by kernel_rfl) (by kernel_rfl) (by kernel_rfl) (fun _ _ _ h => h) hHeld ?_
                      refine skipU (i := 39) (some 165) (by kernel_rfl) (by kernel_rfl) (by kernel_rfl) (by kernel_rfl) (by kernel_rfl) (fun _ _ _ h => h) hHeld ?_
                      refine skipU (i := 40) (some 166) (by kernel_rfl) (by kernel_rfl) (by kernel_rfl) (by kernel_rfl) (by kernel_rfl) (fun _ _ _ h => h) hHeld ?_
                      refine takeU (i := 41) (some 167) (.bool false) (by kernel_rfl) (by kernel_rfl) (by kernel_rfl) (by kernel_rfl) (by kernel_rfl) (fun _ => by kernel_rfl) (fun _ _ _ h => h) hHeld ?_
                      refine wpAnyH_done (by kernel_rfl) ?_ _
                      try simp only [Act.put, List.setIfInBounds_toArray, List.set_cons_zero, List.set_cons_succ]
                      have HbY := Lib.hid (HbLM.out.trans (hHeld.mono HbLM.out.size))
                      clear p0 p1 p2 p3 p4 p5 c0 c1 d0 d1 gc hc gd hd e0 e1 e2 e3 f0 f1 f2 f3 hzp hzc hzd hzg hzh hzgd hzhd hze hzf hHeld HbM HbLM
                      go_wp2_with fail
                      go_roundw
                      case rel => first | exact ⟨k + 1, by omega, by omega, by go_num, HbY.out, HX⟩ | ((repeat apply Exists.intro); exact ⟨⟨k + 1, by omega, by omega, by go_num, HbY.out, HX⟩, rfl⟩)
                      case measure => first | (simp [intOf]; done) | (simp [intOf]; omega)
                · obtain rfl : N = k := by omega
                  have HX := Lib.hid (HNx.out (by
                    rw [HC2.out]
                    refine anyK_false _ fun q hq => ?_
                    exact HQ.out (n + 1 + q) (by omega) (by omega)))
                  clear HQ HNx HHit HC2
                  go_wp2_with fail
                  go_roundw
                  case rel => first | exact ⟨n + 1, by omega, by go_num, hbr, HX⟩ | ((repeat apply Exists.intro); exact ⟨⟨n + 1, by omega, by go_num, hbr, HX⟩, rfl⟩)
                  case measure => first | (simp [intOf]; done) | (simp [intOf]; omega)
            · obtain rfl : N = n := by omega
              have HR := Lib.hid (HNO.out (fun k hk => by
                rcases k with _ | _ | _ | k
                · exact HF2.out 0 (by omega)
                · exact HF2.out 1 (by omega)
                · exact HN.out
                · omega))
              clear HN HF2
              go_wp2_with fail
              go_ret3
              rw [HR.out]
              exact ⟨rfl, HBL.out.trans (hbr.mono HBL.out.size)⟩
end Go.Proofs.Ytgphkfonjfdifaa
