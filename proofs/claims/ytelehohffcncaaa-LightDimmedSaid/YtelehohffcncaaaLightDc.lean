/-
  The walk of the reference's Dimmed where it returns a table. By an AI agent.
-/
import Derived.Test.YtelehohffcncaaaLightDb
import Derived.Test.YtelehohffcncaaaLightH
namespace Go.Proofs.Ytelehohffcncaaa
set_option linter.unusedVariables false
set_option linter.unusedSimpArgs false
open Go.RowKit

/-- append of one int to a row of one's own. -/
theorem app_oneD {w : World} {ops : Array Oper} {rest : List Oper} {o : Oper} {a : Act} {Q : Exit → Act → World → Prop} (hgd : o.guard = none) (s x : Operand)
    (ho : o.op = .call { callee := .builtin .append, args := #[s, x], argTypes := #[22, 22] })
    (base k : Nat) (v : Value) (xs : List Value) (hs : a.eval s = v) (h : w.ownsRow base 3 1 v k xs) (y : Int) (hk : k ≤ 100000) (hbase : base ≤ w.heap.size)
    (B : Nat) (hx : a.eval x = .slice (some ⟨B, 0, none⟩) 1 1) (hc : w.cell? ⟨B, 0, none⟩ = some (.int .i64 y))
    (hn : ∀ g c' w', w'.ownsRow base 3 1 (.slice (some ⟨g, 0, none⟩) (k + 1) c') (k + 1) (xs ++ [.int .i64 y]) → Below base w w' → wpList Try.prog ops Q rest (a.put o.dst (.slice (some ⟨g, 0, none⟩) (k + 1) c')) w') : wpList Try.prog ops Q (o :: rest) a w := by
  obtain ⟨i0, hi, hz0, hz1, hz2⟩ := info_partsD infoIntD
  refine wpList_append_lies w hgd s x 22 ho base 3 i0 _ 1 8 undRowD hi hz0 hz1 hz2 rfl (by decide) v k _ hs h ⟨B, 0, none⟩ 1 1 [.int .i64 y] hx rfl ?_ ?_ (by decide) (by unfold maxLen; omega) (by omega) hbase _ rfl ?_
  · intro j u hj
    match j, hj with
    | 0, hj => simp at hj; subst hj; exact hc
  · intro u hu; simp at hu; subst hu; rfl
  · intro g c' w' h1 h2 h3 h4
    exact hn g c' w' h1 ((Below.refl base w).grown h2 hbase (fun k hk => (World.ownsRow.lt h k hk).1))
theorem clD_take (f : Int → Int) (l : List Int) {j : Nat} (hj : j < l.length) : clD ((agL f l).take j) ++ [.int .i64 (f (gi l j))] = clD ((agL f l).take (j + 1)) := by
  have hl : j < (agL f l).length := by rw [agL_len]; exact hj
  rw [List.take_succ_eq_append_getElem hl]
  unfold clD
  rw [List.map_append]
  have h := gi_agL f l hj
  unfold gi at h
  rw [List.getD_eq_getElem?_getD, List.getElem?_eq_getElem hl] at h
  simp at h
  simp [h, gi]
set_option maxRecDepth 100000 in
set_option maxHeartbeats 4000000 in
theorem refDimmed_good (ao ae ar : Option Addr) (o e : List Int) (r : List (List Int)) (co ce cr : Nat) (keep : Int) (n : Nat) (w : World) (hT : TableS w ao ae ar o e r) (hK : TableOk o e r) (k0 : 0 ≤ keep) (k1 : keep ≤ 1000) (hn : n ≤ 300) :
    Calls Try.prog 8 #[.agg #[.slice ao o.length co, .slice ae e.length ce, .slice ar r.length cr], .int .i64 keep, .int .i64 n] w (DimE w o e (agR (fun x => agV x keep n) r)) := by
  obtain ⟨f, hf⟩ : ∃ f : Int → Int, f = fun x => agV x keep n := ⟨_, rfl⟩
  rw [← hf]
  have HAf := Lib.hid (fun (x : Int) (W : World) (h0 : 0 ≤ x) (h1 : x ≤ 100000) => (show Calls Try.prog 22 #[.int .i64 x, .int .i64 keep, .int .i64 n] W fun e w' => e = .returned (.tuple #[.int .i64 (f x), .int .i64 0]) ∧ W = w' by
    have hb : agedB x keep n = true := (agedB_iff x keep n).2 ⟨⟨h0, h1⟩, ⟨k0, k1⟩, by omega, by omega⟩
    have := refAged_any x keep n W
    rw [show agedV x keep n = agV x keep n by unfold agedV; rw [if_pos hb, Int.toNat_natCast], show agedE x keep n = 0 by unfold agedE; rw [if_pos hb]] at this
    rw [hf]; exact this))
  have Hf64 := Lib.hid (fun (x : Int) (h0 : 0 ≤ x) (h1 : x ≤ 100000) => (show I64 (f x) by rw [hf]; exact ag_bd h0 h1 k0 k1))
  clear hf
  have HV := Lib.hid (fun (W : World) (hW : Below w.heap.size w W) => refValidTable_any ao ae ar o e r co ce cr W (hT.below hW))
  have o2 := hK.1.1
  have o6 := hK.1.2.1
  have e2 := hK.2.1.1
  have e6 := hK.2.1.2.1
  obtain ⟨ob, oo, rfl, -, hN1⟩ := ints_at hT.1 (by omega)
  obtain ⟨eb, eo, rfl, -, hN2⟩ := ints_at hT.2.1 (by omega)
  have HC1 := Lib.hid (fun (W : World) (hW : Below w.heap.size w W) j u (hu : (clD o)[j]? = some u) => (hW.cell (World.block_lt_of_cell? w _ (hN1 j u hu))).trans (hN1 j u hu))
  have HC2 := Lib.hid (fun (W : World) (hW : Below w.heap.size w W) j u (hu : (clD e)[j]? = some u) => (hW.cell (World.block_lt_of_cell? w _ (hN2 j u hu))).trans (hN2 j u hu))
  clear hN1 hN2
  have hTB := Lib.hid (tableB_t hK)
  have hrl : r.length = o.length := hK.2.2.1
  have HRow : Hid (∀ k, k < r.length → (gr r k).length = e.length ∧ ∀ j, j < e.length → 0 ≤ gi (gr r k) j ∧ gi (gr r k) j ≤ 100000) := Lib.hid fun k hk => ⟨(hK.2.2.2 k hk).1, fun j hj => tb_bd hK (by omega) hj⟩
  obtain ⟨-, -, hrmax, rb, ro, ad, cp, har, hrr⟩ := hT
  obtain rfl := har (List.ne_nil_of_length_pos (by omega))
  have HR := Lib.hid hrr
  have HSo := Lib.hid hK.1
  have HSe := Lib.hid hK.2.1
  have hr6 : r.length ≤ 6 := by omega
  have hr2 : 2 ≤ r.length := by omega
  have hzr := block_lt (hrr 0 (by omega)).1
  clear har hrr hK hrl
  have HA0 := Lib.hid (fun W => HAf.out 0 W (by omega) (by omega))
  generalize f 0 = f0 at HA0
  go_enter Try.func8, Try.ntmps8
  go_wp2_with fail
  obtain ⟨wB, hwB⟩ : ∃ wB, (w.alloc (.cells #[.slice (some ⟨ob, oo, none⟩) o.length co, .slice (some ⟨eb, eo, none⟩) e.length ce, .slice (some ⟨rb, ro, none⟩) r.length cr] 25)).alloc (.cells #[.slice none 0 0, .slice none 0 0, .slice none 0 0] 25) = wB := ⟨_, rfl⟩
  have hb : Below w.heap.size w wB := by rw [← hwB]; exact ((Below.refl _ _).alloc (Nat.le_refl _) _).alloc (by simp) _
  have hsz : wB.heap.size = w.heap.size + 2 := by rw [← hwB]; simp
  have p0 : wB.cell? ⟨w.heap.size, 0, none⟩ = some (.slice (some ⟨ob, oo, none⟩) o.length co) := by rw [← hwB]; simp [go_sem]
  have p1 : wB.cell? ⟨w.heap.size, 1, none⟩ = some (.slice (some ⟨eb, eo, none⟩) e.length ce) := by rw [← hwB]; simp [go_sem]
  have p2 : wB.cell? ⟨w.heap.size, 2, none⟩ = some (.slice (some ⟨rb, ro, none⟩) r.length cr) := by rw [← hwB]; simp [go_sem]
  have t0 : wB.cell? ⟨w.heap.size + 1, 0, none⟩ = some (.slice none 0 0) := by rw [← hwB]; simp [go_sem]
  have t1 : wB.cell? ⟨w.heap.size + 1, 1, none⟩ = some (.slice none 0 0) := by rw [← hwB]; simp [go_sem]
  have t2 : wB.cell? ⟨w.heap.size + 1, 2, none⟩ = some (.slice none 0 0) := by rw [← hwB]; simp [go_sem]
  have t3 : wB.frozen? ⟨w.heap.size + 1, 0, none⟩ = false ∧ wB.frozen? ⟨w.heap.size + 1, 1, none⟩ = false ∧ wB.frozen? ⟨w.heap.size + 1, 2, none⟩ = false := by rw [← hwB]; simp [go_sem]
  have HT3 := Lib.hid t3
  clear t3
  rw [hwB]
  clear hwB
  have HSZ := Lib.hid hsz
  have hs2 : w.heap.size + 1 < wB.heap.size := by omega
  clear hsz
  refine (HV.out _ hb).mono ?_
  rintro E w1 ⟨rfl, hb1⟩
  rw [hTB.out]
  replace p0 := cell_below p0 hb1
  replace p1 := cell_below p1 hb1
  replace p2 := cell_below p2 hb1
  have HT := Lib.hid (And.intro t0 (And.intro t1 t2))
  clear t0 t1 t2 HV
  have hw1 : Below w.heap.size w w1 := hb.trans (hb1.mono hb.size)
  go_wp2_with (go_at_call 22; refine (HA0.out _).mono ?_; rintro E wA ⟨rfl, rfl⟩)
  have hsw1 := hb1.size
  have hz0 := block_lt p0
  go_cut [10] (fun v wx => ∃ D g1 c1 g2 c2 : Nat, v = .pointer (some ⟨D, 0, none⟩) ∧ w1.heap.size ≤ D ∧ w1.heap.size ≤ g1 ∧ w1.heap.size ≤ g2 ∧ Hid (BoxD wx D g1 c1 g2 c2 o e (.slice none 0 0)) ∧ Below w1.heap.size w1 wx)
  case first =>
    have hB := Below.refl w1.heap.size w1
    have PP0 := Lib.hid p0
    have hne0 : w1.heap.size ≠ w.heap.size := by omega
    have hne01 : w1.heap.size + 1 ≠ w.heap.size := by omega
    have hne02 : w1.heap.size + 2 ≠ w.heap.size := by omega
    have PP1 := Lib.hid p1
    have hL1 := True.intro
    have hL2 := True.intro
    clear HRow HR HSo HSe HT HT3 HAf Hf64 p2 HA0
    go_region_held3 (fun w' => w'.cell? ⟨w.heap.size, 0, none⟩ = some (.slice (some ⟨ob, oo, none⟩) o.length co) ∧ w'.cell? ⟨w.heap.size, 1, none⟩ = some (.slice (some ⟨eb, eo, none⟩) e.length ce)) (first | exact ⟨(Below.cell (p := ⟨w.heap.size, 0, none⟩) (show Below w1.heap.size w1 _ by repeat (first | exact hB | with_reducible apply Below.drew | (with_reducible refine Below.alloc ?_ (by first | exact hB.size | (simp; done) | (have := hB.size; simp; omega)) _) | (with_reducible refine Below.setCell ?_ (by first | omega | (simp; done) | (simp; omega)) _))) hz0).trans PP0.out, (Below.cell (p := ⟨w.heap.size, 1, none⟩) (show Below w1.heap.size w1 _ by repeat (first | exact hB | with_reducible apply Below.drew | (with_reducible refine Below.alloc ?_ (by first | exact hB.size | (simp; done) | (have := hB.size; simp; omega)) _) | (with_reducible refine Below.setCell ?_ (by first | omega | (simp; done) | (simp; omega)) _))) hz0).trans PP1.out⟩ | go_keep)
      (first
        | (refine step0 (by rfl) _ _ (by rfl) _ (by rfl) ⟨ob, oo, none⟩ o co (by rfl) (HC1.out _ (hw1.trans ((show Below w1.heap.size w1 _ by repeat (first | exact hB | with_reducible apply Below.drew | (with_reducible refine Below.alloc ?_ (by first | exact hB.size | (simp; done) | (have := hB.size; simp; omega)) _) | (with_reducible refine Below.setCell ?_ (by first | omega | (simp; done) | (simp; omega)) _))).mono hw1.size))) (by omega) (by omega) ?_
           intro g1 c1 w9 hgq1 hg1 hL1 hle1 hb9
           have hlt1 : w1.heap.size < w9.heap.size := Nat.lt_of_le_of_lt (Nat.le_trans (show Below w1.heap.size w1 _ by repeat (first | exact hB | with_reducible apply Below.drew | (with_reducible refine Below.alloc ?_ (by first | exact hB.size | (simp; done) | (have := hB.size; simp; omega)) _) | (with_reducible refine Below.setCell ?_ (by first | omega | (simp; done) | (simp; omega)) _))).size (Nat.le_of_eq hgq1.symm)) hg1
           first
             | have hL2 : Lie w9 g2 _ := Lie.below (by first | exact hL2 | exact (hL2).alloc _ | exact ((hL2).alloc _).alloc _ | exact (((hL2).alloc _).alloc _).alloc _ | exact (hL2).drew | exact ((hL2).alloc _).drew | exact (((hL2).alloc _).alloc _).drew | exact ((((hL2).alloc _).alloc _).alloc _).drew) hb9
             | skip
           replace hB : Below w1.heap.size w1 w9 := (show Below w1.heap.size w1 _ by repeat (first | exact hB | with_reducible apply Below.drew | (with_reducible refine Below.alloc ?_ (by first | exact hB.size | (simp; done) | (have := hB.size; simp; omega)) _) | (with_reducible refine Below.setCell ?_ (by first | omega | (simp; done) | (simp; omega)) _))).trans (hb9.mono (by first | exact hB.size | (simp; done) | (have := hB.size; simp; done) | (have := hB.size; simp; omega)))
           have hsz1 := hb9.size
           obtain ⟨hcC1, hfC1⟩ := bcell hb9
           have hlo1 := Nat.le_of_eq hgq1.symm
           clear hgq1
           (try simp at hsz1); (try simp at hlo1)
           first
             | (have hla1 : w1.heap.size + 1 < w9.heap.size := by omega)
             | skip
           first
             | (have hlb1 : w1.heap.size + 2 < w9.heap.size := by omega)
             | skip
           have hne1 : w9.heap.size ≠ w.heap.size := by have := hB.size; omega
           have hnf1 : w9.heap.size + 1 ≠ w.heap.size := by have := hB.size; omega
           have p0 := (hB.cell (p := ⟨w.heap.size, 0, none⟩) hz0).trans PP0.out
           have p1 := (hB.cell (p := ⟨w.heap.size, 1, none⟩) hz0).trans PP1.out)
        | (refine step0 (by rfl) _ _ (by rfl) _ (by rfl) ⟨eb, eo, none⟩ e ce (by rfl) (HC2.out _ (hw1.trans ((show Below w1.heap.size w1 _ by repeat (first | exact hB | with_reducible apply Below.drew | (with_reducible refine Below.alloc ?_ (by first | exact hB.size | (simp; done) | (have := hB.size; simp; omega)) _) | (with_reducible refine Below.setCell ?_ (by first | omega | (simp; done) | (simp; omega)) _))).mono hw1.size))) (by omega) (by omega) ?_
           intro g2 c2 w9 hgq2 hg2 hL2 hle2 hb9
           have hlt2 : w1.heap.size < w9.heap.size := Nat.lt_of_le_of_lt (Nat.le_trans (show Below w1.heap.size w1 _ by repeat (first | exact hB | with_reducible apply Below.drew | (with_reducible refine Below.alloc ?_ (by first | exact hB.size | (simp; done) | (have := hB.size; simp; omega)) _) | (with_reducible refine Below.setCell ?_ (by first | omega | (simp; done) | (simp; omega)) _))).size (Nat.le_of_eq hgq2.symm)) hg2
           first
             | have hL1 : Lie w9 g1 _ := Lie.below (by first | exact hL1 | exact (hL1).alloc _ | exact ((hL1).alloc _).alloc _ | exact (((hL1).alloc _).alloc _).alloc _ | exact (hL1).drew | exact ((hL1).alloc _).drew | exact (((hL1).alloc _).alloc _).drew | exact ((((hL1).alloc _).alloc _).alloc _).drew) hb9
             | skip
           replace hB : Below w1.heap.size w1 w9 := (show Below w1.heap.size w1 _ by repeat (first | exact hB | with_reducible apply Below.drew | (with_reducible refine Below.alloc ?_ (by first | exact hB.size | (simp; done) | (have := hB.size; simp; omega)) _) | (with_reducible refine Below.setCell ?_ (by first | omega | (simp; done) | (simp; omega)) _))).trans (hb9.mono (by first | exact hB.size | (simp; done) | (have := hB.size; simp; done) | (have := hB.size; simp; omega)))
           have hsz2 := hb9.size
           obtain ⟨hcC2, hfC2⟩ := bcell hb9
           have hlo2 := Nat.le_of_eq hgq2.symm
           clear hgq2
           (try simp at hsz2); (try simp at hlo2)
           first
             | (have hla2 : w1.heap.size + 1 < w9.heap.size := by omega)
             | skip
           first
             | (have hlb2 : w1.heap.size + 2 < w9.heap.size := by omega)
             | skip
           have hne2 : w9.heap.size ≠ w.heap.size := by have := hB.size; omega
           have hnf2 : w9.heap.size + 1 ≠ w.heap.size := by have := hB.size; omega
           have p0 := (hB.cell (p := ⟨w.heap.size, 0, none⟩) hz0).trans PP0.out
           have p1 := (hB.cell (p := ⟨w.heap.size, 1, none⟩) hz0).trans PP1.out))
    all_goals
      go_wp2_with fail
      go_meet
      have hBs := hB.size
      refine ⟨_, g1, c1, g2, c2, rfl, (by first | exact Nat.le_refl _ | exact hBs | omega), (by omega), (by omega), ?_, ?_⟩
      · refine Lib.hid ?_
        first
          | with_reducible exact boxD_of2 hL1 hL2 (by omega) (by omega)
          | (with_reducible refine boxD_of1 hL1 hL2 ?_ ?_ ?_ ?_ ?_ ?_
             · omega
             · omega
             · omega
             · omega
             · simp [go_sem, *]
             · simp [go_sem, *])
      · first
          | with_reducible exact hB.alloc hB.size _
          | (with_reducible refine below3D hB ?_
             omega)
  case rest =>
    obtain ⟨D, g1, c1, g2, c2, rfl, hD, hG1, hG2, HX, hbx⟩ := hcut
    obtain ⟨w6, rfl⟩ : ∃ w6 : World, w6 = wc := ⟨_, rfl⟩
    replace p0 := cell_below p0 hbx
    replace p1 := cell_below p1 hbx
    replace p2 := cell_below p2 hbx
    have hw6 : Below w.heap.size w w6 := hw1.trans (hbx.mono hw1.size)
    have hsw6 := hbx.size
    have HB6 := Lib.hid (hb1.trans (hbx.mono hb1.size))
    have HD6 := Lib.hid (block_lt HX.out.q2)
    have PP2 := Lib.hid p2
    have hz2 := block_lt p2
    clear hbx HC1 HC2 p0 p1 p2 HA0
    go_wp2_with fail
    go_loopw [11] (fun i9 wr => ∃ k : Nat, k ≤ r.length ∧ i9 = .int .i64 k ∧ Below w1.heap.size w6 wr ∧ ∃ v, Hid (BoxD wr D g1 c1 g2 c2 o e v) ∧ Hid (Rws w6.heap.size wr v k e.length (fun i => agL f (gr r i)))) (fun i9 _ => r.length - (intOf i9).toNat)
    case atStart => exact ⟨0, Nat.zero_le _, rfl, Below.refl _ _, _, HX, Lib.hid (Rws.nil _ _ _ _)⟩
    case round =>
      obtain ⟨k, hk, rfl, hbk, v, HXk, HRk⟩ := hrel
      obtain ⟨wo, rfl⟩ : ∃ wo : World, wo = wr := ⟨_, rfl⟩
      have hsk := hbk.size
      have p2 := (hbk.cell (p := ⟨w.heap.size, 2, none⟩) hz0).trans PP2.out
      have PO2 := Lib.hid p2
      have hzo := block_lt p2
      by_cases hlt : k < r.length
      · obtain ⟨cr1, cr2, cr3⟩ := HR.out k hlt
        obtain ⟨hgl, hg0⟩ := HRow.out k hlt
        have hwr : Below w.heap.size w wo := hw6.trans (hbk.mono hw1.size)
        have cr1 := cell_below cr1 hwr
        rw [hgl] at cr1
        obtain ⟨kb, ko, hka, hkc, -⟩ := ints_at (cr2.below hwr) (by omega)
        rw [hka] at cr1
        have HKC := Lib.hid hkc
        have CR1 := Lib.hid cr1
        have HG0 := Lib.hid hg0
        have HGL := Lib.hid hgl
        have hzr1 := block_lt cr1
        clear cr2 cr3 hgl hg0 hka hkc cr1
        generalize cp k = cpk at *
        go_wp2_with fail
        clear p2
        have hAL0 : (agL f (gr r k)).length = e.length := by rw [agL_len]; exact HGL.out
        have HAL := Lib.hid hAL0
        clear hAL0
        go_loopw [12, 13] (fun u j9 wq => ∃ j : Nat, j ≤ e.length ∧ j9 = .int .i64 j ∧ Below wo.heap.size wo wq ∧ Hid (wq.ownsRow wo.heap.size 3 1 u j (clD ((agL f (gr r k)).take j)))) (fun _ j9 _ => e.length - (intOf j9).toNat)
        case atStart => exact ⟨0, Nat.zero_le _, rfl, Below.refl _ _, Lib.hid ⟨rfl, .inl ⟨rfl, rfl⟩⟩⟩
        case round =>
          obtain ⟨j, hj, rfl, hbq, HOq⟩ := hrel
          have p2 := cell_below PO2.out hbq
          have cr1 := cell_below CR1.out hbq
          have hsq := hbq.size
          by_cases hjt : j < e.length
          · obtain ⟨a0, a1⟩ := HG0.out j hjt
            have cj := cell_below (HKC.out j (by rw [HGL.out]; exact hjt)) hbq
            have HTk := Lib.hid (clD_take f (gr r k) (j := j) (by rw [HGL.out]; exact hjt))
            have HAj := Lib.hid (fun W => HAf.out (gi (gr r k) j) W a0 a1)
            generalize gi (gr r k) j = x at *
            generalize f x = fx at *
            obtain ⟨wq, rfl⟩ : ∃ wq : World, wq = wr := ⟨_, rfl⟩
            go_wp2_with (first
              | (go_at_call 22; refine (HAj.out _).mono ?_; rintro E w9 ⟨rfl, rfl⟩)
              | (at_builtin; (refine app_oneD (by rfl) _ _ (by rfl) wo.heap.size j _ _ (by rfl) (owns_belowD HOq.out ((Below.refl _ _).alloc (Nat.le_refl _) _)) fx (by omega) (by simp; omega) wq.heap.size (by rfl) (by simp [go_sem]) ?_); intro g8 c8 w8 hR8 hb8
                 rw [HTk.out] at hR8
                 have hb9 : Below wo.heap.size wq w8 := ((Below.refl _ _).alloc hsq _).trans hb8
                 have hR9 := Lib.hid hR8
                 clear hR8 hb8))
            go_roundw
            case rel => exact ⟨j + 1, by omega, by go_num, hbq.trans hb9, hR9⟩
            case measure => simp [intOf]; omega
          · obtain rfl : j = e.length := by omega
            obtain ⟨b7, c7, rfl, hlo7, hlt7⟩ := World.ownsRow.form HOq.out (by omega)
            have HXq := HXk.out.below hbq
            have HRq := Lib.hid (HRk.out.below hbq)
            have HLq : Hid (Lie wr b7 (agL f (gr r k))) := Lib.hid (by
              have := HOq.out
              rw [List.take_of_length_le (by rw [HAL.out]; omega)] at this
              exact owns_lie this HAL.out)
            have hcq := owns_capD HOq.out
            have hvb : v.ownBlock ≠ some b7 := fun e => by have := HRk.out.own e; omega
            have HVB := Lib.hid hvb
            have hlow6 : w6.heap.size ≤ b7 := by omega
            obtain ⟨x0, x1, x2, x3, x4, x5, x6, x7, x8, x9⟩ := HXq
            have HXX := Lib.hid (HXk.out.below hbq)
            have hbw := hbk.trans (hbq.mono (by omega))
            have hzD := block_lt x2
            have hD6 := HD6.out
            clear x4 x5 hbq HXk HRk HOq HG0 x6 x7 hvb
            obtain ⟨wq, rfl⟩ : ∃ wq : World, wq = wr := ⟨_, rfl⟩
            go_wp2_with (first
              | (at_builtin; (refine app_rws (by rfl) _ _ (by rfl) w6.heap.size k e.length v (fun i => agL f (gr r i)) (by rfl) (HRq.out.below ((Below.refl _ _).alloc (Nat.le_refl _) _)) b7 c7 ⟨HLq.out.alloc _, HAL.out, hlow6, by simp; omega, HVB.out, hcq⟩ (by omega) (by simp; omega) wq.heap.size (by rfl) (by simp [go_sem]) ?_); intro g8 c8 w8 hR8 hb8
                 have hb9 : Below w6.heap.size wq w8 := ((Below.refl _ _).alloc (by omega) _).trans hb8
                 have hR9 := Lib.hid hR8
                 have y2 : w8.cell? ⟨D, 2, none⟩ = some v := (hb9.cell (p := ⟨D, 2, none⟩) hD6).trans x2
                 have y3 : w8.frozen? ⟨D, 2, none⟩ = false := (hb9.frozen (p := ⟨D, 2, none⟩) hD6).trans x3
                 clear hR8 hb8))
            go_roundw
            case rel => exact ⟨k + 1, by omega, by go_num, (hbw.trans (hb9.mono (by omega))).setCell (p := ⟨D, 2, none⟩) hD _, _, Lib.hid ((HXX.out.low hb9 hD6 HX.out.s1 HX.out.s2).set _), Lib.hid (hR9.out.set hD6)⟩
            case measure => simp [intOf]; omega
      · obtain rfl : k = r.length := by omega
        obtain ⟨va, vc, rfl⟩ := HRk.out.len
        have hwB : Below wB.heap.size wB wo := HB6.out.trans (hbk.mono (by omega))
        obtain ⟨t0, t1, t2⟩ := HT.out
        obtain ⟨f0, f1, f2⟩ := HT3.out
        replace t0 := cell_below t0 hwB
        replace t1 := cell_below t1 hwB
        replace t2 := cell_below t2 hwB
        replace f0 := (hwB.frozen (p := ⟨w.heap.size + 1, 0, none⟩) hs2).trans f0
        replace f1 := (hwB.frozen (p := ⟨w.heap.size + 1, 1, none⟩) hs2).trans f1
        replace f2 := (hwB.frozen (p := ⟨w.heap.size + 1, 2, none⟩) hs2).trans f2
        obtain ⟨x0, x1, x2, x3, -, -, -, -, -, -⟩ := HXk.out
        have hneD : D ≠ w.heap.size + 1 := by omega
        have HWW := Lib.hid (hw6.trans (hbk.mono (by omega)))
        have HLL := Lib.hid (agR_len f r)
        have HGR := Lib.hid (fun i (hi : i < r.length) => gr_agR f r hi)
        clear hbk hwB
        go_wp2_with fail
        refine bodyPost_ret (v := .tuple #[.agg #[.slice (some ⟨g1, 0, none⟩) o.length c1, .slice (some ⟨g2, 0, none⟩) e.length c2, .slice va r.length vc], .int .i64 0]) (by simp [results, Try.results8, go_sem, t0, t1, t2]) rfl ?_
        have hb3 := fun v0 v1 v2 => below3D (D := w.heap.size + 1) (v0 := v0) (v1 := v1) (v2 := v2) (Below.refl (w.heap.size + 1) wo) (Nat.le_refl _)
        have hb4 := fun v0 v1 v2 => below3D (D := w.heap.size + 1) (v0 := v0) (v1 := v1) (v2 := v2) (Below.refl w.heap.size wo) (by omega)
        refine dimE_of (k := r.length) (HXk.out.three (by omega) (by omega) (by omega)) (HRk.out.three (by omega)) HSo.out HSe.out (by omega) HLL.out (by omega) HGR.out (fun i hi j hj => ?_) (HWW.out.trans (hb4 _ _ _)) rfl
        obtain ⟨h1, h2⟩ := HRow.out i hi
        rw [gi_agL f _ (by omega)]
        exact Hf64.out _ (h2 j hj).1 (h2 j hj).2
end Go.Proofs.Ytelehohffcncaaa
