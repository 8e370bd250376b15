/-
  Holds and Must of both, whole. By an AI agent.
-/
import Derived.Test.YtiagflackfkmnaaGreatRuHd
import Derived.Deep.RegionHeld3
import Derived.BigQuiet
import Derived.BigRegion
namespace Go.Proofs.YtiagflackfkmnaaGreat
set_option linter.unusedVariables false
set_option linter.unusedSimpArgs false
open Go.RowKit

/-- What good signs say of a row. -/
theorem ins_good {L : Int} {js : List Int} {l : List Sgn} {q : List Edc} (hV : lstE L js l q = 0) (dir h : Int) :
    (∀ i, i < (insR L dir h l l.length).length → (gs (insR L dir h l l.length) i).k = 1 → 0 < (gs (insR L dir h l l.length) i).v) ∧
    (∀ i j, i < j → j < (insR L dir h l l.length).length → dstK L dir (gs (insR L dir h l l.length) i).c ≤ dstK L dir (gs (insR L dir h l l.length) j).c) ∧
    (∀ j, j < (insR L dir h l l.length).length → (0 ≤ (gs (insR L dir h l l.length) j).c ∧ (gs (insR L dir h l l.length) j).c ≤ 100000) ∧ 0 ≤ (gs (insR L dir h l l.length) j).v ∧ (gs (insR L dir h l l.length) j).v ≤ 100000) ∧
    (insR L dir h l l.length).length ≤ 1000 := by
  obtain ⟨⟨hL1, hL2⟩, hJ, hC, hn⟩ := lst_good hV
  have hsb := lst_sgns hV
  obtain ⟨hn1, hn2⟩ := sgn_nums hsb
  have hmem : ∀ i, i < (insR L dir h l l.length).length → ∃ j, j < l.length ∧ gs l j = gs (insR L dir h l l.length) i := fun i hi => insR_mem (by rw [gs_at _ hi]; exact List.getElem_mem hi)
  refine ⟨fun i hi hk => ?_, fun i j hij hj => ?_, fun j hj => ?_, ?_⟩
  · obtain ⟨j, hj, e⟩ := hmem i hi
    rw [← e] at hk ⊢
    unfold sgnsB at hsb
    simp only [Bool.and_eq_true, decide_eq_true_eq] at hsb
    have hA := hsb.1.2
    unfold allB at hA
    simp only [Bool.not_eq_true'] at hA
    have h3 : sgnB L (gs l j) = true := by simpa using (anyK_iff _).1 hA j hj
    unfold sgnB at h3
    simp only [Bool.and_eq_true, decide_eq_true_eq] at h3
    have hv := h3.1.1.1.1.1.1
    rw [hk] at hv
    have hv2 : btw (gs l j).v 10 200 = true := hv
    have := btw_ge hv2
    omega
  · have hp := insR_sorted (L := L) (dir := dir) (h := h) hn2 l.length (Nat.le_refl _)
    have := (List.pairwise_iff_getElem.1 hp) i j (by omega) hj hij
    rw [← gs_at _ (by omega : i < _), ← gs_at _ hj] at this
    unfold ahS at this
    omega
  · obtain ⟨i, hi, e⟩ := hmem j hj
    rw [← e]
    exact hC i hi
  · have := insR_len L dir h l l.length
    omega
/-- A row comes back. -/
def RrR (R : List Sgn) (w : World) (e : Ending) (w' : World) : Prop := ∃ b c, e = .returned (.slice b R.length c) ∧ SgnS w' b R ∧ Below w.heap.size w w'
theorem beg_bd {L dir m : Int} (h1 : 0 ≤ L) (h2 : L ≤ 100000) (h3 : 0 ≤ m) (h4 : m < L) : 0 ≤ begK L dir m ∧ begK L dir m < L := by unfold begK; split <;> omega
theorem top_or {t : Int} (h : topB t = true) : t = 1 ∨ t = 2 := by unfold topB at h; simpa using h
set_option maxRecDepth 100000 in
set_option maxHeartbeats 1000000 in
theorem Holds_good (L : Int) (a : Option Addr) (js : List Int) (ca : Nat) (aa : Option Addr) (l : List Sgn) (cl : Nat) (h dir tp m : Int) (hV : lstE L js l [] = 0) (h0 : btw h 0 10000000 = true) (h1 : dirB dir = true) (h2 : topB tp = true) (h3 : btw m 0 (L - 1) = true) (w : World) (hI : IntsS w a js) (hA : SgnS w aa l) :
    Calls Tryz.prog 21 #[.agg #[.int .i64 L, .slice a js.length ca], .slice aa l.length cl, .int .i64 h, .int .i64 dir, .int .i64 tp, .int .i64 m] w fun e w' => e = .returned (.tuple #[.int .i64 (hldV L js l h dir tp m), .int .i64 0]) ∧ Below w.heap.size w w' := by
  obtain ⟨hLb, hJ, hC, hn⟩ := lst_good hV
  obtain ⟨hn1, hn2⟩ := sgn_nums (lst_sgns hV)
  have hm := btw_ge h3
  have H1 := Lib.hid (fun W (hW : Below w.heap.size w W) => by
    have := listsError_r L a js ca aa l cl none [] 0 W (hI.below hW) (hA.below hW) (ed_nilR W)
    rw [hV] at this
    exact this)
  have K0 := Lib.hid (fun W => h0 ▸ isHour_r h W)
  have K1 := Lib.hid (fun W => h1 ▸ isDir_r dir W)
  have K2 := Lib.hid (fun W => h2 ▸ isTopic_r tp W)
  have K3 := Lib.hid (fun W => h3 ▸ isMetre_r L a js.length ca m hLb.1 hLb.2 W)
  have HR := Lib.hid (fun W (hW : Below w.heap.size w W) => (rowOf_r L a js ca aa l cl h dir hLb.1 hLb.2 hJ (fun j hj => by have := hC j hj; omega) hn W (hI.below hW) (hA.below hW)).mono fun e w' H => rowF_of hLb.1 hLb.2 hJ hC H)
  have HBg := Lib.hid (fun W => beginOf_r L a js.length ca dir m hLb.1 hLb.2 (by omega) (by omega) W)
  have htp : tp ≠ 0 := by have := top_or h2; omega
  have hbk := beg_bd (dir := dir) hLb.1 hLb.2 hm.1 (by omega)
  have HVal : Hid (∀ row, RowL L js dir h l row → hldL tp (begK L dir m) row 0 = hldV L js l h dir tp m) := Lib.hid fun row hr => hld_ins hn2 htp hbk.2 hr
  generalize hldV L js l h dir tp m = V at *
  generalize begK L dir m = bk at *
  clear hI hA hV h0 h1 h2 h3 hm hn1 hn2 hJ hC hLb htp hbk hn
  go_enter Tryz.func21, Tryz.ntmps21
  go_wp2_with fail
  obtain ⟨wB, hwB⟩ : ∃ wB, w.alloc (.cells #[.int .i64 L, .slice a js.length ca] 24) = wB := ⟨_, rfl⟩
  have hb : Below w.heap.size w wB := by rw [← hwB]; exact (Below.refl _ _).alloc (Nat.le_refl _) _
  have l0 : wB.cell? ⟨w.heap.size, 0, none⟩ = some (.int .i64 L) := by rw [← hwB]; simp [go_sem]
  have l1 : wB.cell? ⟨w.heap.size, 1, none⟩ = some (.slice a js.length ca) := by rw [← hwB]; simp [go_sem]
  rw [hwB]
  clear hwB
  go_wp2_with (first | (go_at_call 44; refine (H1.out _ hb).mono ?_; rintro e w1 ⟨rfl, hb1⟩; replace hb := hb.trans (hb1.mono hb.size); replace l0 := cell_below l0 hb1; replace l1 := cell_below l1 hb1; clear hb1) | (go_at_call 45; refine (K0.out _).mono ?_; rintro e w2 ⟨rfl, rfl⟩) | (go_at_call 46; refine (K1.out _).mono ?_; rintro e w2 ⟨rfl, rfl⟩) | (go_at_call 51; refine (K2.out _).mono ?_; rintro e w2 ⟨rfl, rfl⟩) | (go_at_call 52; refine (K3.out _).mono ?_; rintro e w2 ⟨rfl, hb2⟩; replace hb := hb.trans (hb2.mono hb.size); replace l0 := cell_below l0 hb2; replace l1 := cell_below l1 hb2; clear hb2))
  obtain ⟨wX, rfl⟩ : ∃ wX : World, wX = w2 := ⟨_, rfl⟩
  have hz0 := block_lt l0
  have L0 := Lib.hid l0
  have L1 := Lib.hid l1
  have HB := Lib.hid hb
  have HRX := Lib.hid (fun W (hW : Below wX.heap.size wX W) => HR.out W (HB.out.trans (hW.mono HB.out.size)))
  clear hb HR H1
  have hB : Below wX.heap.size wX wX := Below.refl _ _
  go_region_held3 (fun w' => w'.cell? ⟨w.heap.size, 0, none⟩ = some (.int .i64 L) ∧ w'.cell? ⟨w.heap.size, 1, none⟩ = some (.slice a js.length ca)) (go_keep)
    (first
      | (go_at_call 47
         refine (HRX.out _ (show Below wX.heap.size wX _ by first | exact hB | exact hB.drew)).mono ?_
         rintro e w9 ⟨row, ar, cr, hRL, hrl, hbd, rfl, hP, hb9⟩
         replace hB : Below wX.heap.size wX w9 := (show Below wX.heap.size wX _ by first | exact hB | exact hB.drew).trans (hb9.mono (by have := hB.size; first | exact this | (simp; exact this)))
         have l0 := (hB.cell (p := ⟨w.heap.size, 0, none⟩) hz0).trans L0.out
         have l1 := (hB.cell (p := ⟨w.heap.size, 1, none⟩) hz0).trans L1.out
         have HP := Lib.hid hP
         have HRL := Lib.hid hRL
         clear hP hRL hbd hrl
         skip)
      | (go_at_call 54
         refine (HBg.out _).mono ?_
         rintro e w9 ⟨rfl, hb9⟩
         replace hB : Below wX.heap.size wX w9 := (show Below wX.heap.size wX _ by first | exact hB | exact hB.drew).trans (hb9.mono (by have := hB.size; first | exact this | (simp; exact this)))
         have l0 := (hB.cell (p := ⟨w.heap.size, 0, none⟩) hz0).trans L0.out
         have l1 := (hB.cell (p := ⟨w.heap.size, 1, none⟩) hz0).trans L1.out
         skip)
      | (go_at_call 53
         refine (holdsAt_r ar row cr tp bk _ (by first | exact HP.out | exact HP.out.below hb9)).mono ?_
         rintro e w9 ⟨rfl, hb9⟩
         replace hB : Below wX.heap.size wX w9 := (show Below wX.heap.size wX _ by first | exact hB | exact hB.drew).trans (hb9.mono (by have := hB.size; first | exact this | (simp; exact this)))
         have l0 := (hB.cell (p := ⟨w.heap.size, 0, none⟩) hz0).trans L0.out
         have l1 := (hB.cell (p := ⟨w.heap.size, 1, none⟩) hz0).trans L1.out
         skip))

  all_goals
    have hv := HVal.out row HRL.out
    have HVv := Lib.hid hv
    clear hv HVal
    go_wp2_with fail
    go_ret2
    exact ⟨by rw [HVv.out]; rfl, HB.out.trans (hB.mono HB.out.size)⟩
set_option maxRecDepth 100000 in
set_option maxHeartbeats 1000000 in
theorem refHolds_r (L : Int) (a : Option Addr) (js : List Int) (ca : Nat) (aa : Option Addr) (l : List Sgn) (cl : Nat) (h dir tp m : Int) (hV : lstE L js l [] = 0) (h2 : topB tp = true) (h3 : btw m 0 (L - 1) = true) (w : World) (hI : IntsS w a js) (hA : SgnS w aa l) :
    Calls Tryz.prog 24 #[.agg #[.int .i64 L, .slice a js.length ca], .slice aa l.length cl, .int .i64 h, .int .i64 dir, .int .i64 tp, .int .i64 m] w fun e w' => e = .returned (.int .i64 (hldV L js l h dir tp m)) ∧ Below w.heap.size w w' := by
  obtain ⟨hLb, hJ, hC, hn⟩ := lst_good hV
  obtain ⟨g1, g2, g3, g4⟩ := ins_good hV dir h
  have hm := btw_ge h3
  have hbk := beg_bd (dir := dir) hLb.1 hLb.2 hm.1 (by omega)
  have HR := Lib.hid (fun W (hW : Below w.heap.size w W) => show Calls Tryz.prog 19 #[.agg #[.int .i64 L, .slice a js.length ca], .slice aa l.length cl, .int .i64 h, .int .i64 dir] W (RrR (insR L dir h l l.length) W) from refRow_r L a js.length ca aa l cl h dir hLb.1 hLb.2 (fun j hj => (hC j hj).1) hn W (hA.below hW))
  have HBg := Lib.hid (fun W => refBeginning_r L a js.length ca dir m hLb.1 hLb.2 (by omega) (by omega) W)
  have HHo := Lib.hid (fun b c W (hW : Below w.heap.size w W) hS9 => refHolding_r L a js ca b (insR L dir h l l.length) c dir tp (begK L dir m) hLb.1 hLb.2 hJ g3 g1 g2 g4 (top_or h2) (by omega) (by omega) W (hI.below hW) hS9)
  have HVal : Hid (hS L js dir tp (begK L dir m) (insR L dir h l l.length) 0 = hldV L js l h dir tp m) := Lib.hid rfl
  generalize hldV L js l h dir tp m = V at *
  clear hI hA hV h2 h3 hm hJ hC hLb hbk hn g1 g2 g3 g4
  generalize insR L dir h l l.length = R at *
  generalize begK L dir m = bk at *
  go_enter Tryz.func24, Tryz.ntmps24
  go_wp2_with fail
  obtain ⟨wB, hwB⟩ : ∃ wB, w.alloc (.cells #[.int .i64 L, .slice a js.length ca] 24) = wB := ⟨_, rfl⟩
  have hb : Below w.heap.size w wB := by rw [← hwB]; exact (Below.refl _ _).alloc (Nat.le_refl _) _
  have l0 : wB.cell? ⟨w.heap.size, 0, none⟩ = some (.int .i64 L) := by rw [← hwB]; simp [go_sem]
  have l1 : wB.cell? ⟨w.heap.size, 1, none⟩ = some (.slice a js.length ca) := by rw [← hwB]; simp [go_sem]
  rw [hwB]
  clear hwB
  have hz0 := block_lt l0
  have L0 := Lib.hid l0
  have L1 := Lib.hid l1
  have HB := Lib.hid hb
  have HRX := Lib.hid (fun W (hW : Below wB.heap.size wB W) => HR.out W (HB.out.trans (hW.mono HB.out.size)))
  have HHX := Lib.hid (fun b c W (hW : Below wB.heap.size wB W) hS9 => HHo.out b c W (HB.out.trans (hW.mono HB.out.size)) hS9)
  clear hb HR HHo
  have hB : Below wB.heap.size wB wB := Below.refl _ _
  go_region_held3 (fun w' => w'.cell? ⟨w.heap.size, 0, none⟩ = some (.int .i64 L) ∧ w'.cell? ⟨w.heap.size, 1, none⟩ = some (.slice a js.length ca)) (go_keep)
    (first
      | (go_at_call 19
         refine (HRX.out _ (show Below wB.heap.size wB _ by first | exact hB | exact hB.drew)).mono ?_
         rintro e w9 ⟨b, c, rfl, hP, hb9⟩
         replace hB : Below wB.heap.size wB w9 := (show Below wB.heap.size wB _ by first | exact hB | exact hB.drew).trans (hb9.mono (by have := hB.size; first | exact this | (simp; exact this)))
         have l0 := (hB.cell (p := ⟨w.heap.size, 0, none⟩) hz0).trans L0.out
         have l1 := (hB.cell (p := ⟨w.heap.size, 1, none⟩) hz0).trans L1.out
         have HP := Lib.hid hP
         clear hP
         skip)
      | (go_at_call 57
         refine (HBg.out _).mono ?_
         rintro e w9 ⟨rfl, hb9⟩
         replace hB : Below wB.heap.size wB w9 := (show Below wB.heap.size wB _ by first | exact hB | exact hB.drew).trans (hb9.mono (by have := hB.size; first | exact this | (simp; exact this)))
         have l0 := (hB.cell (p := ⟨w.heap.size, 0, none⟩) hz0).trans L0.out
         have l1 := (hB.cell (p := ⟨w.heap.size, 1, none⟩) hz0).trans L1.out
         skip)
      | (go_at_call 56
         refine (HHX.out b c _ (show Below wB.heap.size wB _ by first | exact hB | exact hB.drew) (by first | exact HP.out | exact HP.out.below hb9)).mono ?_
         rintro e w9 ⟨rfl, hb9⟩
         replace hB : Below wB.heap.size wB w9 := (show Below wB.heap.size wB _ by first | exact hB | exact hB.drew).trans (hb9.mono (by have := hB.size; first | exact this | (simp; exact this)))
         have l0 := (hB.cell (p := ⟨w.heap.size, 0, none⟩) hz0).trans L0.out
         have l1 := (hB.cell (p := ⟨w.heap.size, 1, none⟩) hz0).trans L1.out
         skip))

  all_goals
    go_wp2_with fail
    go_ret
    exact ⟨by rw [← HVal.out]; rfl, HB.out.trans (hB.mono HB.out.size)⟩
set_option maxRecDepth 100000 in
set_option maxHeartbeats 1000000 in
theorem Must_good (L : Int) (a : Option Addr) (js : List Int) (ca : Nat) (ae : Option Addr) (q : List Edc) (cq : Nat) (h dir tp m : Int) (hV : lstE L js [] q = 0) (h0 : btw h 0 10000000 = true) (h1 : dirB dir = true) (h2 : topB tp = true) (h3 : btw m 0 (L - 1) = true) (w : World) (hI : IntsS w a js) (hE : EdS w ae q) :
    Calls Tryz.prog 22 #[.agg #[.int .i64 L, .slice a js.length ca], .slice ae q.length cq, .int .i64 h, .int .i64 dir, .int .i64 tp, .int .i64 m] w fun e w' => e = .returned (.tuple #[.int .i64 (mustV q h tp dir m), .int .i64 0]) ∧ Below w.heap.size w w' := by
  obtain ⟨hLb, -, -, -⟩ := lst_good hV
  have H1 := Lib.hid (fun W (hW : Below w.heap.size w W) => by
    have := listsError_r L a js ca none [] 0 ae q cq W (hI.below hW) (sg_nil W) (hE.below hW)
    rw [hV] at this
    exact this)
  have K0 := Lib.hid (fun W => h0 ▸ isHour_r h W)
  have K1 := Lib.hid (fun W => h1 ▸ isDir_r dir W)
  have K2 := Lib.hid (fun W => h2 ▸ isTopic_r tp W)
  have K3 := Lib.hid (fun W => h3 ▸ isMetre_r L a js.length ca m hLb.1 hLb.2 W)
  have HM := Lib.hid (fun W (hW : Below w.heap.size w W) => mustAt_r ae q cq h tp dir m W (hE.below hW))
  clear hI hE hV h0 h1 h2 h3 hLb
  generalize mustV q h tp dir m = V at *
  go_enter Tryz.func22, Tryz.ntmps22
  go_wp2_with fail
  obtain ⟨wB, hwB⟩ : ∃ wB, w.alloc (.cells #[.int .i64 L, .slice a js.length ca] 24) = wB := ⟨_, rfl⟩
  have hb : Below w.heap.size w wB := by rw [← hwB]; exact (Below.refl _ _).alloc (Nat.le_refl _) _
  have l0 : wB.cell? ⟨w.heap.size, 0, none⟩ = some (.int .i64 L) := by rw [← hwB]; simp [go_sem]
  have l1 : wB.cell? ⟨w.heap.size, 1, none⟩ = some (.slice a js.length ca) := by rw [← hwB]; simp [go_sem]
  rw [hwB]
  clear hwB
  go_wp2_with (first | (go_at_call 44; refine (H1.out _ hb).mono ?_; rintro e w1 ⟨rfl, hb1⟩; replace hb := hb.trans (hb1.mono hb.size); replace l0 := cell_below l0 hb1; replace l1 := cell_below l1 hb1; clear hb1) | (go_at_call 45; refine (K0.out _).mono ?_; rintro e w2 ⟨rfl, rfl⟩) | (go_at_call 46; refine (K1.out _).mono ?_; rintro e w2 ⟨rfl, rfl⟩) | (go_at_call 51; refine (K2.out _).mono ?_; rintro e w2 ⟨rfl, rfl⟩) | (go_at_call 52; refine (K3.out _).mono ?_; rintro e w2 ⟨rfl, hb2⟩; replace hb := hb.trans (hb2.mono hb.size); replace l0 := cell_below l0 hb2; replace l1 := cell_below l1 hb2; clear hb2) | (go_at_call 55; refine (HM.out _ hb).mono ?_; rintro e w3 ⟨rfl, hb3⟩))
  go_ret2
  exact ⟨rfl, hb.trans (hb3.mono hb.size)⟩
/-- A number with an error. -/
def NumA (V E : Int) (w : World) (e : Ending) (w' : World) : Prop := e = .returned (.tuple #[.int .i64 V, .int .i64 E]) ∧ Below w.heap.size w w'
theorem Holds_any (L : Int) (a : Option Addr) (js : List Int) (ca : Nat) (aa : Option Addr) (l : List Sgn) (cl : Nat) (h dir tp m : Int) (b9 r : Bool) (hr : r = (btw h 0 10000000 && dirB dir && topB tp && btw m 0 (L - 1))) (w : World) (hI : IntsS w a js) (hA : SgnS w aa l) :
    Calls Tryz.prog 21 #[.agg #[.int .i64 L, .slice a js.length ca], .slice aa l.length cl, .int .i64 h, .int .i64 dir, .int .i64 tp, .int .i64 m] w (NumA (if whyK (lineB L js) true (sgnsB L js l) false b9 r = 0 then hldV L js l h dir tp m else 0) (whyK (lineB L js) true (sgnsB L js l) false b9 r) w) := by
  obtain ⟨k1, k2⟩ := lst_s L js l true b9 r
  by_cases hV : lstE L js l [] = 0
  · rw [k2 hV]
    cases hx : r with
    | false =>
      rw [if_pos rfl, if_neg (by decide)]
      exact Holds_arg L a js ca aa l cl h dir tp m hV (by rw [← hr]; exact hx) w hI hA
    | true =>
      rw [if_neg (show ¬ (true = false) by decide), if_pos rfl]
      rw [hx] at hr
      have hr := hr.symm
      simp only [Bool.and_eq_true] at hr
      exact Holds_good L a js ca aa l cl h dir tp m hV hr.1.1.1 hr.1.1.2 hr.1.2 hr.2 w hI hA
  · rw [k1 hV, if_neg hV]
    exact Holds_bad L a js ca aa l cl h dir tp m hV w hI hA
theorem Must_any (L : Int) (a : Option Addr) (js : List Int) (ca : Nat) (ae : Option Addr) (q : List Edc) (cq : Nat) (h dir tp m : Int) (b9 r : Bool) (hr : r = (btw h 0 10000000 && dirB dir && topB tp && btw m 0 (L - 1))) (w : World) (hI : IntsS w a js) (hE : EdS w ae q) :
    Calls Tryz.prog 22 #[.agg #[.int .i64 L, .slice a js.length ca], .slice ae q.length cq, .int .i64 h, .int .i64 dir, .int .i64 tp, .int .i64 m] w (NumA (if whyK (lineB L js) false b9 true (edcsB L js q) r = 0 then mustV q h tp dir m else 0) (whyK (lineB L js) false b9 true (edcsB L js q) r) w) := by
  obtain ⟨k1, k2⟩ := lst_e L js q b9 r
  by_cases hV : lstE L js [] q = 0
  · rw [k2 hV]
    cases hx : r with
    | false =>
      rw [if_pos rfl, if_neg (by decide)]
      exact Must_arg L a js ca ae q cq h dir tp m hV (by rw [← hr]; exact hx) w hI hE
    | true =>
      rw [if_neg (show ¬ (true = false) by decide), if_pos rfl]
      rw [hx] at hr
      have hr := hr.symm
      simp only [Bool.and_eq_true] at hr
      exact Must_good L a js ca ae q cq h dir tp m hV hr.1.1.1 hr.1.1.2 hr.1.2 hr.2 w hI hE
  · rw [k1 hV, if_neg hV]
    exact Must_bad L a js ca ae q cq h dir tp m hV w hI hE
end Go.Proofs.YtiagflackfkmnaaGreat
