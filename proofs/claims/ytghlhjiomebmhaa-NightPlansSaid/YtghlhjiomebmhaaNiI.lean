/-
  place of package night does what the search over lists does. By an AI agent.
-/
import Derived.Test.YtghlhjiomebmhaaNiH
import Derived.Deep.RegionHeld3
import Derived.BigQuiet
namespace Go.Proofs.Ytghlhjiomebmhaa
set_option linter.unusedVariables false
set_option linter.unusedSimpArgs false
open Go.RowKit

theorem drop_gi (l : List Int) {k : Nat} (h : k < l.length) : l.drop k = gi l k :: l.drop (k + 1) := by
  rw [List.drop_eq_getElem_cons h]; unfold gi; simp [h]
set_option maxRecDepth 100000 in
set_option maxHeartbeats 4000000 in
theorem place_v {d : Nat} (IH : PlaceC d) : PlaceC (d + 1) := by
  intro w0 w C P ac ap cc cp L N bp bt nt cap pl tr fr job h hj hfr
  have hKp : Hid (∀ n pl tr, ((vacF (plF C P fr d) P fr n) pl tr).2.1.length = pl.length ∧ untr ((vacF (plF C P fr d) P fr n) pl tr).2.2 N ≤ untr tr N) := Lib.hid fun n pl tr => ⟨(vacF_keeps (fun k => plF_keeps C P fr d k) P fr n pl tr).1, untr_mono (vacF_keeps (fun k => plF_keeps C P fr d k) P fr n pl tr).2 N⟩
  have HV : Hid (∀ (w1 : World) (nt1 n : Nat) (pl1 : List Int) (tr1 : Int → Bool), Two bp bt w w1 → pl1.length = L → PlanR w1 bp pl1 → MB w1 bt nt1 tr1 → untr tr1 N < d → nt1 + untr tr1 N ≤ 100000 → n < N →
      Calls Try.prog 76 #[.agg #[.slice ac L cc, .slice ap N cp], .slice (some ⟨bp, 0, none⟩) L cap, .int .i64 n, .int .i64 fr, .map (some bt)] w1 fun e w' => PlE bp bt nt1 N w1 tr1 ((vacF (plF C P fr d) P fr n) pl1 tr1) e w') :=
    Lib.hid fun w1 nt1 n pl1 tr1 h2 h3 h4 h5 h6 h7 h8 => vacate_v IH w0 w1 C P ac ap cc cp L N bp bt nt1 cap pl1 tr1 fr n
      ⟨h.rows, h.ints, h.bel.trans (h2.below h.lp h.lt h.bel.size), h.lp, h.lt, h.ne, Nat.lt_of_lt_of_le h.sp h2.size, h.cl, h.pn, h3, h4, h5, h6, h7, h.small, h.smallN, h.ent⟩ h8 hfr
  have hRF : Hid (plF C P fr (d + 1) job pl tr = plcL (vacF (plF C P fr d) P fr) job (gr C job) pl tr) := Lib.hid rfl
  have hEn := Lib.hid (h.ent job hj)
  obtain ⟨hR0, rb, ro, ad, cpr, radr, hrc⟩ := h.rows
  have hjC : job < C.length := by rw [h.cl]; exact hj
  obtain rfl := radr (by rintro rfl; simp at hjC)
  obtain ⟨cR, hRI, -⟩ := hrc job hjC
  obtain ⟨hl64, hlI, lb, lo, ladr, hlc⟩ := hRI
  have hrb : rb < w0.heap.size := block_lt cR
  have h1 := h.lp
  have h2 := h.lt
  have h3 := h.bel.size
  have cR := cell_below cR h.bel
  have hLc : Hid (∀ k, k < (gr C job).length → ad job = some ⟨lb, lo, none⟩ ∧ lb < w0.heap.size ∧ w.cell? ⟨lb, lo + k, none⟩ = some (.int .i64 (gi (gr C job) k))) := Lib.hid fun k hk => ⟨ladr (pos_ne (n := 0) hk), block_lt (hlc k hk), cell_below (hlc k hk) h.bel⟩
  have hne := h.ne
  have hsp := h.sp
  have hst := h.map.lt
  have hpl0 := Lib.hid h.plan
  have hm0 := Lib.hid h.map
  have hlen := Lib.hid h.len
  have hL := h.small
  have hNs := h.smallN
  have hun := Lib.hid h.un
  have hroom := Lib.hid h.room
  clear IH h hrc hR0 hjC radr hlI ladr hlc
  have hj1 : (0 : Int) ≤ job := by omega
  have hj2 : (job : Int) < L := by omega
  have hD : Hid (∀ k pl tr, k < (gr C job).length → plcL (vacF (plF C P fr d) P fr) job ((gr C job).drop k) pl tr =
      if tr (gi (gr C job) k) = true then plcL (vacF (plF C P fr d) P fr) job ((gr C job).drop (k + 1)) pl tr
      else if ((vacF (plF C P fr d) P fr) (gi (gr C job) k) pl (setAt tr (gi (gr C job) k) true)).1 = true then (true, ((vacF (plF C P fr d) P fr) (gi (gr C job) k) pl (setAt tr (gi (gr C job) k) true)).2.1.set job (gi (gr C job) k), ((vacF (plF C P fr d) P fr) (gi (gr C job) k) pl (setAt tr (gi (gr C job) k) true)).2.2)
      else plcL (vacF (plF C P fr d) P fr) job ((gr C job).drop (k + 1)) ((vacF (plF C P fr d) P fr) (gi (gr C job) k) pl (setAt tr (gi (gr C job) k) true)).2.1 ((vacF (plF C P fr d) P fr) (gi (gr C job) k) pl (setAt tr (gi (gr C job) k) true)).2.2) :=
    Lib.hid fun k pl tr hk => by rw [drop_gi _ hk]; rfl
  have hD0 : Hid (plF C P fr (d + 1) job pl tr = plcL (vacF (plF C P fr d) P fr) job ((gr C job).drop 0) pl tr) := hRF
  have hDE : Hid (∀ pl tr, plcL (vacF (plF C P fr d) P fr) job ((gr C job).drop (gr C job).length) pl tr = (false, pl, tr)) := Lib.hid fun pl tr => by rw [List.drop_length]; rfl
  clear hRF
  generalize plF C P fr (d + 1) job pl tr = RES at *
  generalize vacF (plF C P fr d) P fr = V at *
  generalize gr C job = l at *
  generalize ad job = la at *
  generalize cpr job = lc at *
  obtain ⟨wB, hwB⟩ : ∃ wB, w.alloc (.cells #[.slice (some ⟨rb, ro, none⟩) L cc, .slice ap N cp] 64) = wB := ⟨_, rfl⟩
  have hbB : Below w.heap.size w wB := by rw [← hwB]; exact (Below.refl _ _).alloc (Nat.le_refl _) _
  have p0 : wB.cell? ⟨w.heap.size, 0, none⟩ = some (.slice (some ⟨rb, ro, none⟩) L cc) := by rw [← hwB]; simp [go_sem]
  have p1 : wB.cell? ⟨w.heap.size, 1, none⟩ = some (.slice ap N cp) := by rw [← hwB]; simp [go_sem]
  have cR := cell_below cR hbB
  have hplB : Hid (PlanR wB bp pl) := Lib.hid (hpl0.out.same (hbB.block bp hsp))
  have hmB : Hid (MB wB bt nt tr) := Lib.hid (hm0.out.below hst hbB)
  have hTB : Hid (Two bp bt w wB) := Lib.hid (Two.of hbB)
  have hs1 : w.heap.size ≠ bp := by omega
  have hs2 : w.heap.size ≠ bt := by omega
  clear hpl0 hm0 hbB
  go_enter Try.func64, Try.ntmps64
  go_wp2_with fail
  go_loopw [19] (fun v wr => ∃ (k nk : Nat) (q : List Int) (t : Int → Bool), k ≤ l.length ∧ v = .int .i64 k ∧ Hid (q.length = L) ∧ Hid (PlanR wr bp q) ∧ Hid (MB wr bt nk t) ∧ Hid (untr t N < d + 1) ∧ Hid (nk + untr t N ≤ nt + untr tr N) ∧ Hid (Two bp bt w wr) ∧ wr.cell? ⟨w.heap.size, 0, none⟩ = some (.slice (some ⟨rb, ro, none⟩) L cc) ∧ wr.cell? ⟨w.heap.size, 1, none⟩ = some (.slice ap N cp) ∧ Hid (RES = plcL V job (l.drop k) q t)) (fun v _ => l.length - (intOf v).toNat)
  case atStart => exact ⟨0, nt, pl, tr, Nat.zero_le _, rfl, hlen, hplB, hmB, hun, Lib.hid (Nat.le_refl _), hTB, p0, p1, hD0⟩
  case round =>
    obtain ⟨k, nk, q, t, hk, rfl, hq, HPl, HM, hut, hnk, HT, p0, p1, hR⟩ := hrel
    clear hwB cR hplB hmB hTB hD0
    by_cases hlt : k < l.length
    · obtain ⟨rfl, hlb, cl⟩ := hLc.out k hlt
      have cl := HT.out.cell cl (by omega) (by omega)
      obtain ⟨m, hm, hmN⟩ := hEn.out k hlt
      have hS := Lib.hid (hR.out.trans (hD.out k q t hlt))
      rw [hm] at hS cl
      have hS := Lib.hid hS.out
      clear hm hR hD hDE hEn hLc
      have hlk := HM.out.look (t := 84) underI underMB underB (zeroB _) m (wf64 (by omega) (by omega))
      have hz0 := block_lt p0
      have hz9 : bp < wr.heap.size := Nat.lt_of_lt_of_le hsp HT.out.size
      have hzt9 := HM.out.lt
      cases htm : t m with
      | true =>
        rw [htm] at hlk
        have hS := Lib.hid (hS.out.trans (if_pos htm))
        clear htm HV hKp
        go_wp2_with fail
        go_roundw
        case rel => exact ⟨k + 1, nk, q, t, by omega, by go_num, hq, HPl, HM, hut, hnk, HT, p0, p1, hS⟩
        case measure => simp [intOf]; omega
      | false =>
        rw [htm] at hlk
        have hS := Lib.hid (hS.out.trans (if_neg (by rw [htm]; decide)))
        have hset := untr_set htm N hmN
        have hmono := Lib.hid (Nat.le_trans (Nat.add_le_add_left (Nat.le_refl _) _) hnk.out)
        clear htm hmono
        have hut' := hut.out
        have hroom' := hroom.out
        have hnk' := hnk.out
        have hM := HM.out
        have HVk : Hid (∀ w3, wr.grownBy w3 (some bt) → MB w3 bt (nk + 1) (setAt t m true) → Calls Try.prog 76 #[.agg #[.slice (some ⟨rb, ro, none⟩) L cc, .slice ap N cp], .slice (some ⟨bp, 0, none⟩) L cap, .int .i64 m, .int .i64 fr, .map (some bt)] w3 fun e w' => PlE bp bt (nk + 1) N w3 (setAt t m true) (V m q (setAt t m true)) e w') :=
          Lib.hid fun w3 hg hm3 => HV.out w3 (nk + 1) m q (setAt t m true) (HT.out.trans (Two.grown hg)) hq.out (HPl.out.same (hg.block bp hz9 (fun e => hne (by cases e; rfl)))) hm3 (by omega) (by omega) hmN
        have hKk := Lib.hid (hKp.out m q (setAt t m true))
        have hnx : Hid (nk + 1 + untr (setAt t m true) N ≤ nt + untr tr N) := Lib.hid (by omega)
        have hux : Hid (untr (setAt t m true) N < d + 1) := Lib.hid (by omega)
        have hnk9 : nk < maxLen := by unfold maxLen; omega
        clear HV hKp hset hut' hroom' hnk' hut hnk
        generalize hst0 : setAt t m true = t0 at *
        have hst0 := Lib.hid hst0
        generalize V m q t0 = r at *
        obtain ⟨b, q1, t1⟩ := r
        have hq1 : Hid (q1.length = L) := Lib.hid (hKk.out.1.trans hq.out)
        have hu1 : Hid (untr t1 N < d + 1) := Lib.hid (Nat.lt_of_le_of_lt hKk.out.2 hux.out)
        clear hKk hux
        go_wp2_with (first | (at_mapUpdate; refine wpList_putB _ rfl _ _ _ 84 rfl 3 4 _ _ _ rfl hM underI underMB underB _ _ rfl rfl (wf64 (by omega) (by omega)) hnk9 ?_; intro w3 hM3 hg3; have hT3 : Two bp bt wr w3 := Two.grown hg3; have p0 := hT3.cell p0 hs1 hs2; have p1 := hT3.cell p1 hs1 hs2))
        have hM3 : MB w3 bt (nk + 1) t0 := by rw [← hst0.out]; exact hM3
        have hHV := Lib.hid (HVk.out w3 hg3 hM3)
        clear HVk hM hlk hg3 hM3 cl
        cases b with
        | true =>
          have hS : Hid (RES = (true, q1.set job m, t1)) := Lib.hid (hS.out.trans (if_pos rfl))
          go_wp2_with fail
          refine hHV.out.mono ?_
          rintro e w5 ⟨rfl, h5, ⟨n5, h6, h7⟩, h8⟩
          have hjq : job < q1.length := by rw [hq1.out]; exact hj
          have cj := h5.1 job hjq
          have fj := h5.2 job hjq
          have h5s := Lib.hid (h5.store hjq (m : Int))
          have h6s := Lib.hid (h6.setCell (a := ⟨bp, job, none⟩) (fun e => hne e.symm) (.int .i64 m))
          have h8s := Lib.hid (((HT.out.trans hT3).trans h8).trans (Two.set w5 job (.int .i64 m)))
          have h7 := Lib.hid h7
          clear h5 h6 h8 hHV hjq
          go_wp2_with fail
          go_ret
          refine plE_of hS.out ⟨rfl, h5s.out, ⟨n5, h6s.out, Nat.le_trans h7.out hnx.out⟩, h8s.out⟩
        | false =>
          have hS : Hid (RES = plcL V job (l.drop (k + 1)) q1 t1) := Lib.hid (hS.out.trans (if_neg (by simp)))
          go_wp2_with fail
          refine hHV.out.mono ?_
          rintro e w5 ⟨rfl, h5, ⟨n5, h6, h7⟩, h8⟩
          have H5 := Lib.hid h5
          have H6 := Lib.hid h6
          have H7 := Lib.hid (Nat.le_trans h7 hnx.out)
          have H8 := Lib.hid ((HT.out.trans hT3).trans h8)
          have p0 := h8.cell p0 hs1 hs2
          have p1 := h8.cell p1 hs1 hs2
          clear h5 h6 h7 h8 hHV HPl HM HT
          go_wp2_with fail
          go_roundw
          case rel => exact ⟨k + 1, n5, q1, t1, by omega, by go_num, hq1, H5, H6, hu1, H7, H8, p0, p1, hS⟩
          case measure => simp [intOf]; omega
    · obtain rfl : k = l.length := by omega
      have hS := Lib.hid (hR.out.trans (hDE.out q t))
      clear hR hD hDE hEn hLc HV hKp
      go_wp2_with fail
      go_ret
      refine plE_of hS.out ⟨rfl, HPl.out, ⟨nk, HM.out, hnk.out⟩, HT.out⟩
/-- place does so at every depth. -/
theorem place_all : ∀ d, PlaceC d
  | 0 => fun w0 w C P ac ap cc cp L N bp bt nt cap pl tr fr job h _ _ => absurd h.un (Nat.not_lt_zero _)
  | d + 1 => place_v (place_all d)
end Go.Proofs.Ytghlhjiomebmhaa
