/-
  vacate of package night: what it returns and leaves, if place does so one level deeper. By an AI agent.
-/
import Derived.Test.YtghlhjiomebmhaaNiG
import Derived.Deep.RegionHeld3
import Derived.BigQuiet
namespace Go.Proofs.Ytghlhjiomebmhaa
set_option linter.unusedVariables false
set_option linter.unusedSimpArgs false
open Go.RowKit

abbrev MB (w : World) (b n : Nat) (f : Int → Bool) : Prop := MapB Try.prog 3 4 w b n f
/-- What a search comes back with. -/
def PlE (bp bt nt N : Nat) (w : World) (tr : Int → Bool) (r : Srch) (e : Ending) (w' : World) : Prop :=
  e = .returned (.bool r.1) ∧ PlanR w' bp r.2.1 ∧ (∃ nt', MB w' bt nt' r.2.2 ∧ nt' + untr r.2.2 N ≤ nt + untr tr N) ∧ Two bp bt w w'
theorem plE_of {bp bt nt N : Nat} {w : World} {tr : Int → Bool} {r r' : Srch} {e : Ending} {w' : World} (h : r' = r) (g : PlE bp bt nt N w tr r e w') : PlE bp bt nt N w tr r' e w' := by rw [h]; exact g
/-- What a search asks of memory: the offer lies below the plan and the map, which lie apart. -/
structure SrP (w0 w : World) (C : List (List Int)) (P : List Int) (ac ap : Option Addr) (L N bp bt nt : Nat) (pl : List Int) (tr : Int → Bool) (d : Nat) : Prop where
  rows : RowsS w0 ac C
  ints : IntsS w0 ap P
  bel : Below w0.heap.size w0 w
  lp : w0.heap.size ≤ bp
  lt : w0.heap.size ≤ bt
  ne : bp ≠ bt
  sp : bp < w.heap.size
  cl : C.length = L
  pn : P.length = N
  len : pl.length = L
  plan : PlanR w bp pl
  map : MB w bt nt tr
  un : untr tr N < d
  room : nt + untr tr N ≤ 100000
  small : L ≤ 1000
  smallN : N ≤ 1000
  ent : ∀ i, i < L → ∀ j, j < (gr C i).length → ∃ m : Nat, gi (gr C i) j = m ∧ m < N
/-- place does what the search over lists does. -/
def PlaceC (d : Nat) : Prop := ∀ (w0 w : World) (C : List (List Int)) (P : List Int) (ac ap : Option Addr) (cc cp L N bp bt nt cap : Nat) (pl : List Int) (tr : Int → Bool) (fr job : Nat),
  SrP w0 w C P ac ap L N bp bt nt pl tr d → job < L → fr ≤ L →
  Calls Try.prog 64 #[.agg #[.slice ac L cc, .slice ap N cp], .slice (some ⟨bp, 0, none⟩) L cap, .int .i64 job, .int .i64 fr, .map (some bt)] w fun e w' => PlE bp bt nt N w tr (plF C P fr d job pl tr) e w'

set_option maxRecDepth 100000 in
set_option maxHeartbeats 4000000 in
theorem vacate_v {d : Nat} (IH : PlaceC d) (w0 w : World) (C : List (List Int)) (P : List Int) (ac ap : Option Addr) (cc cp L N bp bt nt cap : Nat) (pl : List Int) (tr : Int → Bool) (fr n : Nat)
    (h : SrP w0 w C P ac ap L N bp bt nt pl tr d) (hn : n < N) (hfr : fr ≤ L) :
    Calls Try.prog 76 #[.agg #[.slice ac L cc, .slice ap N cp], .slice (some ⟨bp, 0, none⟩) L cap, .int .i64 n, .int .i64 fr, .map (some bt)] w fun e w' => PlE bp bt nt N w tr (vacF (plF C P fr d) P fr n pl tr) e w' := by
  have HIH := Lib.hid IH
  have H := Lib.hid h
  have hKp : Hid (∀ k pl tr, ((plF C P fr d) k pl tr).2.1.length = pl.length ∧ untr ((plF C P fr d) k pl tr).2.2 N ≤ untr tr N) := Lib.hid fun k pl tr => ⟨(plF_keeps C P fr d k pl tr).1, untr_mono (plF_keeps C P fr d k pl tr).2 N⟩
  have HJ : Hid (∀ (w1 : World) (nt1 k : Nat) (pl1 : List Int) (tr1 : Int → Bool), Two bp bt w w1 → pl1.length = L → PlanR w1 bp pl1 → MB w1 bt nt1 tr1 → untr tr1 N < d → nt1 + untr tr1 N ≤ 100000 → k < L →
      Calls Try.prog 64 #[.agg #[.slice ac L cc, .slice ap N cp], .slice (some ⟨bp, 0, none⟩) L cap, .int .i64 k, .int .i64 fr, .map (some bt)] w1 fun e w' => PlE bp bt nt1 N w1 tr1 ((plF C P fr d) k pl1 tr1) e w') :=
    Lib.hid fun w1 nt1 k pl1 tr1 h2 h3 h4 h5 h6 h7 h8 => IH w0 w1 C P ac ap cc cp L N bp bt nt1 cap pl1 tr1 fr k
      ⟨h.rows, h.ints, h.bel.trans (h2.below h.lp h.lt h.bel.size), h.lp, h.lt, h.ne, Nat.lt_of_lt_of_le h.sp h2.size, h.cl, h.pn, h3, h4, h5, h6, h7, h.small, h.smallN, h.ent⟩ h8 hfr
  obtain ⟨hlenP, hb64, pb, po, padr, hpc⟩ := h.ints.below h.bel
  have hPN : n < P.length := by rw [h.pn]; exact hn
  obtain rfl := padr (pos_ne (n := 0) hPN)
  have cP := hpc n hPN
  have hne := h.ne
  have hsp := h.sp
  have hst := h.map.lt
  have hpl0 := h.plan
  have hm0 := h.map
  have hlen := Lib.hid h.len
  have hL := h.small
  have hun := h.un
  have hroom := h.room
  have hpb : pb ≠ bp ∧ pb ≠ bt ∧ pb < w.heap.size := by
    obtain ⟨hl1, hb1, pb1, po1, padr1, hpc1⟩ := h.ints
    have e := padr1 (pos_ne (n := 0) hPN)
    obtain ⟨rfl, rfl⟩ : pb = pb1 ∧ po = po1 := by simpa using e
    have := block_lt (hpc1 n hPN)
    have h1 := h.lp
    have h2 := h.lt
    have h3 := h.bel.size
    exact ⟨by omega, by omega, by omega⟩
  obtain ⟨hpb1, hpb2, hpb3⟩ := hpb
  have HC := Lib.hid (fun W (hW : PlanR W bp pl) => count_r (some ⟨bp, 0, none⟩) pl cap n W (hW.ints (by rw [hlen.out]; omega)) (by rw [hlen.out]; omega))
  have hXF : Hid (vacF (plF C P fr d) P fr n pl tr = if cntN pl n < gi P n then (true, pl, tr) else vacL (plF C P fr d) n (L - fr) fr pl tr) := Lib.hid (by unfold vacF; rw [hlen.out, Int.toNat_natCast])
  rw [hlen.out] at HC
  clear IH h H hpc padr hb64 hlenP HIH
  have hSt : Hid (∀ k pl tr, k < L → vacL (plF C P fr d) n (L - k) k pl tr = if gi pl k = n then
      (if ((plF C P fr d) k pl tr).1 = true then (true, ((plF C P fr d) k pl tr).2.1, ((plF C P fr d) k pl tr).2.2) else vacL (plF C P fr d) n (L - (k + 1)) (k + 1) ((plF C P fr d) k pl tr).2.1 ((plF C P fr d) k pl tr).2.2)
    else vacL (plF C P fr d) n (L - (k + 1)) (k + 1) pl tr) := Lib.hid fun k pl tr hk => by rw [show L - k = (L - (k + 1)) + 1 by omega]; rfl
  have hEnd : Hid (∀ pl tr, vacL (plF C P fr d) n (L - L) L pl tr = (false, pl, tr)) := Lib.hid fun pl tr => by rw [Nat.sub_self]; rfl
  generalize vacF (plF C P fr d) P fr n pl tr = RES at *
  generalize plF C P fr d = F at *
  generalize gi P n = pn at *
  obtain ⟨wB, hwB⟩ : ∃ wB, w.alloc (.cells #[.slice ac L cc, .slice (some ⟨pb, po, none⟩) N cp] 64) = wB := ⟨_, rfl⟩
  have hbB : Below w.heap.size w wB := by rw [← hwB]; exact (Below.refl _ _).alloc (Nat.le_refl _) _
  have p0 : wB.cell? ⟨w.heap.size, 0, none⟩ = some (.slice ac L cc) := by rw [← hwB]; simp [go_sem]
  have p1 : wB.cell? ⟨w.heap.size, 1, none⟩ = some (.slice (some ⟨pb, po, none⟩) N cp) := by rw [← hwB]; simp [go_sem]
  have cP := cell_below cP hbB
  have hplB : PlanR wB bp pl := hpl0.same (hbB.block bp hsp)
  have hmB : MB wB bt nt tr := hm0.below hst hbB
  have hTB : Two bp bt w wB := Two.of hbB
  have hn1 : (n : Int) < N := by omega
  have hz0 := block_lt p0
  have hzP := block_lt cP
  have hzp : bp < wB.heap.size := Nat.lt_of_lt_of_le hsp hbB.size
  have hzt := hmB.lt
  clear hpl0 hm0
  generalize hcn : cntN pl n = cn at *
  by_cases hc : cn < pn
  · have hcd : decide (cn < pn) = true := decide_eq_true hc
    have hR : Hid (RES = (true, pl, tr)) := Lib.hid (by rw [hXF.out, if_pos hc])
    clear hXF hSt hEnd hKp HJ hcn
    go_enter Try.func76, Try.ntmps76
    go_wp2_with fail
    go_region_held3 (fun w' => w'.cell? ⟨w.heap.size, 0, none⟩ = some (.slice ac L cc) ∧ w'.cell? ⟨w.heap.size, 1, none⟩ = some (.slice (some ⟨pb, po, none⟩) N cp) ∧ w'.cell? ⟨pb, po + n, none⟩ = some (.int .i64 pn)) (go_keep)
      ((go_at_call 57
        refine (HC.out _ (by first | exact hplB | exact hplB.same rfl)).mono ?_
        rintro E w9 ⟨rfl, hb9⟩
        have p0 := (hb9.cell (p := ⟨w.heap.size, 0, none⟩) hz0).trans p0
        have p1 := (hb9.cell (p := ⟨w.heap.size, 1, none⟩) hz0).trans p1
        have cP := (hb9.cell (p := ⟨pb, po + n, none⟩) hzP).trans cP
        have hplB : PlanR w9 bp pl := hplB.same (hb9.block bp hzp)
        have hmB : MB w9 bt nt tr := hmB.same (hb9.block bt hzt)
        have hTB : Two bp bt w w9 := by first | exact hTB.trans (Two.of hb9) | exact hTB.drew.trans (Two.of hb9)))
    all_goals
      go_wp2_with fail
      go_ret
      refine plE_of hR.out ⟨rfl, by first | exact hplB | exact hplB.same rfl, ⟨nt, by first | exact hmB | exact hmB.drew, Nat.le_refl _⟩, by first | exact hTB | exact hTB.drew⟩
  · have hcd : decide (cn < pn) = false := decide_eq_false hc
    have hR : Hid (RES = vacL F n (L - fr) fr pl tr) := Lib.hid (by rw [hXF.out, if_neg hc])
    clear hXF hcn
    go_enter Try.func76, Try.ntmps76
    go_wp2_with fail
    go_region_held3 (fun w' => w'.cell? ⟨w.heap.size, 0, none⟩ = some (.slice ac L cc) ∧ w'.cell? ⟨w.heap.size, 1, none⟩ = some (.slice (some ⟨pb, po, none⟩) N cp) ∧ w'.cell? ⟨pb, po + n, none⟩ = some (.int .i64 pn)) (go_keep)
      ((go_at_call 57
        refine (HC.out _ (by first | exact hplB | exact hplB.same rfl)).mono ?_
        rintro E w9 ⟨rfl, hb9⟩
        have p0 := (hb9.cell (p := ⟨w.heap.size, 0, none⟩) hz0).trans p0
        have p1 := (hb9.cell (p := ⟨w.heap.size, 1, none⟩) hz0).trans p1
        have cP := (hb9.cell (p := ⟨pb, po + n, none⟩) hzP).trans cP
        have hplB : PlanR w9 bp pl := hplB.same (hb9.block bp hzp)
        have hmB : MB w9 bt nt tr := hmB.same (hb9.block bt hzt)
        have hTB : Two bp bt w w9 := by first | exact hTB.trans (Two.of hb9) | exact hTB.drew.trans (Two.of hb9)))
    all_goals
      obtain ⟨HPl, HM, HT, hd0, hd1, hun', hroom', hLs, hfr'⟩ : Hid (PlanR w9 bp pl) ∧ Hid (MB w9 bt nt tr) ∧ Hid (Two bp bt w w9) ∧ Hid (w9.cell? ⟨w.heap.size, 0, none⟩ = some (.slice ac L cc)) ∧ Hid (w9.cell? ⟨w.heap.size, 1, none⟩ = some (.slice (some ⟨pb, po, none⟩) N cp)) ∧ Hid (untr tr N < d) ∧ Hid (nt + untr tr N ≤ 100000) ∧ Hid (L ≤ 1000) ∧ Hid (fr ≤ L) := ⟨Lib.hid hplB, Lib.hid hmB, Lib.hid hTB, Lib.hid p0, Lib.hid p1, Lib.hid hun, Lib.hid hroom, Lib.hid hL, Lib.hid hfr⟩
      clear HC cP hplB hmB hTB hzP hb9 p0 p1 hun hroom
      have hsz : w.heap.size ≠ bp ∧ w.heap.size ≠ bt := ⟨by omega, by omega⟩
      obtain ⟨hs1, hs2⟩ := hsz
      go_wp2_with fail
      go_loopw [11] (fun v wr => ∃ (k nk : Nat) (q : List Int) (t : Int → Bool), k ≤ L ∧ fr ≤ k ∧ v = .int .i64 k ∧ Hid (q.length = L) ∧ Hid (PlanR wr bp q) ∧ Hid (MB wr bt nk t) ∧ Hid (untr t N < d) ∧ Hid (nk + untr t N ≤ nt + untr tr N) ∧ Hid (Two bp bt w wr) ∧ wr.cell? ⟨w.heap.size, 0, none⟩ = some (.slice ac L cc) ∧ wr.cell? ⟨w.heap.size, 1, none⟩ = some (.slice (some ⟨pb, po, none⟩) N cp) ∧ Hid (RES = vacL F n (L - k) k q t)) (fun v _ => L - (intOf v).toNat)
      case atStart => exact ⟨fr, nt, pl, tr, hfr, Nat.le_refl _, rfl, hlen, by first | exact HPl | exact Lib.hid (HPl.out.same rfl), by first | exact HM | exact Lib.hid HM.out.drew, hun', Lib.hid (Nat.le_refl _), by first | exact HT | exact Lib.hid HT.out.drew, by first | exact hd0.out | rfl, by first | exact hd1.out | rfl, hR⟩
      case round =>
        obtain ⟨k, nk, q, t, hk, hfk, rfl, hq, HPl, HM, hut, hnk, HT, p0, p1, hR⟩ := hrel
        clear hcd
        by_cases hlt : k < L
        · have cq := HPl.out.1 k (by rw [hq.out]; exact hlt)
          have hS := Lib.hid (hR.out.trans (hSt.out k q t hlt))
          have hr := hroom'.out
          have hnk' := hnk.out
          have HCa := Lib.hid (HJ.out wr nk k q t HT.out hq.out HPl.out HM.out hut.out (by omega) hlt)
          have hKk := Lib.hid (hKp.out k q t)
          clear hR hr hnk' HJ hSt hEnd hKp
          generalize gi q k = y at *
          have hk1 : (0 : Int) ≤ k := by omega
          have hk2 : (k : Int) < L := by omega
          by_cases hy : y = n
          · have hyd : (y == (n : Int)) = true := by simpa using hy
            have hS := Lib.hid (hS.out.trans (if_pos hy))
            clear hy
            generalize F k q t = r at *
            obtain ⟨b, q1, t1⟩ := r
            have hz0 := block_lt p0
            have hz9 : bp < wr.heap.size := Nat.lt_of_lt_of_le hsp HT.out.size
            have hzt9 := HM.out.lt
            cases b with
            | true =>
              have hS : Hid (RES = (true, q1, t1)) := Lib.hid (hS.out.trans (if_pos rfl))
              go_wp2_with fail
              refine HCa.out.mono ?_
              rintro e w5 ⟨rfl, h5, ⟨n5, h6, h7⟩, h8⟩
              go_wp2_with fail
              go_ret
              refine plE_of hS.out ⟨rfl, h5, ⟨n5, h6, Nat.le_trans h7 hnk.out⟩, HT.out.trans h8⟩
            | false =>
              have hS : Hid (RES = vacL F n (L - (k + 1)) (k + 1) q1 t1) := Lib.hid (hS.out.trans (if_neg (by simp)))
              go_wp2_with fail
              refine HCa.out.mono ?_
              rintro e w5 ⟨rfl, h5, ⟨n5, h6, h7⟩, h8⟩
              have H5 := Lib.hid h5
              have H6 := Lib.hid h6
              have H7 := Lib.hid (Nat.le_trans h7 hnk.out)
              have H8 := Lib.hid h8
              have p0 := h8.cell p0 hs1 hs2
              have p1 := h8.cell p1 hs1 hs2
              clear h5 h6 h7 h8 HCa HPl HM cq
              have hkk := hKk.out
              have hq1 : Hid (q1.length = L) := Lib.hid (hkk.1.trans hq.out)
              have hu1 : Hid (untr t1 N < d) := Lib.hid (Nat.lt_of_le_of_lt hkk.2 hut.out)
              clear hkk hKk
              go_wp2_with fail
              go_roundw
              case rel => exact ⟨k + 1, n5, q1, t1, by omega, by omega, by go_num, hq1, H5, H6, hu1, H7, Lib.hid (HT.out.trans H8.out), p0, p1, hS⟩
              case measure => simp [intOf]; omega
          · have hyd : (y == (n : Int)) = false := beq_false_of_ne hy
            have hS := Lib.hid (hS.out.trans (if_neg hy))
            clear hy HCa hKk
            go_wp2_with fail
            go_roundw
            case rel => exact ⟨k + 1, nk, q, t, by omega, by omega, by go_num, hq, HPl, HM, hut, hnk, HT, p0, p1, hS⟩
            case measure => simp [intOf]; omega
        · obtain rfl : k = L := by omega
          have hS := Lib.hid (hR.out.trans (hEnd.out q t))
          clear hR HJ hSt hEnd hKp
          go_wp2_with fail
          go_ret
          refine plE_of hS.out ⟨rfl, HPl.out, ⟨nk, HM.out, hnk.out⟩, HT.out⟩
end Go.Proofs.Ytghlhjiomebmhaa
