/-
  Best of package night. By an AI agent.
-/
import Derived.Test.YtghlhjiomebmhaaMgNightTours9
import Derived.Deep.RegionHeld3

namespace Go.Proofs.Ytghlhjiomebmhaa
set_option linter.unusedVariables false
set_option linter.unusedSimpArgs false
open Go.RowKit

set_option maxRecDepth 100000 in
set_option maxHeartbeats 2000000 in
theorem best_bad (a : Option Addr) (js : List Jo) (ca : Nat) (b : Option Addr) (ns : List Ni) (cb : Nat) (w : World) (hA : JobsS w a js) (hB : NightsS w b ns) (he : errL js ns ≠ 0) :
    Calls Try.prog 20 #[.slice a js.length ca, .slice b ns.length cb] w fun e w' => e = .returned (.tuple #[.slice none 0 0, .int .i64 (errL js ns)]) ∧ Below w.heap.size w w' := by
  have H1 := Lib.hid (listsError_r a js ca b ns cb w hA hB)
  clear hA hB
  generalize errL js ns = E at *
  have hE : (E == 0) = false := beq_false_of_ne he
  clear he
  go_enter Try.func20, Try.ntmps20
  go_wp2_with fail
  refine H1.out.mono ?_
  rintro e w1 ⟨rfl, hb1⟩
  go_wp2_with fail
  go_ret2
  exact ⟨rfl, hb1⟩
/-- A plan and no error come back. -/
def BstE (w : World) (l : List Int) (e : Ending) (w' : World) : Prop :=
  ∃ g c, e = .returned (.tuple #[.slice (some ⟨g, 0, none⟩) l.length c, .int .i64 0]) ∧ PlanR w' g l ∧ w.heap.size ≤ g ∧ g < w'.heap.size ∧ Below w.heap.size w w'
theorem bestL_len (js : List Jo) (ns : List Ni) : (bestL js ns).length = js.length := by unfold bestL; rw [rplK_len, lstK_len, rplK_len, grtL_len]
set_option maxRecDepth 100000 in
set_option maxHeartbeats 8000000 in
theorem best_ok (a : Option Addr) (js : List Jo) (ca : Nat) (b : Option Addr) (ns : List Ni) (cb : Nat) (w : World) (hA : JobsS w a js) (hB : NightsS w b ns) (he : errL js ns = 0) :
    Calls Try.prog 20 #[.slice a js.length ca, .slice b ns.length cb] w fun e w' => BstE w (bestL js ns) e w' := by
  obtain ⟨v1, v2⟩ := errL_ok he
  have hj := jobsB_len v1
  have hn := nightsB_len v2
  have H1 := Lib.hid (listsError_r a js ca b ns cb w hA hB)
  have H2 := Lib.hid (fun W (hW : Below w.heap.size w W) => offerOf_r a js ca b ns cb W (hA.below hW) (hB.below hW) (by omega) (by omega) (fun i hi => by have := nightB_p (nightsB_ok v2 hi); exact ⟨by omega, by omega⟩))
  have hGL := Lib.hid (grtL_len js ns)
  have hG : Hid (grtK (chL js ns) (psL ns) (ns.length + 1) js.length (List.replicate js.length (-1)) = grtL js ns) := Lib.hid rfl
  have hM : Hid (dnN (grtL js ns) = mostN js ns) := Lib.hid rfl
  have hMb := dnN_b (grtL js ns)
  rw [hM.out, hGL.out] at hMb
  obtain ⟨hM0, hM1⟩ := hMb
  have hR1 : Hid ((rplK (grtL js ns) (-1) ns.length js.length).length = js.length) := Lib.hid (by rw [rplK_len]; exact hGL.out)
  have hR2 : Hid ((lstK (furL (chL js ns) ns.length) (psL ns ++ [(js.length : Int) - mostN js ns]) (ns.length + 1 + 1) js.length (rplK (grtL js ns) (-1) ns.length js.length)).length = js.length) := Lib.hid (by rw [lstK_len, rplK_len]; exact hGL.out)
  have hBL := Lib.hid (bestL_len js ns)
  have hBD : Hid (bestL js ns = rplK (lstK (furL (chL js ns) ns.length) (psL ns ++ [(js.length : Int) - mostN js ns]) (ns.length + 1 + 1) js.length (rplK (grtL js ns) (-1) ns.length js.length)) ns.length (-1) js.length) := Lib.hid rfl
  rw [he] at H1
  clear hA hB he v1 v2
  generalize bestL js ns = BL at *
  go_enter Try.func20, Try.ntmps20
  go_wp2_with fail
  refine H1.out.mono ?_
  rintro e w1 ⟨rfl, hb1⟩
  go_wp2_with fail
  refine (H2.out _ hb1).mono ?_
  rintro e w2 ⟨ac, cc, ap, cp, rfl, hO, hb2⟩
  have hbA := below_onN hb1 hb2 hb1.size
  obtain ⟨wB, hwB⟩ : ∃ wB, w2.alloc (.cells #[.slice ac js.length cc, .slice ap ns.length cp] 64) = wB := ⟨_, rfl⟩
  have hbB : Below w2.heap.size w2 wB := by rw [← hwB]; exact (Below.refl _ _).alloc (Nat.le_refl _) _
  have p0 : wB.cell? ⟨w2.heap.size, 0, none⟩ = some (.slice ac js.length cc) := by rw [← hwB]; simp [go_sem]
  have p1 : wB.cell? ⟨w2.heap.size, 1, none⟩ = some (.slice ap ns.length cp) := by rw [← hwB]; simp [go_sem]
  have hO := hO.below hbB
  have H3 := Lib.hid (greatest_r _ _ ac ap cc cp _ _ wB hO)
  rw [hG.out] at H3
  have hbA := Lib.hid (below_onN hbA hbB hbA.size)
  clear H1 H2 hb1 hb2
  go_wp2_with fail
  refine H3.out.mono ?_
  rintro e w3 ⟨g, cg, rfl, hP, hg1, hg2, hb3⟩
  have hO := hO.below hb3
  have p0 := cell_below p0 hb3
  have p1 := cell_below p1 hb3
  have hz := block_lt p0
  have hPi : IntsC w3 (some ⟨g, 0, none⟩) (grtL js ns) := hP.ints (by rw [hGL.out]; omega)
  have hb := Lib.hid (below_onN hbA.out hb3 hbA.out.size)
  clear H3 hP hb3 hbB hwB hbA hg1 hg2
  have HDn := Lib.hid (fun W (hW : Below w3.heap.size w3 W) => done_r (some ⟨g, 0, none⟩) (grtL js ns) cg W (hPi.below hW) (by rw [hGL.out]; omega))
  have HFu := Lib.hid (fun W (hW : Below w3.heap.size w3 W) => further_r _ _ ac ap cc cp _ _ ((js.length : Int) - mostN js ns) W (hO.below hW) (by omega) ⟨by omega, by omega⟩)
  have HRp := Lib.hid (fun W (hW : Below w3.heap.size w3 W) => replaced_r ⟨g, 0, none⟩ (grtL js ns) cg (-1) ns.length W (hPi.below hW) (by rw [hGL.out]; omega))
  rw [hM.out] at HDn
  rw [hGL.out] at HDn HRp
  have HLs := Lib.hid (fun (W : World) (ac ap : Option Addr) (cc cp : Nat) (h1 : OfS W (furL (chL js ns) ns.length) (psL ns ++ [(js.length : Int) - mostN js ns]) ac ap js.length (ns.length + 1)) (g c : Nat) (h2 : PlanR W g (rplK (grtL js ns) (-1) ns.length js.length)) =>
    least_r _ _ ac ap cc cp _ _ W h1 ⟨g, 0, none⟩ (rplK (grtL js ns) (-1) ns.length js.length) c (h2.ints (by rw [hR1.out]; omega)) hR1.out)
  clear hO hPi
  rw [hGL.out]
  generalize furL (chL js ns) ns.length = C2 at *
  generalize hP2 : psL ns ++ [(js.length : Int) - mostN js ns] = P2 at *
  generalize rplK (grtL js ns) (-1) ns.length js.length = R1 at *
  generalize lstK C2 P2 (ns.length + 1 + 1) js.length R1 = L2 at *
  have hws : IntKind.i64.wrap ((js.length : Int) - mostN js ns) = js.length - mostN js ns := IntWalk.i64_in _ (by omega)
  generalize hMM : mostN js ns = M at *
  clear hMM hP2
  have hB : Below w3.heap.size w3 w3 := Below.refl _ _
  have hFo : True := trivial
  go_wp2_with fail
  go_region_held3 (fun w' => w'.cell? ⟨w2.heap.size, 0, none⟩ = some (.slice ac js.length cc) ∧ w'.cell? ⟨w2.heap.size, 1, none⟩ = some (.slice ap ns.length cp)) (go_keep)
    (first
      | (go_at_call 32
         refine (HDn.out _ (by first | exact hB | exact hB.drew)).mono ?_
         rintro E w9 ⟨rfl, hb9⟩
         have p0 := (hb9.cell (p := ⟨w2.heap.size, 0, none⟩) (Nat.lt_of_lt_of_le hz (by first | exact hB.size | exact hB.drew.size))).trans p0
         have p1 := (hb9.cell (p := ⟨w2.heap.size, 1, none⟩) (Nat.lt_of_lt_of_le hz (by first | exact hB.size | exact hB.drew.size))).trans p1
         try have hRP : PlanR w9 gR R1 := hRP.same (hb9.block gR hgR)
         try have hgR : gR < w9.heap.size := Nat.lt_of_lt_of_le hgR hb9.size
         have hB : Below w3.heap.size w3 w9 := by first | exact hB.trans (hb9.mono hB.size) | exact hB.drew.trans (hb9.mono hB.drew.size))
      | (go_at_call 44
         refine (HFu.out _ (by first | exact hB | exact hB.drew)).mono ?_
         rintro E w9 ⟨aF, cF, aF2, cF2, rfl, hOF, hb9⟩
         have p0 := (hb9.cell (p := ⟨w2.heap.size, 0, none⟩) (Nat.lt_of_lt_of_le hz (by first | exact hB.size | exact hB.drew.size))).trans p0
         have p1 := (hb9.cell (p := ⟨w2.heap.size, 1, none⟩) (Nat.lt_of_lt_of_le hz (by first | exact hB.size | exact hB.drew.size))).trans p1
         try have hRP : PlanR w9 gR R1 := hRP.same (hb9.block gR hgR)
         try have hgR : gR < w9.heap.size := Nat.lt_of_lt_of_le hgR hb9.size
         have hB : Below w3.heap.size w3 w9 := by first | exact hB.trans (hb9.mono hB.size) | exact hB.drew.trans (hb9.mono hB.drew.size))
      | (go_at_call 46
         refine (HRp.out _ (by first | exact hB | exact hB.drew)).mono ?_
         rintro E w9 ⟨gR, cR, rfl, hRP, hgR1, hgR, hb9⟩
         have p0 := (hb9.cell (p := ⟨w2.heap.size, 0, none⟩) (Nat.lt_of_lt_of_le hz (by first | exact hB.size | exact hB.drew.size))).trans p0
         have p1 := (hb9.cell (p := ⟨w2.heap.size, 1, none⟩) (Nat.lt_of_lt_of_le hz (by first | exact hB.size | exact hB.drew.size))).trans p1
         try have hOF := hOF.below hb9
         have hB : Below w3.heap.size w3 w9 := by first | exact hB.trans (hb9.mono hB.size) | exact hB.drew.trans (hb9.mono hB.drew.size))
      | (go_at_call 45
         rw [hR1.out]
         refine (HLs.out _ aF aF2 cF cF2 (by first | exact hOF | exact hOF.below (Below.refl _ _).drew) gR cR (by first | exact hRP | exact hRP.same rfl)).mono ?_
         rintro E w9 ⟨gL, cL, rfl, hLP, hgL1, hgL, hb9⟩
         have hgL3 : w3.heap.size ≤ gL := by first | exact Nat.le_trans hB.size hgL1 | exact Nat.le_trans hB.drew.size hgL1
         have p0 := (hb9.cell (p := ⟨w2.heap.size, 0, none⟩) (Nat.lt_of_lt_of_le hz (by first | exact hB.size | exact hB.drew.size))).trans p0
         have p1 := (hb9.cell (p := ⟨w2.heap.size, 1, none⟩) (Nat.lt_of_lt_of_le hz (by first | exact hB.size | exact hB.drew.size))).trans p1
         have hB : Below w3.heap.size w3 w9 := by first | exact hB.trans (hb9.mono hB.size) | exact hB.drew.trans (hb9.mono hB.drew.size)))
  all_goals
    have hLP2 : Hid (PlanR w9 gL L2) := Lib.hid hLP
    have hbf := Lib.hid (below_onN hb.out hB hb.out.size)
    have hgf : w.heap.size ≤ gL := by have := hb.out.size; omega
    have HZ := Lib.hid (fun W (hW : PlanR W gL L2) => replaced_r ⟨gL, 0, none⟩ L2 cL ns.length (-1) W (hW.ints (by rw [hR2.out]; omega)) (by rw [hR2.out]; omega))
    rw [hR2.out] at HZ
    rw [← hBD.out] at HZ
    rw [hR2.out]
    clear HDn HFu HRp HLs hRP hOF hLP
    go_wp2_with fail
    refine (HZ.out _ (by first | exact hLP2.out | exact hLP2.out.same rfl)).mono ?_
    rintro e wf ⟨gZ, cZ, rfl, hZ, hz1, hz2, hbz⟩
    go_wp2_with fail
    go_ret2
    have hfin : Below w.heap.size w wf := by first | exact below_onN hbf.out hbz hbf.out.size | exact below_onN hbf.out.drew hbz hbf.out.drew.size
    exact ⟨gZ, cZ, rfl, hZ, by have := hbf.out.size; first | omega | (simp at hz1; omega), hz2, hfin⟩
end Go.Proofs.Ytghlhjiomebmhaa
