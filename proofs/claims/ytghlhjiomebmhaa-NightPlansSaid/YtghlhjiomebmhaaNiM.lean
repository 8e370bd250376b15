/-
  least of package night. By an AI agent.
-/
import Derived.Test.YtghlhjiomebmhaaNiL
import Derived.Deep.RegionHeld3
import Derived.BigQuiet
import Derived.Carry
namespace Go.Proofs.Ytghlhjiomebmhaa
set_option linter.unusedVariables false
set_option linter.unusedSimpArgs false
open Go.RowKit

def noT : Int → Bool := fun _ => false
theorem untr_noT : ∀ N, untr noT N = N
  | 0 => rfl
  | k + 1 => by unfold untr; rw [untr_noT k]; simp [noT]
/-- The first k jobs are placed, one after the other. -/
def grtK (C : List (List Int)) (P : List Int) (D : Nat) : Nat → List Int → List Int
  | 0, p => p
  | k + 1, p => (plF C P 0 D k (grtK C P D k p) noT).2.1
/-- The first k jobs are taken out and placed anew, one after the other. -/
def lstK (C : List (List Int)) (P : List Int) (D : Nat) : Nat → List Int → List Int
  | 0, p => p
  | k + 1, p => (plF C P (k + 1) D k ((lstK C P D k p).set k (-1)) noT).2.1
theorem grtK_len (C : List (List Int)) (P : List Int) (D : Nat) (p : List Int) : ∀ k, (grtK C P D k p).length = p.length
  | 0 => rfl
  | k + 1 => ((plF_keeps C P 0 D k _ _).1).trans (grtK_len C P D p k)
theorem lstK_len (C : List (List Int)) (P : List Int) (D : Nat) (p : List Int) : ∀ k, (lstK C P D k p).length = p.length
  | 0 => rfl
  | k + 1 => ((plF_keeps C P (k + 1) D k _ _).1).trans (by rw [List.length_set]; exact lstK_len C P D p k)
/-- An offer: lists of nights and their places. -/
structure OfS (w : World) (C : List (List Int)) (P : List Int) (ac ap : Option Addr) (L N : Nat) : Prop where
  rows : RowsS w ac C
  ints : IntsS w ap P
  cl : C.length = L
  pn : P.length = N
  small : L ≤ 1000
  smallN : N ≤ 1000
  ent : ∀ i, i < L → ∀ j, j < (gr C i).length → ∃ m : Nat, gi (gr C i) j = m ∧ m < N
  wid : ∀ i, i < L → (gr C i).length ≤ N
theorem OfS.below {w w' : World} {C : List (List Int)} {P : List Int} {ac ap : Option Addr} {L N : Nat} (h : OfS w C P ac ap L N) (hb : Below w.heap.size w w') : OfS w' C P ac ap L N :=
  ⟨h.rows.below hb, h.ints.below hb, h.cl, h.pn, h.small, h.smallN, h.ent, h.wid⟩
theorem OfS.place {w wr : World} {C : List (List Int)} {P : List Int} {ac ap : Option Addr} {L N : Nat} (h : OfS w C P ac ap L N) (cc cp cap g fr k : Nat) (q : List Int) (hb : Below w.heap.size w wr) (hg : w.heap.size ≤ g) (hgw : g < wr.heap.size) (hq : q.length = L) (hP : PlanR wr g q) (hk : k < L) (hfr : fr ≤ L) :
    Calls Try.prog 64 #[.agg #[.slice ac L cc, .slice ap N cp], .slice (some ⟨g, 0, none⟩) L cap, .int .i64 k, .int .i64 fr, .map (some wr.heap.size)] (wr.alloc (.map #[] 0)) fun e w' => PlE g wr.heap.size 0 N (wr.alloc (.map #[] 0)) noT (plF C P fr (N + 1) k q noT) e w' :=
  place_all (N + 1) w (wr.alloc (.map #[] 0)) C P ac ap cc cp L N g wr.heap.size 0 cap q noT fr k
    ⟨h.rows, h.ints, hb.alloc hb.size _, hg, hb.size, by omega, by simp; omega, h.cl, h.pn, hq, hP.same (Below.heap_alloc _ _ _ hgw), MapB.made _ _ _ _, by rw [untr_noT]; omega, by rw [untr_noT]; have := h.smallN; omega, h.small, h.smallN, h.ent⟩ hk hfr
set_option maxRecDepth 100000 in
set_option maxHeartbeats 2000000 in
theorem least_r (C : List (List Int)) (P : List Int) (ac ap : Option Addr) (cc cp L N : Nat) (w : World) (h : OfS w C P ac ap L N) (a : Addr) (q : List Int) (cq : Nat) (hA : IntsC w (some a) q) (hq : q.length = L) :
    Calls Try.prog 45 #[.agg #[.slice ac L cc, .slice ap N cp], .slice (some a) L cq] w fun e w' => PlnE w (lstK C P (N + 1) L q) e w' := by
  obtain ⟨wB, hwB⟩ : ∃ wB, w.alloc (.cells #[.slice ac L cc, .slice ap N cp] 64) = wB := ⟨_, rfl⟩
  have hbB : Below w.heap.size w wB := by rw [← hwB]; exact (Below.refl _ _).alloc (Nat.le_refl _) _
  have p0 : wB.cell? ⟨w.heap.size, 0, none⟩ = some (.slice ac L cc) := by rw [← hwB]; simp [go_sem]
  have p1 : wB.cell? ⟨w.heap.size, 1, none⟩ = some (.slice ap N cp) := by rw [← hwB]; simp [go_sem]
  have hsm := h.small
  have HCl := Lib.hid (clone_p a q cq wB (hA.below hbB) (by omega))
  have HN : Hid (∀ k, (lstK C P (N + 1) k q).length = L) := Lib.hid fun k => (lstK_len C P (N + 1) q k).trans hq
  have HS : Hid (∀ k, lstK C P (N + 1) (k + 1) q = (plF C P (k + 1) (N + 1) k ((lstK C P (N + 1) k q).set k (-1)) noT).2.1) := Lib.hid fun k => rfl
  have H0 : Hid (lstK C P (N + 1) 0 q = q) := Lib.hid rfl
  have HO := Lib.hid h
  rw [hq] at HCl
  have hmm := @run_makeMap Try.prog
  have hqh := Lib.hid hq
  clear hA h hq
  go_enter Try.func45, Try.ntmps45
  go_wp2_with fail
  refine HCl.out.mono ?_
  rintro e wo ⟨g, cg, rfl, hpo, hg1, hg2, hbo⟩
  have hpo := Lib.hid hpo
  have p0 := cell_below p0 hbo
  have p1 := cell_below p1 hbo
  have hz := block_lt p0
  have hgb : w.heap.size < wB.heap.size := by rw [← hwB]; simp
  have hb := Lib.hid (below_onN hbB hbo hbB.size)
  rw [hqh.out]
  clear HCl hwB hbB hbo
  go_wp2_with fail
  go_loopw [11] (fun i wr => ∃ k : Nat, k ≤ L ∧ i = .int .i64 k ∧ Hid (PlanR wr g (lstK C P (N + 1) k q)) ∧ Hid (Below w.heap.size w wr) ∧ g < wr.heap.size ∧ wr.cell? ⟨w.heap.size, 0, none⟩ = some (.slice ac L cc) ∧ wr.cell? ⟨w.heap.size, 1, none⟩ = some (.slice ap N cp)) (fun i _ => L - (intOf i).toNat)
  case atStart => exact ⟨0, Nat.zero_le _, rfl, by rw [H0.out]; exact hpo, hb, hg2, p0, p1⟩
  case round =>
    obtain ⟨k, hk, rfl, HP, hb, hgw, p0, p1⟩ := hrel
    clear hpo hg2 hz
    by_cases hlt : k < L
    · have hSk := Lib.hid (HS.out k)
      have hNk := Lib.hid (HN.out k)
      clear HS HN H0
      generalize lstK C P (N + 1) k q = s at *
      have hks : k < s.length := by rw [hNk.out]; exact hlt
      have cgk := HP.out.1 k hks
      have fg := HP.out.2 k hks
      have hgs : g ≠ w.heap.size := by omega
      obtain ⟨wA, hwA⟩ : ∃ wA, wr.setCell ⟨g, k, none⟩ (.int .i64 (-1)) = wA := ⟨_, rfl⟩
      have hP2 : Hid (PlanR wA g (s.set k (-1))) := Lib.hid (by rw [← hwA]; exact HP.out.store hks (-1))
      have hb2 : Hid (Below w.heap.size w wA) := Lib.hid (by rw [← hwA]; exact hb.out.setCell (p := ⟨g, k, none⟩) (show w.heap.size ≤ g by omega) _)
      have hgA : g < wA.heap.size := by rw [← hwA]; simpa using hgw
      have p0 : wA.cell? ⟨w.heap.size, 0, none⟩ = some (.slice ac L cc) := by rw [← hwA]; exact (World.cell?_setCell_far _ _ _ _ (fun e => hgs e)).trans p0
      have p1 : wA.cell? ⟨w.heap.size, 1, none⟩ = some (.slice ap N cp) := by rw [← hwA]; exact (World.cell?_setCell_far _ _ _ _ (fun e => hgs e)).trans p1
      have HPl := Lib.hid (HO.out.place cc cp cg g (k + 1) k (s.set k (-1)) hb2.out (by omega) hgA (by rw [List.length_set]; exact hNk.out) hP2.out hlt (by omega))
      have hk1 : (((k + 1 : Nat) : Int)) = (k : Int) + 1 := by omega
      rw [hk1] at HPl
      have hkb : IntKind.i64.wrap ((k : Int) + 1) = (k : Int) + 1 := IntWalk.i64_in _ (by omega)
      generalize plF C P (k + 1) (N + 1) k (s.set k (-1)) noT = r at *
      clear hk1 hks hP2 HP hNk
      go_wp2_with fail
      refine HPl.out.mono ?_
      rintro e w5 ⟨rfl, h5, -, h8⟩
      have hz0 := block_lt p0
      have p0 := h8.cell (cell_below p0 ((Below.refl wA.heap.size wA).alloc (Nat.le_refl _) (.map #[] 0))) (fun e => hgs e.symm) (by omega)
      have p1 := h8.cell (cell_below p1 ((Below.refl wA.heap.size wA).alloc (Nat.le_refl _) (.map #[] 0))) (fun e => hgs e.symm) (by omega)
      have hbs := hb2.out.size
      have hb5 : Hid (Below w.heap.size w w5) := Lib.hid ((hb2.out.alloc hbs _).trans (h8.below (by omega) (by omega) (by simp; omega)))
      have hg5 : g < w5.heap.size := Nat.lt_of_lt_of_le (by simp; omega) h8.size
      have h5 := Lib.hid h5
      clear h8 HPl hwA hgA
      go_wp2_with fail
      go_roundw
      case rel => exact ⟨k + 1, by omega, by go_num, by rw [hSk.out]; exact h5, hb5, hg5, p0, p1⟩
      case measure => simp [intOf]; omega
    · obtain rfl : k = L := by omega
      go_wp2_with fail
      go_ret
      exact ⟨g, cg, by rw [HN.out]; rfl, HP.out, by omega, hgw, hb.out⟩
end Go.Proofs.Ytghlhjiomebmhaa
