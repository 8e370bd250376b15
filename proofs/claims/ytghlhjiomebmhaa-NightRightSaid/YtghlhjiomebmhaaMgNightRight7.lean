/-
  offerOf of package night. By an AI agent.
-/
import Derived.Test.YtghlhjiomebmhaaMgNightRight6
import Derived.Deep.RegionHeld3
import Derived.Deep.AppendLies
import Derived.BigQuiet

namespace Go.Proofs.Ytghlhjiomebmhaa
set_option linter.unusedVariables false
set_option linter.unusedSimpArgs false
open Go.RowKit

theorem owns_set {w : World} {base : Nat} {e : TypeId} {size : Nat} {v : Value} {n : Nat} {xs : List Value} (h : w.ownsRow base e size v n xs) {a : Addr} (ha : a.block < base) (u : Value) : (w.setCell a u).ownsRow base e size v n xs := by
  refine ⟨h.1, ?_⟩
  rcases h.2 with h2 | ⟨g, cap, cur, h1, h2, h3, h4⟩
  · exact .inl h2
  · exact .inr ⟨g, cap, cur, h1, h2, by rw [Below.heap_setCell w a u g (by omega)]; exact h3, h4⟩
/-- The places of the nights. -/
def psL (ns : List Ni) : List Int := ns.map (·.p)
def psK (ns : List Ni) (k : Nat) : List Int := (ns.take k).map (·.p)
theorem psK_succ (ns : List Ni) {k : Nat} (h : k < ns.length) : psK ns (k + 1) = psK ns k ++ [(gn ns k).p] := by
  unfold psK gn; rw [List.take_add_one, List.map_append]; simp [h]
theorem psK_len (ns : List Ni) {k : Nat} (h : k ≤ ns.length) : (psK ns k).length = k := by unfold psK; simp; omega
theorem psK_all (ns : List Ni) : psK ns ns.length = psL ns := by unfold psK psL; rw [List.take_length]
theorem gi_psL (ns : List Ni) {k : Nat} (h : k < ns.length) : gi (psL ns) k = (gn ns k).p := by unfold gi psL gn; simp [h]
/-- The offer of jobs and nights comes back. -/
def OfE (w : World) (C : List (List Int)) (P : List Int) (L N : Nat) (e : Ending) (w' : World) : Prop :=
  ∃ ac cc ap cp, e = .returned (.agg #[.slice ac L cc, .slice ap N cp]) ∧ OfS w' C P ac ap L N ∧ Below w.heap.size w w'
set_option maxRecDepth 100000 in
set_option maxHeartbeats 4000000 in
theorem offerOf_r (a : Option Addr) (js : List Jo) (ca : Nat) (b : Option Addr) (ns : List Ni) (cb : Nat) (w : World) (hA : JobsS w a js) (hB : NightsS w b ns) (hj : js.length ≤ 1000) (hn : ns.length ≤ 1000) (h64 : ∀ i, i < ns.length → I64 (gn ns i).p) :
    Calls Try.prog 42 #[.slice a js.length ca, .slice b ns.length cb] w fun e w' => OfE w (chL js ns) (psL ns) js.length ns.length e w' := by
  obtain ⟨wB, hwB⟩ : ∃ wB, w.alloc (.cells #[.slice none 0 0, .slice none 0 0] 64) = wB := ⟨_, rfl⟩
  have hbB : Below w.heap.size w wB := by rw [← hwB]; exact (Below.refl _ _).alloc (Nat.le_refl _) _
  have r0 : wB.cell? ⟨w.heap.size, 0, none⟩ = some (.slice none 0 0) := by rw [← hwB]; simp [go_sem]
  have r1 : wB.cell? ⟨w.heap.size, 1, none⟩ = some (.slice none 0 0) := by rw [← hwB]; simp [go_sem]
  have s0 : wB.frozen? ⟨w.heap.size, 0, none⟩ = false := by rw [← hwB]; simp [go_sem]
  have s1 : wB.frozen? ⟨w.heap.size, 1, none⟩ = false := by rw [← hwB]; simp [go_sem]
  have HCh := Lib.hid (choices_r a js ca b ns cb wB (hA.below hbB) (hB.below hbB) hj hn)
  have hCL : Hid ((chL js ns).length = js.length) := Lib.hid (by simp [chL])
  have hEN : Hid (∀ i, i < js.length → ∀ j, j < (gr (chL js ns) i).length → ∃ m : Nat, gi (gr (chL js ns) i) j = m ∧ m < ns.length) := Lib.hid fun i hi j hj => by
    rw [gr_chL js ns hi] at hj ⊢
    obtain ⟨m, h1, h2, _⟩ := selK_gi _ _ hj
    exact ⟨m, h1, h2⟩
  have hWD : Hid (∀ i, i < js.length → (gr (chL js ns) i).length ≤ ns.length) := Lib.hid fun i hi => by rw [gr_chL js ns hi]; exact selK_len _ _
  obtain ⟨hlen, blk, off, hadr, hc⟩ := hB
  have HC := Lib.hid hc
  have HL : Hid (0 < ns.length → b = some ⟨blk, off, none⟩) := Lib.hid fun h => hadr (pos_ne (n := 0) h)
  have HP1 : Hid (∀ k, k < ns.length → clI (psK ns (k + 1)) = clI (psK ns k) ++ [.int .i64 (gn ns k).p]) := Lib.hid fun k hk => by rw [psK_succ ns hk, clI_app]
  have HPA : Hid (psK ns ns.length = psL ns) := Lib.hid (psK_all ns)
  have HPL : Hid ((psL ns).length = ns.length) := Lib.hid (by simp [psL])
  have H64 : Hid (∀ i, i < ns.length → I64 (gi (psL ns) i)) := Lib.hid fun i hi => by rw [gi_psL ns hi]; exact h64 i hi
  generalize chL js ns = C at *
  clear hc hadr hA h64
  go_enter Try.func42, Try.ntmps42
  go_wp2_with fail
  refine HCh.out.mono ?_
  rintro e wo ⟨ac, cc, rfl, hR, hbo⟩
  have hR := Lib.hid hR
  have r0 := cell_below r0 hbo
  have r1 := cell_below r1 hbo
  have hz := block_lt r0
  have s0 := (hbo.frozen (p := ⟨w.heap.size, 0, none⟩) (by rw [← hwB]; simp)).trans s0
  have s1 := (hbo.frozen (p := ⟨w.heap.size, 1, none⟩) (by rw [← hwB]; simp)).trans s1
  have hzB : Hid (w.heap.size < wB.heap.size) := Lib.hid (by rw [← hwB]; simp)
  have hb := Lib.hid (below_onN hbB hbo hbB.size)
  rw [hCL.out]
  clear HCh hwB hbB hbo
  obtain ⟨wC, hwC⟩ : ∃ wC, (wo.alloc (.cells #[.slice ac js.length cc, .slice none 0 0] 64)).setCell ⟨wo.heap.size, 1, none⟩ (.slice none 0 0) = wC := ⟨_, rfl⟩
  have hbC : Below wo.heap.size wo wC := by rw [← hwC]; exact ((Below.refl _ _).alloc (Nat.le_refl _) _).setCell (p := ⟨wo.heap.size, 1, none⟩) (Nat.le_refl _) _
  have p0 : wC.cell? ⟨wo.heap.size, 0, none⟩ = some (.slice ac js.length cc) := by rw [← hwC, World.cell?_setCell_other _ _ _ _ (by simp)]; simp [go_sem]
  have p1 : wC.cell? ⟨wo.heap.size, 1, none⟩ = some (.slice none 0 0) := by rw [← hwC]; exact World.cell?_setCell_same (u := .slice none 0 0) _ _ _ (by simp [go_sem])
  have f1 : wC.frozen? ⟨wo.heap.size, 1, none⟩ = false := by rw [← hwC, World.frozen?_setCell]; simp [go_sem]
  go_wp2_with fail
  go_loopw [14] (fun i wr => ∃ (k : Nat) (av : Option Addr) (cv : Nat), k ≤ ns.length ∧ i = .int .i64 k ∧ wr.cell? ⟨wo.heap.size, 0, none⟩ = some (.slice ac js.length cc) ∧ wr.cell? ⟨wo.heap.size, 1, none⟩ = some (.slice av k cv) ∧ wr.frozen? ⟨wo.heap.size, 1, none⟩ = false ∧ Hid (wr.ownsRow (wo.heap.size + 1) 3 1 (.slice av k cv) k (clI (psK ns k))) ∧ Hid (Below wo.heap.size wo wr)) (fun i _ => ns.length - (intOf i).toNat)
  case atStart => exact ⟨0, none, 0, Nat.zero_le _, rfl, p0, p1, f1, Lib.hid ⟨rfl, .inl ⟨rfl, rfl⟩⟩, Lib.hid hbC⟩
  case round =>
    obtain ⟨k, av, cv, hk, rfl, p0, p1, f1, hrow, hbr⟩ := hrel
    clear hwC hbC
    by_cases hlt : k < ns.length
    · obtain rfl := HL.out (by omega)
      obtain ⟨c0, c1, c2, c3, c4, c5, c6, c7⟩ := HC.out k hlt
      have c0 := cell_below (cell_below c0 hb.out) hbr.out
      have c1 := cell_below (cell_below c1 hb.out) hbr.out
      have c2 := cell_below (cell_below c2 hb.out) hbr.out
      have c3 := cell_below (cell_below c3 hb.out) hbr.out
      have c4 := cell_below (cell_below c4 hb.out) hbr.out
      have c5 := cell_below (cell_below c5 hb.out) hbr.out
      have c6 := cell_below (cell_below c6 hb.out) hbr.out
      have c7 := cell_below (cell_below c7 hb.out) hbr.out
      have HPk := Lib.hid (HP1.out k hlt)
      clear HC HL HP1 HPA HPL H64
      generalize gn ns k = s at *
      obtain ⟨wD, hwD⟩ : ∃ wD, wr.alloc (.cells #[.int .i64 s.d, .int .i64 s.r, .int .i64 s.f, .int .i64 s.t, .int .i64 s.w, .int .i64 s.p, .bool s.rn, .bool s.fr] 51) = wD := ⟨_, rfl⟩
      have hbD : Below wr.heap.size wr wD := by rw [← hwD]; exact (Below.refl _ _).alloc (Nat.le_refl _) _
      have d5 : wD.cell? ⟨wr.heap.size, 5, none⟩ = some (.int .i64 s.p) := by rw [← hwD]; simp [go_sem]
      have hz1 := block_lt p0
      have p0 := cell_below p0 hbD
      have p1 := cell_below p1 hbD
      have f1 := (hbD.frozen (p := ⟨wo.heap.size, 1, none⟩) hz1).trans f1
      have hown := Lib.hid ((owns_belowI hrow.out hbD).alloc (.cells #[.int .i64 s.p] 3))
      have hbq := Lib.hid (below_onN hbr.out hbD hbr.out.size)
      have hsz := hbD.size
      clear hrow hbr
      have c9 : (wD.alloc (.cells #[.int .i64 s.p] 3)).cell? ⟨wD.heap.size, 0, none⟩ = some (.int .i64 s.p) := by simp [go_sem]
      go_wp2_with (first | (at_builtin; go_loud (refine app_int rfl _ _ rfl (wo.heap.size + 1) k cv av _ rfl hown.out wD.heap.size (.int .i64 s.p) rfl c9 (by rfl) (by omega) ?d2 ?_)))
      case d2 => simp; omega
      intro g6 c6 w6 hown6 hb6
      have hbE : Below (wo.heap.size + 1) wD (wD.alloc (.cells #[.int .i64 s.p] 3)) := (Below.refl _ _).alloc (by omega) _
      have hbF := hbE.trans hb6
      have p0 := (hbF.cell (p := ⟨wo.heap.size, 0, none⟩) (by simp)).trans p0
      have p1 := (hbF.cell (p := ⟨wo.heap.size, 1, none⟩) (by simp)).trans p1
      have f1 := (hbF.frozen (p := ⟨wo.heap.size, 1, none⟩) (by simp)).trans f1
      have hrow6 : Hid (w6.ownsRow (wo.heap.size + 1) 3 1 (.slice (some ⟨g6, 0, none⟩) (k + 1) c6) (k + 1) (clI (psK ns (k + 1)))) := Lib.hid (by rw [HPk.out]; exact hown6)
      have hb6 := Lib.hid (hbq.out.trans (hbF.mono (by omega)))
      clear hown hown6 hbq hbE hbF c9 hwD hbD d5 HPk
      have hrow7 := Lib.hid (owns_set hrow6.out (a := ⟨wo.heap.size, 1, none⟩) (by simp) (.slice (some ⟨g6, 0, none⟩) (k + 1) c6))
      have hb7 := Lib.hid (hb6.out.setCell (p := ⟨wo.heap.size, 1, none⟩) (Nat.le_refl _) (.slice (some ⟨g6, 0, none⟩) (k + 1) c6))
      have p07 : (w6.setCell ⟨wo.heap.size, 1, none⟩ (.slice (some ⟨g6, 0, none⟩) (k + 1) c6)).cell? ⟨wo.heap.size, 0, none⟩ = some (.slice ac js.length cc) := by rw [World.cell?_setCell_other _ _ _ _ (by simp)]; exact p0
      have p17 : (w6.setCell ⟨wo.heap.size, 1, none⟩ (.slice (some ⟨g6, 0, none⟩) (k + 1) c6)).cell? ⟨wo.heap.size, 1, none⟩ = some (.slice (some ⟨g6, 0, none⟩) (k + 1) c6) := World.cell?_setCell_same _ _ _ p1
      have f17 : (w6.setCell ⟨wo.heap.size, 1, none⟩ (.slice (some ⟨g6, 0, none⟩) (k + 1) c6)).frozen? ⟨wo.heap.size, 1, none⟩ = false := by rw [World.frozen?_setCell]; exact f1
      clear hrow6 hb6
      go_wp2_with fail
      go_roundw
      case rel => exact ⟨k + 1, some ⟨g6, 0, none⟩, c6, by omega, by go_num, p07, p17, f17, hrow7, hb7⟩
      case measure => simp [intOf]; omega
    · obtain rfl : k = ns.length := by omega
      rw [HPA.out] at hrow
      have hPS : Hid (∀ w2, (∀ k, wo.heap.size + 1 ≤ k → k < wr.heap.size → w2.heap[k]? = wr.heap[k]?) → IntsS w2 av (psL ns)) := Lib.hid fun w2 hs => ints_own2 (by rw [HPL.out]; exact hrow.out) (by rw [HPL.out]; omega) (fun j hj => H64.out j (by rw [HPL.out] at hj; exact hj)) hs
      have hRS : Hid (∀ w2, (∀ k, wB.heap.size ≤ k → k < wo.heap.size → w2.heap[k]? = wr.heap[k]?) → RowsS w2 ac C) := Lib.hid fun w2 hs => hR.out w2 fun k h1 h2 => (hs k h1 h2).trans (hbr.out.block k h2)
      have hz1 : w.heap.size ≠ wo.heap.size := by omega
      have r0 := cell_below r0 hbr.out
      have r1 := cell_below r1 hbr.out
      have s0 := (hbr.out.frozen (p := ⟨w.heap.size, 0, none⟩) hz).trans s0
      have s1 := (hbr.out.frozen (p := ⟨w.heap.size, 1, none⟩) hz).trans s1
      have hbW := Lib.hid (below_onN hb.out hbr.out hb.out.size)
      clear hrow hbr hR hb
      have hzz : w.heap.size < wB.heap.size := hzB.out
      go_wp2_with fail
      refine bodyPost_ret (v := .agg #[.slice ac js.length cc, .slice av ns.length cv]) (by simp [results, Try.results42, go_sem, r0, r1, s0, s1]) rfl ?_
      have hk9 : ∀ k, k ≠ w.heap.size → ((wr.setCell ⟨w.heap.size, 0, none⟩ (.slice ac js.length cc)).setCell ⟨w.heap.size, 1, none⟩ (.slice av ns.length cv)).heap[k]? = wr.heap[k]? := fun k hk => (Below.heap_setCell _ _ _ _ hk).trans (Below.heap_setCell _ _ _ _ hk)
      exact ⟨ac, cc, av, cv, rfl, ⟨hRS.out _ (fun k h1 h2 => hk9 k (by omega)), hPS.out _ (fun k h1 h2 => hk9 k (by omega)), hCL.out, HPL.out, hj, hn, hEN.out, hWD.out⟩, (hbW.out.setCell (p := ⟨w.heap.size, 0, none⟩) (Nat.le_refl _) _).setCell (p := ⟨w.heap.size, 1, none⟩) (Nat.le_refl _) _⟩
end Go.Proofs.Ytghlhjiomebmhaa
