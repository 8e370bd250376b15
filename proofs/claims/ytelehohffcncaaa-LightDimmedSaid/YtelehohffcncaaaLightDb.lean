/-
  The walk of Dimmed where it returns a table. By an AI agent.
-/
import Derived.Test.YtelehohffcncaaaLightDa
import Derived.Test.YtelehohffcncaaaLightJ
import Derived.Deep.RegionHeld3
import Derived.BigQuiet
import Derived.Deep.DeepCutAuto
namespace Go.Proofs.Ytelehohffcncaaa
set_option linter.unusedVariables false
set_option linter.unusedSimpArgs false
open Go.RowKit

/-- A table in a box of its own, with two copies. -/
structure BoxD (w : World) (D g1 c1 g2 c2 : Nat) (o e : List Int) (v : Value) : Prop where
  q0 : w.cell? ⟨D, 0, none⟩ = some (.slice (some ⟨g1, 0, none⟩) o.length c1)
  q1 : w.cell? ⟨D, 1, none⟩ = some (.slice (some ⟨g2, 0, none⟩) e.length c2)
  q2 : w.cell? ⟨D, 2, none⟩ = some v
  fz : w.frozen? ⟨D, 2, none⟩ = false
  l1 : Lie w g1 o
  l2 : Lie w g2 e
  n1 : g1 ≠ D
  n2 : g2 ≠ D
  s1 : g1 < w.heap.size
  s2 : g2 < w.heap.size
theorem BoxD.below {w w' : World} {D g1 c1 g2 c2 : Nat} {o e : List Int} {v : Value} (h : BoxD w D g1 c1 g2 c2 o e v) (hb : Below w.heap.size w w') : BoxD w' D g1 c1 g2 c2 o e v :=
  ⟨cell_below h.q0 hb, cell_below h.q1 hb, cell_below h.q2 hb, (hb.frozen (p := ⟨D, 2, none⟩) (block_lt h.q2)).trans h.fz, h.l1.below hb, h.l2.below hb, h.n1, h.n2, Nat.lt_of_lt_of_le h.s1 hb.size, Nat.lt_of_lt_of_le h.s2 hb.size⟩
theorem BoxD.low {w w' : World} {D g1 c1 g2 c2 B : Nat} {o e : List Int} {v : Value} (h : BoxD w D g1 c1 g2 c2 o e v) (hb : Below B w w') (hD : D < B) (h1 : g1 < B) (h2 : g2 < B) : BoxD w' D g1 c1 g2 c2 o e v :=
  ⟨(hb.cell (p := ⟨D, 0, none⟩) hD).trans h.q0, (hb.cell (p := ⟨D, 1, none⟩) hD).trans h.q1, (hb.cell (p := ⟨D, 2, none⟩) hD).trans h.q2, (hb.frozen (p := ⟨D, 2, none⟩) hD).trans h.fz, h.l1.same (hb.block _ h1), h.l2.same (hb.block _ h2), h.n1, h.n2, Nat.lt_of_lt_of_le h.s1 hb.size, Nat.lt_of_lt_of_le h.s2 hb.size⟩
theorem BoxD.set {w : World} {D g1 c1 g2 c2 : Nat} {o e : List Int} {v : Value} (h : BoxD w D g1 c1 g2 c2 o e v) (v' : Value) : BoxD (w.setCell ⟨D, 2, none⟩ v') D g1 c1 g2 c2 o e v' := by
  obtain ⟨q0, q1, q2, fz, l1, l2, n1, n2, s1, s2⟩ := h
  refine ⟨by simp [go_sem, q0], by simp [go_sem, q1], by simp [go_sem, q2], by simp [go_sem, fz], l1.set n1, l2.set n2, n1, n2, by simpa using s1, by simpa using s2⟩
theorem boxD_of1 {w : World} {D g1 c1 g2 c2 : Nat} {o e : List Int} {v : Value} (h1 : Lie w g1 o) (h2 : Lie w g2 e) (n1 : g1 ≠ D) (n2 : g2 ≠ D) (s1 : g1 < w.heap.size) (s2 : g2 < w.heap.size) (hc : w.cell? ⟨D, 0, none⟩ = some (.slice none 0 0) ∧ w.cell? ⟨D, 1, none⟩ = some (.slice none 0 0) ∧ w.cell? ⟨D, 2, none⟩ = some (.slice none 0 0)) (hf : w.frozen? ⟨D, 2, none⟩ = false) :
    BoxD (((w.setCell ⟨D, 0, none⟩ (.slice (some ⟨g1, 0, none⟩) o.length c1)).setCell ⟨D, 1, none⟩ (.slice (some ⟨g2, 0, none⟩) e.length c2)).setCell ⟨D, 2, none⟩ v) D g1 c1 g2 c2 o e v := by
  obtain ⟨q0, q1, q2⟩ := hc
  refine ⟨by simp [go_sem, *], by simp [go_sem, *], by simp [go_sem, *], by simp [go_sem, *], ((h1.set n1).set n1).set n1, ((h2.set n2).set n2).set n2, n1, n2, by simpa using s1, by simpa using s2⟩
theorem boxD_of2 {w : World} {g1 c1 g2 c2 : Nat} {o e : List Int} {v : Value} {T : TypeId} (h1 : Lie w g1 o) (h2 : Lie w g2 e) (s1 : g1 < w.heap.size) (s2 : g2 < w.heap.size) :
    BoxD (w.alloc (.cells #[.slice (some ⟨g1, 0, none⟩) o.length c1, .slice (some ⟨g2, 0, none⟩) e.length c2, v] T)) w.heap.size g1 c1 g2 c2 o e v :=
  ⟨by simp [go_sem], by simp [go_sem], by simp [go_sem], by simp [go_sem], h1.alloc _, h2.alloc _, by omega, by omega, by simp; omega, by simp; omega⟩
theorem below3D {B D : Nat} {a w : World} {v0 v1 v2 : Value} (h : Below B a w) (hD : B ≤ D) : Below B a (((w.setCell ⟨D, 0, none⟩ v0).setCell ⟨D, 1, none⟩ v1).setCell ⟨D, 2, none⟩ v2) :=
  ((h.setCell (p := ⟨D, 0, none⟩) hD _).setCell (p := ⟨D, 1, none⟩) hD _).setCell (p := ⟨D, 2, none⟩) hD _
theorem BoxD.three {w : World} {D g1 c1 g2 c2 B : Nat} {o e : List Int} {v v0 v1 v2 : Value} (h : BoxD w D g1 c1 g2 c2 o e v) (hD : D ≠ B) (h1 : g1 ≠ B) (h2 : g2 ≠ B) : BoxD (((w.setCell ⟨B, 0, none⟩ v0).setCell ⟨B, 1, none⟩ v1).setCell ⟨B, 2, none⟩ v2) D g1 c1 g2 c2 o e v := by
  have hs : ∀ g, g ≠ B → (((w.setCell ⟨B, 0, none⟩ v0).setCell ⟨B, 1, none⟩ v1).setCell ⟨B, 2, none⟩ v2).heap[g]? = w.heap[g]? := fun g hg => ((Below.heap_setCell _ _ _ _ (by simpa using hg)).trans (Below.heap_setCell _ _ _ _ (by simpa using hg))).trans (Below.heap_setCell _ _ _ _ (by simpa using hg))
  have hz : (((w.setCell ⟨B, 0, none⟩ v0).setCell ⟨B, 1, none⟩ v1).setCell ⟨B, 2, none⟩ v2).heap.size = w.heap.size := by simp
  exact ⟨(World.cell?_of_block (w := w) (a := ⟨D, 0, none⟩) (hs D hD)).trans h.q0, (World.cell?_of_block (w := w) (a := ⟨D, 1, none⟩) (hs D hD)).trans h.q1, (World.cell?_of_block (w := w) (a := ⟨D, 2, none⟩) (hs D hD)).trans h.q2, (World.frozen?_of_block (w := w) (a := ⟨D, 2, none⟩) (hs D hD)).trans h.fz, h.l1.same (hs g1 h1), h.l2.same (hs g2 h2), h.n1, h.n2, by rw [hz]; exact h.s1, by rw [hz]; exact h.s2⟩
theorem Rws.three {base B : Nat} {w : World} {v v0 v1 v2 : Value} {k A : Nat} {R : Nat → List Int} (h : Rws base w v k A R) (hB : B < base) : Rws base (((w.setCell ⟨B, 0, none⟩ v0).setCell ⟨B, 1, none⟩ v1).setCell ⟨B, 2, none⟩ v2) v k A R := ((h.set hB).set hB).set hB
def DimE (w : World) (o e : List Int) (r : List (List Int)) (E : Ending) (w' : World) : Prop :=
  ∃ ao co ae ce ar cr, E = .returned (.tuple #[.agg #[.slice ao o.length co, .slice ae e.length ce, .slice ar r.length cr], .int .i64 0]) ∧ TableS w' ao ae ar o e r ∧ Below w.heap.size w w'
/-- The table's end: a result box that is filled out of the box. -/
theorem dimE_of {w w' : World} {D g1 c1 g2 c2 base A : Nat} {o e : List Int} {v : Value} {r : List (List Int)} {k : Nat} {a : Option Addr} {c : Nat} {R : Nat → List Int} (hB : BoxD w' D g1 c1 g2 c2 o e v) (hR : Rws base w' (.slice a k c) k A R) (ho : SlopesOk o) (he : SlopesOk e) (hA : A ≤ 1000) (hk : r.length = k) (hk2 : k ≤ 1000)
    (hg : ∀ i, i < k → gr r i = R i) (h64 : ∀ i, i < k → ∀ j, j < A → I64 (gi (R i) j)) (hb : Below w.heap.size w w') {E : Ending} (hE : E = .returned (.tuple #[.agg #[.slice (some ⟨g1, 0, none⟩) o.length c1, .slice (some ⟨g2, 0, none⟩) e.length c2, .slice a k c], .int .i64 0])) : DimE w o e r E w' := by
  have h6 : ∀ l, SlopesOk l → l.length ≤ 9223372036854775807 ∧ ∀ i, i < l.length → I64 (gi l i) := fun l h => ⟨by have := h.2.1; omega, fun i hi => by have := slopes_bd h hi; unfold I64; omega⟩
  exact ⟨_, _, _, _, _, _, by rw [hk]; exact hE, ⟨hB.l1.ints (h6 o ho).1 (h6 o ho).2, hB.l2.ints (h6 e he).1 (h6 e he).2, hR.rows hk hg hk2 hA h64⟩, hb⟩
theorem ag_bd {r keep : Int} {n : Nat} (h0 : 0 ≤ r) (h1 : r ≤ 100000) (k0 : 0 ≤ keep) (k1 : keep ≤ 1000) : I64 (agV r keep n) := by
  have := agV_bd h0 h1 k0 k1 n
  unfold I64; omega
def CloN (w : World) (l : List Int) (n : Nat) (e : Ending) (w' : World) : Prop := ∃ g c', e = .returned (.slice (some ⟨g, 0, none⟩) n c') ∧ w.heap.size ≤ g ∧ g < w'.heap.size ∧ w'.ownsRow w.heap.size 3 1 (.slice (some ⟨g, 0, none⟩) n c') n (clD l) ∧ Below w.heap.size w w'
theorem clone_n (a : Option Addr) (l : List Int) (c : Nat) (w : World) (n : Nat) (hA : IntsS w a l) (hl : l.length = n) (h0 : 0 < n) (hn : n ≤ 1000000) : Calls Try.prog 20 #[.slice a n c] w (CloN w l n) := by
  subst hl
  exact clone_d a l c w hA h0 hn
set_option maxRecDepth 100000 in
set_option maxHeartbeats 4000000 in
theorem dimmed_good (ao ae ar : Option Addr) (o e : List Int) (r : List (List Int)) (co ce cr : Nat) (keep : Int) (n : Nat) (w : World) (hT : TableS w ao ae ar o e r) (hK : TableOk o e r) (k0 : 0 ≤ keep) (k1 : keep ≤ 1000) (hn : n ≤ 300) :
    Calls Try.prog 7 #[.agg #[.slice ao o.length co, .slice ae e.length ce, .slice ar r.length cr], .int .i64 keep, .int .i64 n] w (DimE w o e (agR (fun x => agV x keep n) r)) := by
  obtain ⟨f, hf⟩ : ∃ f : Int → Int, f = fun x => agV x keep n := ⟨_, rfl⟩
  rw [← hf]
  have HAf := Lib.hid (fun (x : Int) (W : World) (h0 : 0 ≤ x) (h1 : x ≤ 100000) => (show Calls Try.prog 21 #[.int .i64 x, .int .i64 keep, .int .i64 n] W fun e w' => e = .returned (.int .i64 (f x)) ∧ W = w' by rw [hf]; exact afterYears_any x keep n W h0 h1 k0 k1 hn))
  have Hf64 := Lib.hid (fun (x : Int) (h0 : 0 ≤ x) (h1 : x ≤ 100000) => (show I64 (f x) by rw [hf]; exact ag_bd h0 h1 k0 k1))
  clear hf
  have HV := Lib.hid (fun (W : World) (hW : Below w.heap.size w W) => validTable_any ao ae ar o e r co ce cr W (hT.below hW))
  have hag : ageB keep n = true := by unfold ageB; rw [btw_t k0 k1, btw_t (by omega) (by omega)]; rfl
  have HAg : Hid (∀ W, Calls Try.prog 19 #[.int .i64 keep, .int .i64 n] W fun e w' => e = .returned (.bool true) ∧ W = w') := Lib.hid fun W => by rw [← hag]; exact ageingValid_any keep n W
  have o2 := hK.1.1
  have o6 := hK.1.2.1
  have e2 := hK.2.1.1
  have e6 := hK.2.1.2.1
  have HC1 := Lib.hid (fun (W : World) (hW : Below w.heap.size w W) => clone_d ao o co W (hT.1.below hW) (by omega) (by omega))
  have HC2 := Lib.hid (fun (W : World) (hW : Below w.heap.size w W) => clone_d ae e ce W (hT.2.1.below hW) (by omega) (by omega))
  have hTB := Lib.hid (tableB_t hK)
  have hrl : r.length = o.length := hK.2.2.1
  have HRow : Hid (∀ k, k < r.length → (gr r k).length = e.length ∧ ∀ j, j < e.length → 0 ≤ gi (gr r k) j ∧ gi (gr r k) j ≤ 100000) := Lib.hid fun k hk => ⟨(hK.2.2.2 k hk).1, fun j hj => tb_bd hK (by omega) hj⟩
  obtain ⟨-, -, hrmax, rb, ro, ad, cp, har, hrr⟩ := hT
  obtain rfl := har (List.ne_nil_of_length_pos (by omega))
  have HR := Lib.hid hrr
  have HSo := Lib.hid hK.1
  have HSe := Lib.hid hK.2.1
  have hr6 : r.length ≤ 6 := by omega
  have hr2 : 2 ≤ r.length := by omega
  have hzr := block_lt (hrr 0 (by omega)).1
  clear har hrr hK hag hrl
  have hp0 := True.intro
  go_enter Try.func7, Try.ntmps7
  go_wp2_with fail
  clear hp0
  obtain ⟨wB, hwB⟩ : ∃ wB, (w.alloc (.cells #[.slice ao o.length co, .slice ae e.length ce, .slice (some ⟨rb, ro, none⟩) r.length cr] 25)).alloc (.cells #[.slice none 0 0, .slice none 0 0, .slice none 0 0] 25) = wB := ⟨_, rfl⟩
  have hb : Below w.heap.size w wB := by rw [← hwB]; exact ((Below.refl _ _).alloc (Nat.le_refl _) _).alloc (by simp) _
  have hsz : wB.heap.size = w.heap.size + 2 := by rw [← hwB]; simp
  have p0 : wB.cell? ⟨w.heap.size, 0, none⟩ = some (.slice ao o.length co) := by rw [← hwB]; simp [go_sem]
  have p1 : wB.cell? ⟨w.heap.size, 1, none⟩ = some (.slice ae e.length ce) := by rw [← hwB]; simp [go_sem]
  have p2 : wB.cell? ⟨w.heap.size, 2, none⟩ = some (.slice (some ⟨rb, ro, none⟩) r.length cr) := by rw [← hwB]; simp [go_sem]
  have t0 : wB.cell? ⟨w.heap.size + 1, 0, none⟩ = some (.slice none 0 0) := by rw [← hwB]; simp [go_sem]
  have t1 : wB.cell? ⟨w.heap.size + 1, 1, none⟩ = some (.slice none 0 0) := by rw [← hwB]; simp [go_sem]
  have t2 : wB.cell? ⟨w.heap.size + 1, 2, none⟩ = some (.slice none 0 0) := by rw [← hwB]; simp [go_sem]
  have t3 : wB.frozen? ⟨w.heap.size + 1, 0, none⟩ = false ∧ wB.frozen? ⟨w.heap.size + 1, 1, none⟩ = false ∧ wB.frozen? ⟨w.heap.size + 1, 2, none⟩ = false := by rw [← hwB]; simp [go_sem]
  have HT3 := Lib.hid t3
  clear t3
  rw [hwB]
  clear hwB
  have HSZ := Lib.hid hsz
  have hs2 : w.heap.size + 1 < wB.heap.size := by omega
  clear hsz
  refine (HV.out _ hb).mono ?_
  rintro E w1 ⟨rfl, hb1⟩
  rw [hTB.out]
  replace p0 := cell_below p0 hb1
  replace p1 := cell_below p1 hb1
  replace p2 := cell_below p2 hb1
  have HT := Lib.hid (And.intro t0 (And.intro t1 t2))
  clear t0 t1 t2 HV
  have hw1 : Below w.heap.size w w1 := hb.trans (hb1.mono hb.size)
  go_wp2_with (go_at_call 19; refine (HAg.out _).mono ?_; rintro E wA ⟨rfl, rfl⟩)
  clear HAg
  have hsw1 := hb1.size
  have hz0 := block_lt p0
  go_cut [8] (fun v wx => ∃ D g1 c1 g2 c2 : Nat, v = .pointer (some ⟨D, 0, none⟩) ∧ w1.heap.size ≤ D ∧ w1.heap.size ≤ g1 ∧ w1.heap.size ≤ g2 ∧ Hid (BoxD wx D g1 c1 g2 c2 o e (.slice none 0 0)) ∧ Below w1.heap.size w1 wx)
  case first =>
    have hB := Below.refl w1.heap.size w1
    have PP0 := Lib.hid p0
    have hne0 : w1.heap.size ≠ w.heap.size := by omega
    have PP1 := Lib.hid p1
    have hL1 := True.intro
    have hL2 := True.intro
    clear HRow HR HSo HSe HT HT3 HAf Hf64 p2
    go_region_held3 (fun w' => w'.cell? ⟨w.heap.size, 0, none⟩ = some (.slice ao o.length co) ∧ w'.cell? ⟨w.heap.size, 1, none⟩ = some (.slice ae e.length ce)) (go_keep)
      (first
        | (go_at_call 20
           with_reducible refine Calls.mono (HC1.out _ (hw1.trans ((show Below w1.heap.size w1 _ by first | exact hB | exact hB.drew | exact hB.alloc hB.size _ | exact hB.drew.alloc hB.size _ | exact (hB.alloc hB.size _).drew).mono hw1.size))) ?_
           rintro E w9 ⟨g1, c1, rfl, hlo1, hg1, hown1, hb9⟩
           have hL1 : Lie w9 g1 o := owns_lie hown1 rfl
           first
             | have hL2 : Lie w9 g2 _ := Lie.below (by first | exact hL2 | exact (hL2).drew | exact (hL2).alloc _ | exact ((hL2).drew).alloc _ | exact ((hL2).alloc _).drew) hb9
             | skip
           have hlt1 : w1.heap.size < w9.heap.size := Nat.lt_of_le_of_lt (Nat.le_trans (show Below w1.heap.size w1 _ by first | exact hB | exact hB.drew | exact hB.alloc hB.size _ | exact hB.drew.alloc hB.size _ | exact (hB.alloc hB.size _).drew).size hlo1) hg1
           replace hB : Below w1.heap.size w1 w9 := (show Below w1.heap.size w1 _ by first | exact hB | exact hB.drew | exact hB.alloc hB.size _ | exact hB.drew.alloc hB.size _ | exact (hB.alloc hB.size _).drew).trans (hb9.mono (by first | exact hB.size | (have := hB.size; simp; done) | (have := hB.size; simp; omega)))
           have hsz1 := hb9.size
           obtain ⟨hcC1, hfC1⟩ := bcell hb9
           (try simp at hsz1); (try simp at hlo1)
           clear hown1
           have hne1 : w9.heap.size ≠ w.heap.size := by have := hB.size; omega
           have p0 := (hB.cell (p := ⟨w.heap.size, 0, none⟩) hz0).trans PP0.out
           have p1 := (hB.cell (p := ⟨w.heap.size, 1, none⟩) hz0).trans PP1.out)
        | (go_at_call 20
           with_reducible refine Calls.mono (HC2.out _ (hw1.trans ((show Below w1.heap.size w1 _ by first | exact hB | exact hB.drew | exact hB.alloc hB.size _ | exact hB.drew.alloc hB.size _ | exact (hB.alloc hB.size _).drew).mono hw1.size))) ?_
           rintro E w9 ⟨g2, c2, rfl, hlo2, hg2, hown2, hb9⟩
           have hL2 : Lie w9 g2 e := owns_lie hown2 rfl
           first
             | have hL1 : Lie w9 g1 _ := Lie.below (by first | exact hL1 | exact (hL1).drew | exact (hL1).alloc _ | exact ((hL1).drew).alloc _ | exact ((hL1).alloc _).drew) hb9
             | skip
           have hlt2 : w1.heap.size < w9.heap.size := Nat.lt_of_le_of_lt (Nat.le_trans (show Below w1.heap.size w1 _ by first | exact hB | exact hB.drew | exact hB.alloc hB.size _ | exact hB.drew.alloc hB.size _ | exact (hB.alloc hB.size _).drew).size hlo2) hg2
           replace hB : Below w1.heap.size w1 w9 := (show Below w1.heap.size w1 _ by first | exact hB | exact hB.drew | exact hB.alloc hB.size _ | exact hB.drew.alloc hB.size _ | exact (hB.alloc hB.size _).drew).trans (hb9.mono (by first | exact hB.size | (have := hB.size; simp; done) | (have := hB.size; simp; omega)))
           have hsz2 := hb9.size
           obtain ⟨hcC2, hfC2⟩ := bcell hb9
           (try simp at hsz2); (try simp at hlo2)
           clear hown2
           have hne2 : w9.heap.size ≠ w.heap.size := by have := hB.size; omega
           have p0 := (hB.cell (p := ⟨w.heap.size, 0, none⟩) hz0).trans PP0.out
           have p1 := (hB.cell (p := ⟨w.heap.size, 1, none⟩) hz0).trans PP1.out))
    all_goals
      go_wp2_with fail
      go_meet
      have hBs := hB.size
      refine ⟨_, g1, c1, g2, c2, rfl, (by first | exact Nat.le_refl _ | exact hBs | omega), (by omega), (by omega), ?_, ?_⟩
      · refine Lib.hid ?_
        first
          | with_reducible exact boxD_of2 hL1 hL2 (by omega) (by omega)
          | (with_reducible refine boxD_of1 hL1 hL2 ?_ ?_ ?_ ?_ ?_ ?_
             · omega
             · omega
             · omega
             · omega
             · simp [go_sem, *]
             · simp [go_sem, *])
      · first
          | with_reducible exact hB.alloc hB.size _
          | (with_reducible refine below3D hB ?_
             omega)
  case rest =>
    obtain ⟨D, g1, c1, g2, c2, rfl, hD, hG1, hG2, HX, hbx⟩ := hcut
    obtain ⟨w6, rfl⟩ : ∃ w6 : World, w6 = wc := ⟨_, rfl⟩
    replace p0 := cell_below p0 hbx
    replace p1 := cell_below p1 hbx
    replace p2 := cell_below p2 hbx
    have hw6 : Below w.heap.size w w6 := hw1.trans (hbx.mono hw1.size)
    have hsw6 := hbx.size
    have hBs6 : Below wB.heap.size wB w6 := hb1.trans (hbx.mono hb1.size)
    have HB6 := Lib.hid hBs6
    have HD6 := Lib.hid (block_lt HX.out.q2)
    clear hBs6 hbx HC1
    go_wp2_with fail
    go_loopw [33] (fun i9 wr => ∃ k : Nat, k ≤ r.length ∧ i9 = .int .i64 k ∧ Below w1.heap.size w6 wr ∧ ∃ v, Hid (BoxD wr D g1 c1 g2 c2 o e v) ∧ Hid (Rws w6.heap.size wr v k e.length (fun i => agL f (gr r i)))) (fun i9 _ => r.length - (intOf i9).toNat)
    case atStart => exact ⟨0, Nat.zero_le _, rfl, Below.refl _ _, _, HX, Lib.hid (Rws.nil _ _ _ _)⟩
    case round =>
      obtain ⟨k, hk, rfl, hbk, v, HXk, HRk⟩ := hrel
      obtain ⟨wo, rfl⟩ : ∃ wo : World, wo = wr := ⟨_, rfl⟩
      have hsk := hbk.size
      by_cases hlt : k < r.length
      · obtain ⟨cr1, cr2, cr3⟩ := HR.out k hlt
        obtain ⟨hgl, hg0⟩ := HRow.out k hlt
        have hwr : Below w.heap.size w wo := hw6.trans (hbk.mono hw1.size)
        have cr1 := cell_below cr1 hwr
        rw [hgl] at cr1
        have HCk := Lib.hid (clone_n (ad k) (gr r k) (cp k) wo e.length (cr2.below hwr) hgl (by omega) (by omega))
        have HG0 := Lib.hid hg0
        have HGL := Lib.hid hgl
        clear cr2 cr3 hgl hg0
        generalize ad k = adk at *
        generalize cp k = cpk at *
        go_wp2_with (go_at_call 20; (with_reducible refine HCk.out.mono ?_); rintro E w7 ⟨b7, c7, rfl, hlo7, hlt7, hown7, hb7⟩)
        have hvb : v.ownBlock ≠ some b7 := fun e => by have := HRk.out.own e; omega
        have HVB := Lib.hid hvb
        have hlow6 : w6.heap.size ≤ b7 := by omega
        have Hown7 : Hid (w7.ownsRow w6.heap.size 3 1 (.slice (some ⟨b7, 0, none⟩) e.length c7) e.length (clD (mixL f (gr r k) 0))) := Lib.hid (by
          rw [mixL_0]
          refine ⟨hown7.1, ?_⟩
          rcases hown7.2 with h | ⟨g, cap, cur, h1, h2, h3⟩
          · exact .inl h
          · exact .inr ⟨g, cap, cur, h1, by omega, h3⟩)
        have hsz7 := hb7.size
        clear hown7 HCk hvb cr1
        go_wp2_with fail
        go_loopw [41] (fun j9 wq => ∃ j : Nat, j ≤ e.length ∧ j9 = .int .i64 j ∧ Below wo.heap.size wo wq ∧ Hid (wq.ownsRow w6.heap.size 3 1 (.slice (some ⟨b7, 0, none⟩) e.length c7) e.length (clD (mixL f (gr r k) j)))) (fun j9 _ => e.length - (intOf j9).toNat)
        case atStart => exact ⟨0, Nat.zero_le _, rfl, hb7, Hown7⟩
        case round =>
          clear Hown7
          obtain ⟨j, hj, rfl, hbq, HOq⟩ := hrel
          have hsq := hbq.size
          by_cases hjt : j < e.length
          · obtain ⟨a0, a1⟩ := HG0.out j hjt
            have cj : wr.cell? ⟨b7, j, none⟩ = some (.int .i64 (gi (gr r k) j)) := by
              rw [World.ownsRow.cellAt HOq.out j (by omega), clD_get _ (by rw [mixL_len, HGL.out]; exact hjt), gi_mixL f _ j (by rw [HGL.out]; exact hjt), if_neg (Nat.lt_irrefl j)]
            have fj : wr.frozen? ⟨b7, j, none⟩ = false := World.ownsRow.frozenAt HOq.out j
            have HSt := Lib.hid (World.ownsRow.stored HOq.out j (.int .i64 (f (gi (gr r k) j)))).1
            rw [mixL_set f (gr r k) (by rw [HGL.out]; exact hjt)] at HSt
            have HAj := Lib.hid (fun W => HAf.out (gi (gr r k) j) W a0 a1)
            obtain ⟨i0, i1⟩ := Hf64.out (gi (gr r k) j) a0 a1
            generalize gi (gr r k) j = x at *
            generalize f x = fx at *
            go_wp2_with (go_at_call 21; refine (HAj.out _).mono ?_; rintro E w9 ⟨rfl, rfl⟩)
            go_roundw
            case rel => exact ⟨j + 1, by omega, by go_num, hbq.setCell (p := ⟨b7, j, none⟩) (by simpa using hlo7) _, HSt⟩
            case measure => simp [intOf]; omega
          · obtain rfl : j = e.length := by omega
            have HXq := HXk.out.below hbq
            have HRq := Lib.hid (HRk.out.below hbq)
            have HLq : Hid (Lie wr b7 (agL f (gr r k))) := Lib.hid (by
              have := HOq.out
              rw [← HGL.out, mixL_all] at this
              exact owns_lie this (agL_len _ _))
            have hcq := owns_capD HOq.out
            have hbk7 : b7 < wr.heap.size := (World.ownsRow.lt HOq.out b7 rfl).2
            obtain ⟨x0, x1, x2, x3, x4, x5, x6, x7, x8, x9⟩ := HXq
            have HXX := Lib.hid (HXk.out.below hbq)
            have HAL : Hid ((agL f (gr r k)).length = e.length) := Lib.hid (by rw [agL_len]; exact HGL.out)
            have hbw := hbk.trans (hbq.mono (by omega))
            have hzD := block_lt x2
            have hD6 := HD6.out
            have HWP := Lib.hid (hbw.mono (Nat.le_refl _))
            clear x4 x5 hbq HXk HRk HOq HG0 x6 x7
            go_wp2_with (first
              | (at_builtin; (refine app_rws (by rfl) _ _ (by rfl) w6.heap.size k e.length v (fun i => agL f (gr r i)) (by rfl) (HRq.out.below ((Below.refl _ _).alloc (Nat.le_refl _) _)) b7 c7 ⟨HLq.out.alloc _, HAL.out, hlow6, by simp; omega, HVB.out, hcq⟩ (by omega) (by simp; omega) wr.heap.size (by rfl) (by simp [go_sem]) ?_); intro g8 c8 w8 hR8 hb8
                 have hb9 : Below w6.heap.size wr w8 := ((Below.refl _ _).alloc (by omega) _).trans hb8
                 have hR9 := Lib.hid hR8
                 have y2 : w8.cell? ⟨D, 2, none⟩ = some v := (hb9.cell (p := ⟨D, 2, none⟩) hD6).trans x2
                 have y3 : w8.frozen? ⟨D, 2, none⟩ = false := (hb9.frozen (p := ⟨D, 2, none⟩) hD6).trans x3
                 clear hR8 hb8))
            go_roundw
            case rel => exact ⟨k + 1, by omega, by go_num, (hbw.trans (hb9.mono (by omega))).setCell (p := ⟨D, 2, none⟩) hD _, _, Lib.hid ((HXX.out.low hb9 hD6 HX.out.s1 HX.out.s2).set _), Lib.hid (hR9.out.set hD6)⟩
            case measure => simp [intOf]; omega
      · obtain rfl : k = r.length := by omega
        obtain ⟨va, vc, rfl⟩ := HRk.out.len
        have hwB : Below wB.heap.size wB wo := HB6.out.trans (hbk.mono (by omega))
        obtain ⟨t0, t1, t2⟩ := HT.out
        obtain ⟨f0, f1, f2⟩ := HT3.out
        replace t0 := cell_below t0 hwB
        replace t1 := cell_below t1 hwB
        replace t2 := cell_below t2 hwB
        replace f0 := (hwB.frozen (p := ⟨w.heap.size + 1, 0, none⟩) hs2).trans f0
        replace f1 := (hwB.frozen (p := ⟨w.heap.size + 1, 1, none⟩) hs2).trans f1
        replace f2 := (hwB.frozen (p := ⟨w.heap.size + 1, 2, none⟩) hs2).trans f2
        obtain ⟨x0, x1, x2, x3, -, -, -, -, -, -⟩ := HXk.out
        have hneD : D ≠ w.heap.size + 1 := by omega
        have HWW := Lib.hid (hw6.trans (hbk.mono (by omega)))
        have HLL := Lib.hid (agR_len f r)
        have HGR := Lib.hid (fun i (hi : i < r.length) => gr_agR f r hi)
        clear hbk hwB
        go_wp2_with fail
        refine bodyPost_ret (v := .tuple #[.agg #[.slice (some ⟨g1, 0, none⟩) o.length c1, .slice (some ⟨g2, 0, none⟩) e.length c2, .slice va r.length vc], .int .i64 0]) (by simp [results, Try.results7, go_sem, t0, t1, t2]) rfl ?_
        have hb3 := fun v0 v1 v2 => below3D (D := w.heap.size + 1) (v0 := v0) (v1 := v1) (v2 := v2) (Below.refl (w.heap.size + 1) wo) (Nat.le_refl _)
        have hb4 := fun v0 v1 v2 => below3D (D := w.heap.size + 1) (v0 := v0) (v1 := v1) (v2 := v2) (Below.refl w.heap.size wo) (by omega)
        refine dimE_of (k := r.length) (HXk.out.three (by omega) (by omega) (by omega)) (HRk.out.three (by omega)) HSo.out HSe.out (by omega) HLL.out (by omega) HGR.out (fun i hi j hj => ?_) (HWW.out.trans (hb4 _ _ _)) rfl
        obtain ⟨h1, h2⟩ := HRow.out i hi
        rw [gi_agL f _ (by omega)]
        exact Hf64.out _ (h2 j hj).1 (h2 j hj).2
end Go.Proofs.Ytelehohffcncaaa
