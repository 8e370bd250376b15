/-
  least of package night. By an AI agent.; DERIVED: THE SHELF's CONTRACTS AT THIS DUMP, IN PLAIN WORDS (tools/lay-plain.mjs out of 'TryShelf.lean', which tools/lay-shelf.mjs wrote): THE SAME DECLARATIONS UNDER THE SAME NAMES: 'import', 'namespace', 'open', 'def', 'theorem' AND NOTHING ELSE: no command of the shelf's: FOR A HAND-IN. Each laying: the table of numbers ('.._ren') and one theorem, a field a fact of the dump's own or the kernel's comparison; each contract: ONE APPLICATION.; slices.Repeat of one int. By an AI agent.; greatest of package night. By an AI agent.
-/
import Derived.Test.YtghlhjiomebmhaaMgNightRight5
import Derived.Deep.RegionHeld3
import Derived.BigQuiet
import Derived.Carry
import Derived.Shelf.Small.Wraps
import Derived.Shelf.Bits.Mul64
import Derived.Ground.SlgnProg
import Derived.Shelf.SlicesE.Clone
import Derived.Test.YtghlhjiomebmhaaProg
import Derived.Laws.IdiomCopy
import Derived.OwnWalk
import Derived.StillTailTactics

namespace Go.Proofs.Ytghlhjiomebmhaa
set_option linter.unusedVariables false
set_option linter.unusedSimpArgs false
open Go.RowKit

def noT : Int → Bool := fun _ => false
theorem untr_noT : ∀ N, untr noT N = N
  | 0 => rfl
  | k + 1 => by unfold untr; rw [untr_noT k]; simp [noT]
/-- The first k jobs are placed, one after the other. -/
def grtK (C : List (List Int)) (P : List Int) (D : Nat) : Nat → List Int → List Int
  | 0, p => p
  | k + 1, p => (plF C P 0 D k (grtK C P D k p) noT).2.1
/-- The first k jobs are taken out and placed anew, one after the other. -/
def lstK (C : List (List Int)) (P : List Int) (D : Nat) : Nat → List Int → List Int
  | 0, p => p
  | k + 1, p => (plF C P (k + 1) D k ((lstK C P D k p).set k (-1)) noT).2.1
theorem grtK_len (C : List (List Int)) (P : List Int) (D : Nat) (p : List Int) : ∀ k, (grtK C P D k p).length = p.length
  | 0 => rfl
  | k + 1 => ((plF_keeps C P 0 D k _ _).1).trans (grtK_len C P D p k)
theorem lstK_len (C : List (List Int)) (P : List Int) (D : Nat) (p : List Int) : ∀ k, (lstK C P D k p).length = p.length
  | 0 => rfl
  | k + 1 => ((plF_keeps C P (k + 1) D k _ _).1).trans (by rw [List.length_set]; exact lstK_len C P D p k)
/-- An offer: lists of nights and their places. -/
structure OfS (w : World) (C : List (List Int)) (P : List Int) (ac ap : Option Addr) (L N : Nat) : Prop where
  rows : RowsS w ac C
  ints : IntsS w ap P
  cl : C.length = L
  pn : P.length = N
  small : L ≤ 1000
  smallN : N ≤ 1000
  ent : ∀ i, i < L → ∀ j, j < (gr C i).length → ∃ m : Nat, gi (gr C i) j = m ∧ m < N
  wid : ∀ i, i < L → (gr C i).length ≤ N
theorem OfS.below {w w' : World} {C : List (List Int)} {P : List Int} {ac ap : Option Addr} {L N : Nat} (h : OfS w C P ac ap L N) (hb : Below w.heap.size w w') : OfS w' C P ac ap L N :=
  ⟨h.rows.below hb, h.ints.below hb, h.cl, h.pn, h.small, h.smallN, h.ent, h.wid⟩
theorem OfS.place {w wr : World} {C : List (List Int)} {P : List Int} {ac ap : Option Addr} {L N : Nat} (h : OfS w C P ac ap L N) (cc cp cap g fr k : Nat) (q : List Int) (hb : Below w.heap.size w wr) (hg : w.heap.size ≤ g) (hgw : g < wr.heap.size) (hq : q.length = L) (hP : PlanR wr g q) (hk : k < L) (hfr : fr ≤ L) :
    Calls Try.prog 64 #[.agg #[.slice ac L cc, .slice ap N cp], .slice (some ⟨g, 0, none⟩) L cap, .int .i64 k, .int .i64 fr, .map (some wr.heap.size)] (wr.alloc (.map #[] 0)) fun e w' => PlE g wr.heap.size 0 N (wr.alloc (.map #[] 0)) noT (plF C P fr (N + 1) k q noT) e w' :=
  place_all (N + 1) w (wr.alloc (.map #[] 0)) C P ac ap cc cp L N g wr.heap.size 0 cap q noT fr k
    ⟨h.rows, h.ints, hb.alloc hb.size _, hg, hb.size, by omega, by simp; omega, h.cl, h.pn, hq, hP.same (Below.heap_alloc _ _ _ hgw), MapB.made _ _ _ _, by rw [untr_noT]; omega, by rw [untr_noT]; have := h.smallN; omega, h.small, h.smallN, h.ent⟩ hk hfr
set_option maxRecDepth 100000 in
set_option maxHeartbeats 2000000 in
theorem least_r (C : List (List Int)) (P : List Int) (ac ap : Option Addr) (cc cp L N : Nat) (w : World) (h : OfS w C P ac ap L N) (a : Addr) (q : List Int) (cq : Nat) (hA : IntsC w (some a) q) (hq : q.length = L) :
    Calls Try.prog 45 #[.agg #[.slice ac L cc, .slice ap N cp], .slice (some a) L cq] w fun e w' => PlnE w (lstK C P (N + 1) L q) e w' := by
  obtain ⟨wB, hwB⟩ : ∃ wB, w.alloc (.cells #[.slice ac L cc, .slice ap N cp] 64) = wB := ⟨_, rfl⟩
  have hbB : Below w.heap.size w wB := by rw [← hwB]; exact (Below.refl _ _).alloc (Nat.le_refl _) _
  have p0 : wB.cell? ⟨w.heap.size, 0, none⟩ = some (.slice ac L cc) := by rw [← hwB]; simp [go_sem]
  have p1 : wB.cell? ⟨w.heap.size, 1, none⟩ = some (.slice ap N cp) := by rw [← hwB]; simp [go_sem]
  have hsm := h.small
  have HCl := Lib.hid (clone_p a q cq wB (hA.below hbB) (by omega))
  have HN : Hid (∀ k, (lstK C P (N + 1) k q).length = L) := Lib.hid fun k => (lstK_len C P (N + 1) q k).trans hq
  have HS : Hid (∀ k, lstK C P (N + 1) (k + 1) q = (plF C P (k + 1) (N + 1) k ((lstK C P (N + 1) k q).set k (-1)) noT).2.1) := Lib.hid fun k => rfl
  have H0 : Hid (lstK C P (N + 1) 0 q = q) := Lib.hid rfl
  have HO := Lib.hid h
  rw [hq] at HCl
  have hmm := @run_makeMap Try.prog
  have hqh := Lib.hid hq
  clear hA h hq
  go_enter Try.func45, Try.ntmps45
  go_wp2_with fail
  refine HCl.out.mono ?_
  rintro e wo ⟨g, cg, rfl, hpo, hg1, hg2, hbo⟩
  have hpo := Lib.hid hpo
  have p0 := cell_below p0 hbo
  have p1 := cell_below p1 hbo
  have hz := block_lt p0
  have hgb : w.heap.size < wB.heap.size := by rw [← hwB]; simp
  have hb := Lib.hid (below_onN hbB hbo hbB.size)
  rw [hqh.out]
  clear HCl hwB hbB hbo
  go_wp2_with fail
  go_loopw [11] (fun i wr => ∃ k : Nat, k ≤ L ∧ i = .int .i64 k ∧ Hid (PlanR wr g (lstK C P (N + 1) k q)) ∧ Hid (Below w.heap.size w wr) ∧ g < wr.heap.size ∧ wr.cell? ⟨w.heap.size, 0, none⟩ = some (.slice ac L cc) ∧ wr.cell? ⟨w.heap.size, 1, none⟩ = some (.slice ap N cp)) (fun i _ => L - (intOf i).toNat)
  case atStart => exact ⟨0, Nat.zero_le _, rfl, by rw [H0.out]; exact hpo, hb, hg2, p0, p1⟩
  case round =>
    obtain ⟨k, hk, rfl, HP, hb, hgw, p0, p1⟩ := hrel
    clear hpo hg2 hz
    by_cases hlt : k < L
    · have hSk := Lib.hid (HS.out k)
      have hNk := Lib.hid (HN.out k)
      clear HS HN H0
      generalize lstK C P (N + 1) k q = s at *
      have hks : k < s.length := by rw [hNk.out]; exact hlt
      have cgk := HP.out.1 k hks
      have fg := HP.out.2 k hks
      have hgs : g ≠ w.heap.size := by omega
      obtain ⟨wA, hwA⟩ : ∃ wA, wr.setCell ⟨g, k, none⟩ (.int .i64 (-1)) = wA := ⟨_, rfl⟩
      have hP2 : Hid (PlanR wA g (s.set k (-1))) := Lib.hid (by rw [← hwA]; exact HP.out.store hks (-1))
      have hb2 : Hid (Below w.heap.size w wA) := Lib.hid (by rw [← hwA]; exact hb.out.setCell (p := ⟨g, k, none⟩) (show w.heap.size ≤ g by omega) _)
      have hgA : g < wA.heap.size := by rw [← hwA]; simpa using hgw
      have p0 : wA.cell? ⟨w.heap.size, 0, none⟩ = some (.slice ac L cc) := by rw [← hwA]; exact (World.cell?_setCell_far _ _ _ _ (fun e => hgs e)).trans p0
      have p1 : wA.cell? ⟨w.heap.size, 1, none⟩ = some (.slice ap N cp) := by rw [← hwA]; exact (World.cell?_setCell_far _ _ _ _ (fun e => hgs e)).trans p1
      have HPl := Lib.hid (HO.out.place cc cp cg g (k + 1) k (s.set k (-1)) hb2.out (by omega) hgA (by rw [List.length_set]; exact hNk.out) hP2.out hlt (by omega))
      have hk1 : (((k + 1 : Nat) : Int)) = (k : Int) + 1 := by omega
      rw [hk1] at HPl
      have hkb : IntKind.i64.wrap ((k : Int) + 1) = (k : Int) + 1 := IntWalk.i64_in _ (by omega)
      generalize plF C P (k + 1) (N + 1) k (s.set k (-1)) noT = r at *
      clear hk1 hks hP2 HP hNk
      go_wp2_with fail
      refine HPl.out.mono ?_
      rintro e w5 ⟨rfl, h5, -, h8⟩
      have hz0 := block_lt p0
      have p0 := h8.cell (cell_below p0 ((Below.refl wA.heap.size wA).alloc (Nat.le_refl _) (.map #[] 0))) (fun e => hgs e.symm) (by omega)
      have p1 := h8.cell (cell_below p1 ((Below.refl wA.heap.size wA).alloc (Nat.le_refl _) (.map #[] 0))) (fun e => hgs e.symm) (by omega)
      have hbs := hb2.out.size
      have hb5 : Hid (Below w.heap.size w w5) := Lib.hid ((hb2.out.alloc hbs _).trans (h8.below (by omega) (by omega) (by simp; omega)))
      have hg5 : g < w5.heap.size := Nat.lt_of_lt_of_le (by simp; omega) h8.size
      have h5 := Lib.hid h5
      clear h8 HPl hwA hgA
      go_wp2_with fail
      go_roundw
      case rel => exact ⟨k + 1, by omega, by go_num, by rw [hSk.out]; exact h5, hb5, hg5, p0, p1⟩
      case measure => simp [intOf]; omega
    · obtain rfl : k = L := by omega
      go_wp2_with fail
      go_ret
      exact ⟨g, cg, by rw [HN.out]; rfl, HP.out, by omega, hgw, hb.out⟩
end Go.Proofs.Ytghlhjiomebmhaa

namespace Go.Proofs
open Go.Shelf
def Try.lays212_ren : Go.Shelf.Ren := ⟨fun | 212 => 75 | 263 => 78 | 264 => 79 | n => n, fun | 46 => 89 | 51 => 92 | 146 => 93 | 53 => 95 | 148 => 96 | n => n, fun | n => n⟩
theorem Try.lays212 : Go.Proofs.Lays.n212 Try.prog Try.lays212_ren := {
  mixed := by kernel_rfl
  f212 := Try.func75.trans (congrArg some (by kernel_rfl))
  f263 := Try.func78.trans (congrArg some (by kernel_rfl))
  f264 := Try.func79.trans (congrArg some (by kernel_rfl))
  t46 := Try.underlying89
  a46 := Try.isAgg89
  z46 := Try.sizeOf89
  v46 := Try.zeroValue89
  t51 := Try.underlying92
  a51 := Try.isAgg92
  z51 := Try.sizeOf92
  v51 := Try.zeroValue92
  t53 := Try.underlying95
  a53 := Try.isAgg95
  z53 := Try.sizeOf95
  v53 := Try.zeroValue95
  t146 := Try.underlying93
  a146 := Try.isAgg93
  z146 := Try.sizeOf93
  v146 := Try.zeroValue93
  t148 := Try.underlying96
  a148 := Try.isAgg96
  z148 := Try.sizeOf96
  v148 := Try.zeroValue96 }
open Go.RowKit Go.Lib in
/-- math/bits.Mul: "Mul returns the full-width product of x and y": on a machine of 64 bits: Mul64's. (LAID: no walk: one application.) -/
theorem Try.bits_Mul (x y : Nat) (hx : x < 18446744073709551616) (hy : y < 18446744073709551616) (w : World) :
    Calls Try.prog 75 #[.int .u64 x, .int .u64 y] w fun e w' => e = .returned (.tuple #[.int .u64 ((x * y / 18446744073709551616 : Nat) : Int), .int .u64 ((x * y % 18446744073709551616 : Nat) : Int)]) ∧ w' = w := Any.bits_Mul Try.lays212 x y hx hy w
end Go.Proofs

namespace Go.Proofs.Ytghlhjiomebmhaa
set_option linter.unusedVariables false
set_option linter.unusedSimpArgs false
open Go.RowKit

theorem below_cellsN {B b : Nat} {a : World} (hb : B ≤ b) : ∀ (vs : List Value) (o : Nat) (w : World), Below B a w → Below B a (w.setCells b o vs)
  | [], _, _, h => h
  | v :: r, o, w, h => below_cellsN hb r (o + 1) _ (h.setCell (p := ⟨b, o, none⟩) hb v)
theorem mul_one_r (n : Nat) (hn : n ≤ 1000000) (w : World) :
    Calls Try.prog 75 #[.int .u64 1, .int .u64 n] w fun e w' => e = .returned (.tuple #[.int .u64 0, .int .u64 n]) ∧ w' = w := by
  have := Try.bits_Mul 1 n (by omega) (by omega) w
  rw [Nat.one_mul, Nat.div_eq_of_lt (by omega), Nat.mod_eq_of_lt (by omega)] at this
  exact this
/-- A row whose first m of n ints are v, the others 0. -/
def RepR (w : World) (G n m : Nat) (v : Int) : Prop := (∀ i, i < n → w.cell? ⟨G, i, none⟩ = some (.int .i64 (if i < m then v else 0))) ∧ ∀ i, i < n → w.frozen? ⟨G, i, none⟩ = false
theorem RepR.step {w : World} {G n m k : Nat} {v : Int} (h : RepR w G n m v) (hk : m + k ≤ n) : RepR (w.setCells G m (List.replicate k (.int .i64 v))) G n (m + k) v := by
  refine ⟨fun i hi => ?_, fun i hi => by rw [World.frozen?_setCells]; exact h.2 i hi⟩
  by_cases h1 : m ≤ i ∧ i < m + k
  · have := World.cell?_setCells_in G (List.replicate k (Value.int .i64 v)) m w (fun j hj => by rw [h.1 (m + j) (by simp at hj; omega)]; rfl) (i - m) (by simp; omega)
    rw [show m + (i - m) = i by omega] at this
    rw [this, if_pos h1.2]; simp
  · rw [World.cell?_setCells_out G _ m w ⟨G, i, none⟩ (fun _ _ => by simp; omega), h.1 i hi]
    congr 2
    by_cases e : i < m
    · rw [if_pos e, if_pos (by omega)]
    · rw [if_neg e, if_neg (by omega)]
theorem RepR.plan {w : World} {G n : Nat} {v : Int} (h : RepR w G n n v) : PlanR w G (List.replicate n v) := by
  refine ⟨fun i hi => ?_, fun i hi => h.2 i (by simpa using hi)⟩
  have hi : i < n := by simpa using hi
  rw [h.1 i hi, if_pos hi]
  unfold gi
  simp [hi]
theorem RepR.made {w : World} {base g n : Nat} {v : Int} (h : w.ownsRow base 3 1 (.slice (some ⟨g, 0, none⟩) n n) n (madeCells #[Value.int .i64 0] n).toList) : RepR w g n 0 v := by
  rw [toList_madeCells_one] at h
  refine ⟨fun i hi => ?_, fun i hi => World.ownsRow.frozenAt h i⟩
  rw [World.ownsRow.cellAt h i (by omega), if_neg (by omega)]
  simp [hi]
theorem copy_r {w : World} (ty : TypeId) (G n m k dl dc sl sc : Nat) (v : Int) (a : Addr) (h : RepR w G n m v) (hk : m + k ≤ n) (hkk : k = Nat.min sl dl) (hs : ∀ j, j < k → w.cell? (a.add j) = some (.int .i64 v)) :
    (Builtin.copy_ #[26, 26] ty #[.slice (some ⟨G, m, none⟩) dl dc, .slice (some a) sl sc]).run Try.prog w = .ok (.int .i64 k) (w.setCells G m (List.replicate k (.int .i64 v))) := by
  have := run_copy_cells (P := Try.prog) w 26 26 ty 3 G m dl dc a sl sc (List.replicate k (.int .i64 v)) undRow (by kernel_rfl) (by simp [hkk]) (fun j u hj => by
    rw [List.getElem?_replicate] at hj
    split at hj
    · next hjk => cases hj; exact hs j hjk
    · cases hj) (fun j hj => by rw [h.1 (m + j) (by simp at hj; omega)]; rfl) (fun j hj => h.2 (m + j) (by simp at hj; omega)) (fun u hu => by rw [(List.mem_replicate.1 hu).2]; rfl)
  rw [this]
  simp [goInt]
set_option maxRecDepth 100000 in
set_option maxHeartbeats 2000000 in
theorem repeat_r (b n : Nat) (v : Int) (hn0 : 0 < n) (hn : n ≤ 1000) (w : World) (c0 : w.cell? ⟨b, 0, none⟩ = some (.int .i64 v)) :
    Calls Try.prog 63 #[.slice (some ⟨b, 0, none⟩) 1 1, .int .i64 n] w fun e w' => PlnE w (List.replicate n v) e w' := by
  obtain ⟨i0, hi, hz0, hz1, hz2⟩ := info_parts infoInt
  have HM := Lib.hid (fun W => mul_one_r n (by omega) W)
  have hw1 : IntKind.u64.wrap (n : Int) = n := by rw [IntKind.wrap_u64]; omega
  have hbz := block_lt c0
  go_enter Try.func63, Try.ntmps63
  go_wp2_with fail
  refine (HM.out _).mono ?_
  rintro e w1 ⟨rfl, rfl⟩
  go_wp2_with (first | (refine wpList_make_full _ rfl _ _ 26 rfl w1.heap.size 3 i0 (.int .i64 0) 1 Try.underlying26 hi hz0 hz1 _ _ (n : Int) (n : Int) n rfl rfl (by omega) (by omega) ?c1 ?c2 ?c3 ?_))
  case c1 => rw [hz2]; omega
  case c2 => unfold maxLen; omega
  case c3 => simp
  intro wm hown hgrow
  have hr := RepR.made (v := v) hown
  have hbm : Below w1.heap.size w1 wm := (Below.refl _ _).grown hgrow (Nat.le_refl _) (fun k h => by cases h)
  have cb := cell_below c0 hbm
  have hcp : ∀ ty, (Builtin.copy_ #[26, 26] ty #[.slice (some ⟨w1.heap.size, 0, none⟩) n n, .slice (some ⟨b, 0, none⟩) 1 1]).run Try.prog wm = .ok (.int .i64 1) (wm.setCells w1.heap.size 0 (List.replicate 1 (.int .i64 v))) := fun ty => copy_r ty w1.heap.size n 0 1 n n 1 1 v ⟨b, 0, none⟩ hr (by omega) (by simp [Nat.min_def]; omega) (fun j hj => by
    obtain rfl : j = 0 := by omega
    exact cb)
  have hr1 := Lib.hid (hr.step (k := 1) (by omega))
  have hb1 := Lib.hid (below_cellsN (b := w1.heap.size) (Nat.le_refl _) (List.replicate 1 (.int .i64 v)) 0 _ hbm)
  have hzm : w1.heap.size < wm.heap.size := block_lt (hr.1 0 hn0)
  clear hown hgrow hr cb hbm
  go_wp2_with fail
  go_loopw [8] (fun i wr => ∃ m : Nat, 0 < m ∧ m ≤ n ∧ i = .int .i64 m ∧ Hid (RepR wr w1.heap.size n m v) ∧ Hid (Below w1.heap.size w1 wr)) (fun i _ => n - (intOf i).toNat)
  case atStart => exact ⟨1, by omega, by omega, rfl, hr1, hb1⟩
  case round =>
    obtain ⟨m, hm0, hm, rfl, HR, hb⟩ := hrel
    clear hcp hr1 hb1
    by_cases hlt : m < n
    · have f1 : (0 : Int) ≤ m := by omega
      have f2 : (m : Int) ≤ n := by omega
      have f3 : IntKind.i64.wrap (m : Int) = m := IntWalk.i64_in _ (by omega)
      obtain ⟨k, hk⟩ : ∃ k, Nat.min m (n - m) = k := ⟨_, rfl⟩
      have hk1 : 0 < k ∧ m + k ≤ n := by rw [← hk]; simp only [Nat.min_def]; split <;> omega
      have hr2 : RepR wr.drew w1.heap.size n m v := HR.out
      have hcp : ∀ ty, (Builtin.copy_ #[26, 26] ty #[.slice (some ⟨w1.heap.size, m, none⟩) (n - m) (n - m), .slice (some ⟨w1.heap.size, 0, none⟩) m n]).run Try.prog wr.drew = .ok (.int .i64 k) (wr.drew.setCells w1.heap.size m (List.replicate k (.int .i64 v))) := fun ty => copy_r ty w1.heap.size n m k (n - m) (n - m) m n v ⟨w1.heap.size, 0, none⟩ hr2 hk1.2 hk.symm (fun j hj => by
        have := hr2.1 j (by omega)
        rw [if_pos (by rw [← hk] at hj; simp only [Nat.min_def] at hj; split at hj <;> omega)] at this
        have e : (⟨w1.heap.size, 0, none⟩ : Addr).add j = ⟨w1.heap.size, j, none⟩ := by unfold Addr.add; split <;> simp_all
        rw [e]; exact this)
      have hr3 := Lib.hid (hr2.step hk1.2)
      have hb3 := Lib.hid (below_cellsN (Nat.le_refl _) (List.replicate k (.int .i64 v)) m _ hb.out.drew)
      have hnm : n ≠ m := by omega
      have wmk : IntKind.i64.wrap ((m : Int) + k) = m + k := IntWalk.i64_in _ (by omega)
      obtain ⟨hk0, hk2⟩ := hk1
      clear hr2 HR hb hk
      go_wp2_with fail
      go_region_law (fail)
      all_goals
        go_simp
        go_roundw
        case rel =>
          refine ⟨.int .i64 ((m : Int) + k), ?_⟩
          iterate 13 apply Exists.intro
          exact ⟨⟨m + k, by omega, hk2, by go_num, hr3, hb3⟩, rfl⟩
        case measure => simp [intOf]; omega
    · obtain rfl : m = n := by omega
      have hz9 := block_lt (HR.out.1 0 hn0)
      have hL : Hid ((List.replicate m v).length = m) := Lib.hid (by simp)
      go_wp2_with fail
      go_ret
      exact ⟨w1.heap.size, m, by rw [hL.out]; rfl, HR.out.plan, Nat.le_refl _, hz9, hb.out⟩
end Go.Proofs.Ytghlhjiomebmhaa

namespace Go.Proofs.Ytghlhjiomebmhaa
set_option linter.unusedVariables false
set_option linter.unusedSimpArgs false
open Go.RowKit

theorem mul_zero_r (w : World) :
    Calls Try.prog 75 #[.int .u64 1, .int .u64 0] w fun e w' => e = .returned (.tuple #[.int .u64 0, .int .u64 0]) ∧ w' = w := mul_one_r 0 (by omega) w
set_option maxRecDepth 100000 in
set_option maxHeartbeats 2000000 in
theorem repeat0_r (b : Nat) (w : World) :
    Calls Try.prog 63 #[.slice (some ⟨b, 0, none⟩) 1 1, .int .i64 0] w fun e w' => PlnE w [] e w' := by
  obtain ⟨i0, hi, hz0, hz1, hz2⟩ := info_parts infoInt
  have HM := Lib.hid (fun W => mul_zero_r W)
  go_enter Try.func63, Try.ntmps63
  go_wp2_with fail
  refine (HM.out _).mono ?_
  rintro e w1 ⟨rfl, rfl⟩
  go_wp2_with (first | (refine wpList_make_full _ rfl _ _ 26 rfl w1.heap.size 3 i0 (.int .i64 0) 1 Try.underlying26 hi hz0 hz1 _ _ (0 : Int) (0 : Int) 0 rfl rfl (by omega) (by omega) ?c1 ?c2 ?c3 ?_))
  case c1 => rw [hz2]; omega
  case c2 => unfold maxLen; omega
  case c3 => simp
  intro wm hown hgrow
  have hbm : Below w1.heap.size w1 wm := (Below.refl _ _).grown hgrow (Nat.le_refl _) (fun k h => by cases h)
  have hcp : ∀ ty, (Builtin.copy_ #[26, 26] ty #[.slice (some ⟨w1.heap.size, 0, none⟩) 0 0, .slice (some ⟨b, 0, none⟩) 1 1]).run Try.prog wm = .ok (.int .i64 0) wm := fun ty => run_copy_none wm _ _ ty 3 _ _ 0 0 1 1 undRow (by kernel_rfl) (by simp)
  have hzm : w1.heap.size < wm.heap.size := (World.ownsRow.lt hown w1.heap.size rfl).2
  clear hown hgrow
  go_wp2_with fail
  go_loopw [8] (fun i wr => i = .int .i64 0 ∧ wr = wm) (fun i _ => 0)
  case atStart => exact ⟨rfl, rfl⟩
  case round =>
    obtain ⟨rfl, rfl⟩ := hrel
    go_wp2_with fail
    go_ret
    exact ⟨w1.heap.size, 0, rfl, ⟨fun i hi => absurd hi (Nat.not_lt_zero _), fun i hi => absurd hi (Nat.not_lt_zero _)⟩, Nat.le_refl _, hzm, hbm⟩
theorem repeat_all (b n : Nat) (v : Int) (hn : n ≤ 1000) (w : World) (c0 : w.cell? ⟨b, 0, none⟩ = some (.int .i64 v)) :
    Calls Try.prog 63 #[.slice (some ⟨b, 0, none⟩) 1 1, .int .i64 n] w fun e w' => PlnE w (List.replicate n v) e w' := by
  by_cases h : 0 < n
  · exact repeat_r b n v h hn w c0
  · obtain rfl : n = 0 := by omega
    exact repeat0_r b w
set_option maxRecDepth 100000 in
set_option maxHeartbeats 2000000 in
theorem greatest_r (C : List (List Int)) (P : List Int) (ac ap : Option Addr) (cc cp L N : Nat) (w : World) (h : OfS w C P ac ap L N) :
    Calls Try.prog 43 #[.agg #[.slice ac L cc, .slice ap N cp]] w fun e w' => PlnE w (grtK C P (N + 1) L (List.replicate L (-1))) e w' := by
  obtain ⟨wB, hwB⟩ : ∃ wB, (w.alloc (.cells #[.slice ac L cc, .slice ap N cp] 64)).alloc (.cells #[.int .i64 (-1)] 3) = wB := ⟨_, rfl⟩
  have hbB : Below w.heap.size w wB := by rw [← hwB]; exact ((Below.refl _ _).alloc (Nat.le_refl _) _).alloc (by simp) _
  have p0 : wB.cell? ⟨w.heap.size, 0, none⟩ = some (.slice ac L cc) := by rw [← hwB]; simp [go_sem]
  have p1 : wB.cell? ⟨w.heap.size, 1, none⟩ = some (.slice ap N cp) := by rw [← hwB]; simp [go_sem]
  have q0 : wB.cell? ⟨w.heap.size + 1, 0, none⟩ = some (.int .i64 (-1)) := by rw [← hwB]; simp [go_sem]
  have hsm := h.small
  have HRp := Lib.hid (repeat_all (w.heap.size + 1) L (-1) hsm wB q0)
  have hqh : Hid ((List.replicate L (-1 : Int)).length = L) := Lib.hid (by simp)
  generalize List.replicate L (-1 : Int) = q at *
  have HN : Hid (∀ k, (grtK C P (N + 1) k q).length = L) := Lib.hid fun k => (grtK_len C P (N + 1) q k).trans hqh.out
  have HS : Hid (∀ k, grtK C P (N + 1) (k + 1) q = (plF C P 0 (N + 1) k (grtK C P (N + 1) k q) noT).2.1) := Lib.hid fun k => rfl
  have H0 : Hid (grtK C P (N + 1) 0 q = q) := Lib.hid rfl
  have HO := Lib.hid h
  have hmm := @run_makeMap Try.prog
  clear h q0
  go_enter Try.func43, Try.ntmps43
  go_wp2_with fail
  refine HRp.out.mono ?_
  rintro e wo ⟨g, cg, rfl, hpo, hg1, hg2, hbo⟩
  have hpo := Lib.hid hpo
  have p0 := cell_below p0 hbo
  have p1 := cell_below p1 hbo
  have hz := block_lt p0
  have hgb : w.heap.size < wB.heap.size := by rw [← hwB]; simp; omega
  have hb := Lib.hid (below_onN hbB hbo hbB.size)
  rw [hqh.out]
  clear HRp hwB hbB hbo
  go_wp2_with fail
  go_loopw [12] (fun i wr => ∃ k : Nat, k ≤ L ∧ i = .int .i64 k ∧ Hid (PlanR wr g (grtK C P (N + 1) k q)) ∧ Hid (Below w.heap.size w wr) ∧ g < wr.heap.size ∧ wr.cell? ⟨w.heap.size, 0, none⟩ = some (.slice ac L cc) ∧ wr.cell? ⟨w.heap.size, 1, none⟩ = some (.slice ap N cp)) (fun i _ => L - (intOf i).toNat)
  case atStart => exact ⟨0, Nat.zero_le _, rfl, by rw [H0.out]; exact hpo, hb, hg2, p0, p1⟩
  case round =>
    obtain ⟨k, hk, rfl, HP, hb, hgw, p0, p1⟩ := hrel
    clear hpo hg2 hz
    by_cases hlt : k < L
    · have hSk := Lib.hid (HS.out k)
      have hNk := Lib.hid (HN.out k)
      clear HS HN H0
      generalize grtK C P (N + 1) k q = s at *
      have hgs : g ≠ w.heap.size := by omega
      have HPl := Lib.hid (HO.out.place cc cp cg g 0 k s hb.out (by omega) hgw hNk.out HP.out hlt (by omega))
      generalize plF C P 0 (N + 1) k s noT = r at *
      clear HP hNk
      go_wp2_with fail
      refine HPl.out.mono ?_
      rintro e w5 ⟨rfl, h5, -, h8⟩
      have hz0 := block_lt p0
      have p0 := h8.cell (cell_below p0 ((Below.refl wr.heap.size wr).alloc (Nat.le_refl _) (.map #[] 0))) (fun e => hgs e.symm) (by omega)
      have p1 := h8.cell (cell_below p1 ((Below.refl wr.heap.size wr).alloc (Nat.le_refl _) (.map #[] 0))) (fun e => hgs e.symm) (by omega)
      have hbs := hb.out.size
      have hb5 : Hid (Below w.heap.size w w5) := Lib.hid ((hb.out.alloc hbs _).trans (h8.below (by omega) (by omega) (by simp; omega)))
      have hg5 : g < w5.heap.size := Nat.lt_of_lt_of_le (by simp; omega) h8.size
      have h5 := Lib.hid h5
      clear h8 HPl
      go_wp2_with fail
      go_roundw
      case rel => exact ⟨k + 1, by omega, by go_num, by rw [hSk.out]; exact h5, hb5, hg5, p0, p1⟩
      case measure => simp [intOf]; omega
    · obtain rfl : k = L := by omega
      go_wp2_with fail
      go_ret
      exact ⟨g, cg, by rw [HN.out]; rfl, HP.out, by omega, hgw, hb.out⟩
end Go.Proofs.Ytghlhjiomebmhaa
