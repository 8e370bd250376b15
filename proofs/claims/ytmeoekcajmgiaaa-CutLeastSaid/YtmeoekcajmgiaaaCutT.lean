/-
  The walks of with and of fewest: the table of the best states. By an AI agent.
-/
import Derived.Test.YtmeoekcajmgiaaaCutR
import Derived.Test.YtmeoekcajmgiaaaCutS
namespace Go.Proofs.Ytmeoekcajmgiaaa
set_option linter.unusedVariables false
set_option linter.unusedSimpArgs false
open Go.RowKit

set_option maxRecDepth 100000 in
theorem with_any (r t s m : Int) (w : World) (r0 : 0 ≤ r) (r1 : r ≤ 100) (t0 : 0 ≤ t) (t1 : t ≤ 5000) (s0 : 0 ≤ s) (s1 : s ≤ 5000) :
    Calls Try.prog 35 #[.agg #[.int .i64 r, .int .i64 t], .int .i64 s, .int .i64 m] w fun e w' => e = .returned (.agg #[.int .i64 (withS (r, t) s m).1, .int .i64 (withS (r, t) s m).2]) ∧ Below w.heap.size w w' := by
  unfold withS
  by_cases h : t + s ≤ m
  · rw [if_pos h]
    go_enter Try.func35, Try.ntmps35
    go_wp2
    refine bodyPost_ret (v := .agg #[.int .i64 r, .int .i64 (t + s)]) (by simp [results, Try.results35, go_sem]) rfl ⟨rfl, ?_⟩
    repeat (refine Below.setCell ?_ (by simp) _)
    exact ((Below.refl _ _).alloc (Nat.le_refl _) _ : Below w.heap.size w (w.alloc _)).alloc (by simp) _
  · rw [if_neg h]
    go_enter Try.func35, Try.ntmps35
    go_wp2
    refine bodyPost_ret (v := .agg #[.int .i64 (r + 1), .int .i64 s]) (by simp [results, Try.results35, go_sem]) rfl ⟨rfl, ?_⟩
    repeat (refine Below.setCell ?_ (by simp) _)
    exact ((Below.refl _ _).alloc (Nat.le_refl _) _ : Below w.heap.size w (w.alloc _)).alloc (by simp) _

/-- A table of states in memory. -/
def fl (T : Nat → Int × Int) (j : Nat) : Int := if j % 2 = 0 then (T (j / 2)).1 else (T (j / 2)).2
def updT (T : Nat → Int × Int) (S : Nat) (v : Int × Int) : Nat → Int × Int := fun x => if x = S then v else T x
theorem updT_same (T : Nat → Int × Int) (S : Nat) (v : Int × Int) : updT T S v S = v := by unfold updT; rw [if_pos rfl]
theorem updT_other (T : Nat → Int × Int) {S x : Nat} (v : Int × Int) (h : x ≠ S) : updT T S v x = T x := by unfold updT; rw [if_neg h]
theorem updT_twice (T : Nat → Int × Int) (S : Nat) (u v : Int × Int) : updT (updT T S u) S v = updT T S v := by
  funext x
  unfold updT
  split <;> rfl
theorem updT_self (T : Nat → Int × Int) (S : Nat) : updT T S (T S) = T := by
  funext x
  unfold updT
  split
  · rename_i h; rw [h]
  · rfl
def PRow (w0 : Nat) (w : World) (g N : Nat) (T : Nat → Int × Int) : Prop := w.ownsRow w0 72 2 (.slice (some ⟨g, 0, none⟩) N N) N ((List.range (N * 2)).map fun j => .int .i64 (fl T j))
theorem PRow.cell0 {w0 : Nat} {w : World} {g N : Nat} {T : Nat → Int × Int} (h : PRow w0 w g N T) {S : Nat} (hS : S < N) : w.cell? ⟨g, S * 2, none⟩ = some (.int .i64 (T S).1) := by
  rw [World.ownsRow.cellAt h (S * 2) (by omega)]
  have : S * 2 < N * 2 := by omega
  simp [this, fl]
theorem PRow.cell1 {w0 : Nat} {w : World} {g N : Nat} {T : Nat → Int × Int} (h : PRow w0 w g N T) {S : Nat} (hS : S < N) : w.cell? ⟨g, S * 2 + 1, none⟩ = some (.int .i64 (T S).2) := by
  rw [World.ownsRow.cellAt h (S * 2 + 1) (by omega)]
  have h1 : S * 2 + 1 < N * 2 := by omega
  have h2 : (S * 2 + 1) / 2 = S := by omega
  have h3 : (S * 2 + 1) % 2 = 1 := by omega
  simp [h1, fl, h2, h3]
theorem PRow.frozen {w0 : Nat} {w : World} {g N : Nat} {T : Nat → Int × Int} (h : PRow w0 w g N T) (j : Nat) : w.frozen? ⟨g, j, none⟩ = false := World.ownsRow.frozenAt h j
theorem PRow.below {w0 : Nat} {w w' : World} {g N : Nat} {T : Nat → Int × Int} (h : PRow w0 w g N T) (hb : Below w.heap.size w w') : PRow w0 w' g N T := owns_below h hb
theorem prow_set {w0 : Nat} {w : World} {g N j : Nat} {T T' : Nat → Int × Int} {v : Int} (h : PRow w0 w g N T) (hf : ∀ i, fl T' i = if i = j then v else fl T i) : PRow w0 (w.setCell ⟨g, j, none⟩ (.int .i64 v)) g N T' := by
  have := (World.ownsRow.stored h j (.int .i64 v)).1
  unfold PRow
  rwa [show ((List.range (N * 2)).map fun i => Value.int .i64 (fl T' i)) = ((List.range (N * 2)).map fun i => Value.int .i64 (fl T i)).set j (.int .i64 v) from ?_]
  apply List.ext_getElem
  · simp
  · intro i h1 h2
    rw [List.getElem_set]
    simp only [List.getElem_map, List.getElem_range]
    rw [hf]
    by_cases hij : j = i
    · subst hij; rw [if_pos rfl, if_pos rfl]
    · rw [if_neg hij, if_neg (fun e => hij e.symm)]
theorem PRow.store0 {w0 : Nat} {w : World} {g N : Nat} {T : Nat → Int × Int} (h : PRow w0 w g N T) (S : Nat) (v : Int) : PRow w0 (w.setCell ⟨g, S * 2, none⟩ (.int .i64 v)) g N (updT T S (v, (T S).2)) := prow_set h fun i => by
  unfold fl updT
  by_cases e : i = S * 2
  · subst e; simp
  · rw [if_neg e]
    by_cases e2 : i = S * 2 + 1
    · subst e2; rw [if_neg (by omega), if_pos (by omega), if_neg (by omega), show (S * 2 + 1) / 2 = S from by omega]
    · rw [if_neg (show ¬ i / 2 = S by omega)]
theorem PRow.store1 {w0 : Nat} {w : World} {g N : Nat} {T : Nat → Int × Int} (h : PRow w0 w g N T) (S : Nat) (v : Int) : PRow w0 (w.setCell ⟨g, S * 2 + 1, none⟩ (.int .i64 v)) g N (updT T S ((T S).1, v)) := prow_set h fun i => by
  unfold fl updT
  by_cases e : i = S * 2 + 1
  · subst e; rw [if_neg (by omega), if_pos (by omega), if_pos rfl]
  · rw [if_neg e]
    by_cases e2 : i = S * 2
    · subst e2; rw [if_pos (by omega), if_pos (by omega), if_pos (by omega), show S * 2 / 2 = S from by omega]
    · rw [if_neg (show ¬ i / 2 = S by omega)]

def btr (a b : Int × Int) : Bool := decide (a.1 < b.1) || (decide (a.1 = b.1) && decide (a.2 < b.2))
/-- The best state of a set over the first k pieces that could be its last. -/
def rowS (q : List Int) (m : Int) (T : Nat → Int × Int) (S : Nat) : Nat → Int × Int
  | 0 => (q.length + 1, 0)
  | k + 1 => if S.testBit k = true then (if btr (withS (T (S - 2 ^ k)) (gi q k) m) (rowS q m T S k) = true then withS (T (S - 2 ^ k)) (gi q k) m else rowS q m T S k) else rowS q m T S k
/-- The table behind the first s sets that are not empty. -/
def tabS (q : List Int) (m : Int) : Nat → Nat → Int × Int
  | 0 => updT (fun _ => (0, 0)) 0 (0, m)
  | s + 1 => updT (tabS q m s) (s + 1) (rowS q m (tabS q m s) (s + 1) q.length)
theorem tabS_far (q : List Int) (m : Int) : ∀ s x, s < x → tabS q m s x = (0, 0)
  | 0, x, h => by rw [tabS, updT_other _ _ (by omega)]
  | s + 1, x, h => by rw [tabS, updT_other _ _ (by omega), tabS_far q m s x (by omega)]
theorem rowS_bd {q : List Int} {m : Int} {T : Nat → Int × Int} {S : Nat} (hm : 0 ≤ m ∧ m ≤ 2000) (hq : ∀ j, j < q.length → 0 ≤ gi q j ∧ gi q j ≤ 2000) (hT : ∀ x, (0 ≤ (T x).1 ∧ (T x).1 ≤ q.length + 1) ∧ 0 ≤ (T x).2 ∧ (T x).2 ≤ 2000) : ∀ k, k ≤ q.length → (0 ≤ (rowS q m T S k).1 ∧ (rowS q m T S k).1 ≤ q.length + 1) ∧ 0 ≤ (rowS q m T S k).2 ∧ (rowS q m T S k).2 ≤ 2000
  | 0, _ => by rw [rowS]; simp only []; omega
  | k + 1, hk => by
    have ih := rowS_bd (S := S) hm hq hT k (by omega)
    have t := hT (S - 2 ^ k)
    have s := hq k (by omega)
    rw [rowS]
    split
    · split
      · rename_i hb
        have hle : (withS (T (S - 2 ^ k)) (gi q k) m).1 ≤ (rowS q m T S k).1 := by
          unfold btr at hb
          simp only [Bool.or_eq_true, Bool.and_eq_true, decide_eq_true_eq] at hb
          omega
        unfold withS at hle ⊢
        by_cases g : (T (S - 2 ^ k)).2 + gi q k ≤ m
        · rw [if_pos g] at hle ⊢; simp only [] at hle ⊢; omega
        · rw [if_neg g] at hle ⊢; simp only [] at hle ⊢; omega
      · exact ih
    · exact ih
theorem tabS_bd {q : List Int} {m : Int} (hm : 0 ≤ m ∧ m ≤ 2000) (hq : ∀ j, j < q.length → 0 ≤ gi q j ∧ gi q j ≤ 2000) : ∀ s x, (0 ≤ (tabS q m s x).1 ∧ (tabS q m s x).1 ≤ q.length + 1) ∧ 0 ≤ (tabS q m s x).2 ∧ (tabS q m s x).2 ≤ 2000
  | 0, x => by
    rw [tabS]; unfold updT
    split <;> simp only [] <;> omega
  | s + 1, x => by
    have ih := tabS_bd hm hq s
    rw [tabS]; unfold updT
    split
    · exact rowS_bd hm hq ih q.length (Nat.le_refl _)
    · exact ih x
theorem and_tab : ∀ S : Nat, S < 1024 → ∀ i : Nat, i < 10 → bits .and .i64 (S : Int) ((2 ^ i : Nat) : Int) = if S.testBit i = true then ((2 ^ i : Nat) : Int) else 0 := by decide +kernel
theorem andNot_tab : ∀ S : Nat, S < 1024 → ∀ i : Nat, i < 10 → S.testBit i = true → bits .andNot .i64 (S : Int) ((2 ^ i : Nat) : Int) = ((S - 2 ^ i : Nat) : Int) := by decide +kernel
theorem bit_le : ∀ S : Nat, S < 1024 → ∀ i : Nat, i < 10 → S.testBit i = true → 2 ^ i ≤ S := by decide +kernel

theorem filledInfo : (Try.prog.info? 72).map (fun i => (i.zero, i.size, i.bytes)) = some (some (.agg #[.int .i64 0, .int .i64 0]), 2, 16) := by kernel_rfl
theorem PRow.made {w0 : Nat} {w : World} {g N : Nat} (h : w.ownsRow w0 72 2 (.slice (some ⟨g, 0, none⟩) N N) N (madeCells #[Value.int .i64 0, .int .i64 0] (N * 2)).toList) : PRow w0 w g N (fun _ => (0, 0)) := by
  unfold PRow
  rwa [show ((List.range (N * 2)).map fun j => Value.int .i64 (fl (fun _ => (0, 0)) j)) = (madeCells #[Value.int .i64 0, .int .i64 0] (N * 2)).toList from ?_]
  apply List.ext_getElem
  · simp [madeCells]
  · intro i h1 h2
    have : i % 2 = 0 ∨ i % 2 = 1 := by omega
    rcases this with h | h <;> simp [madeCells, fl, h]

set_option maxRecDepth 100000 in
set_option maxHeartbeats 8000000 in
theorem fewest_any (ap : Option Addr) (q : List Int) (cq : Nat) (m : Int) (w : World) (hQ : IntsS w ap q) (h10 : q.length ≤ 10) (hm : 0 ≤ m ∧ m ≤ 2000) (hq : ∀ j, j < q.length → 0 ≤ gi q j ∧ gi q j ≤ 2000) :
    Calls Try.prog 17 #[.slice ap q.length cq, .int .i64 m] w fun e w' => e = .returned (.int .i64 (tabS q m (2 ^ q.length - 1) (2 ^ q.length - 1)).1) ∧ Below w.heap.size w w' := by
  have HTB := Lib.hid (tabS_bd hm hq)
  have HRB : Hid (∀ s S k, k ≤ q.length → _) := Lib.hid fun s S k hk => rowS_bd (S := S) hm hq (tabS_bd hm hq s) k hk
  have HQB := Lib.hid hq
  obtain ⟨m0, m1⟩ := hm
  obtain ⟨hlen, -, bq, oq, hadq, hc⟩ := hQ
  have HC := Lib.hid hc
  have HL : Hid (0 < q.length → ap = some ⟨bq, oq, none⟩) := Lib.hid fun h => hadq (pos_ne (n := 0) h)
  obtain ⟨N, hN⟩ : ∃ N : Nat, 2 ^ q.length = N := ⟨_, rfl⟩
  have N1 : 1 ≤ N := by rw [← hN]; exact Nat.pos_of_ne_zero (by simp)
  have N2 : N ≤ 1024 := by rw [← hN]; exact Nat.pow_le_pow_right (by omega) h10
  rw [hN]
  have hNi : (2 : Int) ^ q.length = (N : Int) := by rw [← hN]; simp
  have wN : IntKind.i64.wrap (N : Int) = (N : Int) := IntWalk.i64_in _ (by omega)
  have wN2 : IntKind.i64.wrap ((2 : Int) ^ q.length) = (N : Int) := by rw [hNi]; exact wN
  have hl0 : (0 : Int) ≤ (q.length : Int) := by omega
  have hl64 : (q.length : Int) ≤ 64 := by omega
  obtain ⟨i0, hi, hz0, hz1, hz2⟩ := info_parts filledInfo
  clear hc hadq hq
  go_enter Try.func17, Try.ntmps17
  go_wp2_with (refine wpList_make_full _ rfl _ _ 70 rfl w.heap.size 72 i0 (.agg #[.int .i64 0, .int .i64 0]) 2 Try.underlying70 hi hz0 hz1 _ _ (N : Int) (N : Int) N rfl rfl (by omega) (by omega) ?c1 ?c2 ?c3 ?_)
  case c1 => first | omega | (rw [hz2]; omega)
  case c2 => unfold maxLen; omega
  case c3 => simp
  intro w5 hown hgrow
  have HR0 := Lib.hid (PRow.made hown)
  have hb5 : Below w.heap.size w w5 := (Below.refl _ _).grown hgrow (Nat.le_refl _) (fun k h => by cases h)
  have d0 := HR0.out.cell0 (show 0 < N by omega)
  have d1 := HR0.out.cell1 (show 0 < N by omega)
  have f1 := HR0.out.frozen 1
  rw [Nat.zero_mul] at d0 d1
  rw [Nat.zero_add] at d1
  have hz5 := block_lt d0
  have n0 : (0 : Int) < (N : Int) := by omega
  clear hown hgrow hi hz0 hz1 hz2
  go_wp2_with fail
  have HR1 := Lib.hid (HR0.out.store1 0 m)
  have hE : updT (fun _ => ((0 : Int), (0 : Int))) 0 (0, m) = tabS q m 0 := rfl
  rw [show (0 * 2 + 1) = 1 from rfl, hE] at HR1
  have hb6 : Below w.heap.size w (w5.setCell ⟨w.heap.size, 1, none⟩ (.int .i64 m)) := hb5.setCell (p := ⟨w.heap.size, 1, none⟩) (Nat.le_refl _) _
  have hz6 : w.heap.size < (w5.setCell ⟨w.heap.size, 1, none⟩ (.int .i64 m)).heap.size := by simpa using hz5
  clear HR0 d0 d1 f1
  go_loopw [6] (fun i wr => ∃ s S : Nat, S = s + 1 ∧ S ≤ N ∧ i = .int .i64 (S : Int) ∧ Hid (PRow w.heap.size wr w.heap.size N (tabS q m s)) ∧ Below w.heap.size w wr ∧ w.heap.size < wr.heap.size) (fun i _ => N - (intOf i).toNat)
  case atStart => exact ⟨0, 1, rfl, by omega, rfl, HR1, hb6, hz6⟩
  case round =>
    clear HR1 hb6 hz6
    obtain ⟨s, S, hSs, hs, rfl, HRow, hbr, hzr⟩ := hrel
    have S1 : 1 ≤ S := by omega
    by_cases hlt : S < N
    · have hlt2 : (S : Int) < (N : Int) := by omega
      have c0 := HRow.out.cell0 hlt
      have fz := HRow.out.frozen (S * 2)
      have hfar : tabS q m s S = (0, 0) := tabS_far q m s S (by omega)
      have HR2 : Hid (PRow w.heap.size (wr.setCell ⟨w.heap.size, S * 2, none⟩ (.int .i64 ((q.length : Int) + 1))) w.heap.size N (updT (tabS q m s) S (rowS q m (tabS q m s) S 0))) := Lib.hid (by
        have := HRow.out.store0 S ((q.length : Int) + 1)
        rw [hfar] at this
        exact this)
      have HNT : Hid (updT (tabS q m s) S (rowS q m (tabS q m s) S q.length) = tabS q m S) := Lib.hid (by rw [hSs]; rfl)
      have HTs := Lib.hid (HTB.out s)
      have HRs := Lib.hid (HRB.out s S)
      have HUP : Hid (∀ k, rowS q m (tabS q m s) S (k + 1) = if S.testBit k = true then (if btr (withS (tabS q m s (S - 2 ^ k)) (gi q k) m) (rowS q m (tabS q m s) S k) = true then withS (tabS q m s (S - 2 ^ k)) (gi q k) m else rowS q m (tabS q m s) S k) else rowS q m (tabS q m s) S k) := Lib.hid fun k => rfl
      obtain ⟨R, hR⟩ : ∃ R, rowS q m (tabS q m s) S = R := ⟨_, rfl⟩
      rw [hR] at HR2 HNT HRs HUP
      obtain ⟨T, hT⟩ : ∃ T, tabS q m s = T := ⟨_, rfl⟩
      rw [hT] at HR2 HNT HTs HUP
      have hb7 : Below w.heap.size w (wr.setCell ⟨w.heap.size, S * 2, none⟩ (.int .i64 ((q.length : Int) + 1))) := hbr.setCell (p := ⟨w.heap.size, S * 2, none⟩) (Nat.le_refl _) _
      have hz7 : w.heap.size < (wr.setCell ⟨w.heap.size, S * 2, none⟩ (.int .i64 ((q.length : Int) + 1))).heap.size := by simpa using hzr
      clear hSs hfar hR hT HRB HTB
      go_wp2_with fail
      obtain ⟨wx, hwx⟩ : ∃ wx, wr.setCell ⟨w.heap.size, S * 2, none⟩ (.int .i64 ((q.length : Int) + 1)) = wx := ⟨_, rfl⟩
      rw [hwx] at HR2 hb7 hz7 ⊢
      clear hwx HRow hbr hzr c0 fz
      go_loopw [33] (fun i wq => ∃ k : Nat, k ≤ q.length ∧ i = .int .i64 k ∧ Hid (PRow w.heap.size wq w.heap.size N (updT T S (R k))) ∧ Below w.heap.size w wq ∧ w.heap.size < wq.heap.size) (fun i _ => q.length - (intOf i).toNat)
      case atStart => exact ⟨0, Nat.zero_le _, rfl, HR2, hb7, hz7⟩
      case round =>
        clear HR2 hb7 hz7
        obtain ⟨k, hk, rfl, HRow, hbr, hzr⟩ := hrel
        by_cases hkn : k < q.length
        · obtain rfl := HL.out (by omega)
          have e0 := cell_below (HC.out k hkn) hbr
          obtain ⟨s0, s1⟩ := HQB.out k hkn
          obtain ⟨p, hp⟩ : ∃ p : Nat, 2 ^ k = p := ⟨_, rfl⟩
          have p1 : 1 ≤ p := by rw [← hp]; exact Nat.pos_of_ne_zero (by simp)
          have p2 : p ≤ 1024 := by rw [← hp]; exact Nat.le_trans (Nat.pow_le_pow_right (by omega) (show k ≤ 10 by omega)) (by decide)
          have hpi : (2 : Int) ^ k = (p : Int) := by rw [← hp]; simp
          have wp : IntKind.i64.wrap (p : Int) = (p : Int) := IntWalk.i64_in _ (by omega)
          have wp2 : IntKind.i64.wrap ((2 : Int) ^ k) = (p : Int) := by rw [hpi]; exact wp
          have hk64 : (k : Int) ≤ 64 := by omega
          have hand := and_tab S (by omega) k (by omega)
          have hkl : (k : Int) < (q.length : Int) := by omega
          have HUk := HUP.out k
          cases hbit : S.testBit k with
          | false =>
            rw [hbit, if_neg (by simp)] at HUk
            rw [hbit, if_neg (by simp), hp] at hand
            have HUk := Lib.hid HUk
            clear hbit HUP HNT HTs HRs HC HL HQB
            generalize gi q k = sz at *
            go_wp2_with fail
            go_roundw
            case rel => exact ⟨k + 1, by omega, by go_num, by rw [HUk.out]; exact HRow, hbr, hzr⟩
            case measure => simp [intOf]; omega
          | true =>
            have hle := bit_le S (by omega) k (by omega) hbit
            have hnot := andNot_tab S (by omega) k (by omega) hbit
            rw [hbit, if_pos rfl] at HUk
            rw [hbit, if_pos rfl, hp] at hand
            rw [hp] at hle hnot HUk
            obtain ⟨u, hu⟩ : ∃ u : Nat, S - p = u := ⟨_, rfl⟩
            rw [hu] at hnot HUk
            have huS : u < S := by omega
            have hpz : ¬ (p : Int) = 0 := by omega
            have hun : (u : Int) < (N : Int) := by omega
            have hu0 : (0 : Int) ≤ (u : Int) := by omega
            have cu0 := HRow.out.cell0 (show u < N by omega)
            have cu1 := HRow.out.cell1 (show u < N by omega)
            have cs0 := HRow.out.cell0 hlt
            have cs1 := HRow.out.cell1 hlt
            rw [updT_other _ _ (by omega)] at cu0 cu1
            rw [updT_same] at cs0 cs1
            have fs0 := HRow.out.frozen (S * 2)
            have fs1 := HRow.out.frozen (S * 2 + 1)
            obtain ⟨⟨t0, t1⟩, t2, t3⟩ := HTs.out u
            obtain ⟨⟨r0, r1⟩, r2, r3⟩ := HRs.out k (by omega)
            have HW := Lib.hid (fun W => with_any (T u).1 (T u).2 (gi q k) m W t0 (by omega) t2 (by omega) s0 (by omega))
            have HWT : Hid (withS ((T u).1, (T u).2) (gi q k) m = withS (T u) (gi q k) m) := Lib.hid rfl
            rw [HWT.out] at HW
            obtain ⟨nx, hnx⟩ : ∃ nx, withS (T u) (gi q k) m = nx := ⟨_, rfl⟩
            rw [hnx] at HW HUk
            have HSTO : Hid (∀ W : World, PRow w.heap.size W w.heap.size N (updT T S (R k)) → PRow w.heap.size ((W.setCell ⟨w.heap.size, S * 2, none⟩ (.int .i64 nx.1)).setCell ⟨w.heap.size, S * 2 + 1, none⟩ (.int .i64 nx.2)) w.heap.size N (updT T S nx)) := Lib.hid fun W h => by
              have := (h.store0 S nx.1).store1 S nx.2
              simp only [updT_same, updT_twice] at this
              exact this
            have HB1 : Hid (btr nx (R k) = true → R (k + 1) = nx) := Lib.hid fun h => by rw [HUk, if_pos h]
            have HB2 : Hid (btr nx (R k) = false → R (k + 1) = R k) := Lib.hid fun h => by rw [HUk, if_neg (by rw [h]; simp)]
            unfold btr at HB1 HB2
            clear HUk hbit HUP HNT HTs HRs HC HL HQB hnx HWT hp hu hle
            generalize gi q k = sz at *
            generalize (T u).1 = a1 at *
            generalize (T u).2 = a2 at *
            obtain ⟨x1, hx1⟩ : ∃ x, nx.1 = x := ⟨_, rfl⟩
            obtain ⟨x2, hx2⟩ : ∃ x, nx.2 = x := ⟨_, rfl⟩
            obtain ⟨y1, hy1⟩ : ∃ x, (R k).1 = x := ⟨_, rfl⟩
            obtain ⟨y2, hy2⟩ : ∃ x, (R k).2 = x := ⟨_, rfl⟩
            rw [hx1, hx2] at HW HSTO
            rw [hx1, hx2, hy1, hy2] at HB1 HB2
            rw [hy1] at cs0
            rw [hy2] at cs1
            clear hx1 hx2 hy1 hy2 r0 r1 r2 r3
            go_wp2_with fail
            refine (HW.out _).mono ?_
            rintro e w6 ⟨rfl, hb6⟩
            have HRow6 := Lib.hid (HRow.out.below hb6)
            have cs0 := cell_below cs0 hb6
            have cs1 := cell_below cs1 hb6
            have fs0 := (hb6.frozen (p := ⟨w.heap.size, S * 2, none⟩) hzr).trans fs0
            have fs1 := (hb6.frozen (p := ⟨w.heap.size, S * 2 + 1, none⟩) hzr).trans fs1
            have hbr6 := hbr.trans (hb6.mono hbr.size)
            have hz6 : w.heap.size < w6.heap.size := Nat.lt_of_lt_of_le hzr hb6.size
            clear HRow hbr hzr hb6 cu0 cu1 e0
            go_wp2_with fail
            obtain ⟨wy, hwy⟩ : ∃ wy, w6.alloc (.cells #[.int .i64 x1, .int .i64 x2] 72) = wy := ⟨_, rfl⟩
            have hby : Below w6.heap.size w6 wy := by rw [← hwy]; exact (Below.refl _ _).alloc (Nat.le_refl _) _
            have b0 : wy.cell? ⟨w6.heap.size, 0, none⟩ = some (.int .i64 x1) := by rw [← hwy]; simp [go_sem]
            have b1 : wy.cell? ⟨w6.heap.size, 1, none⟩ = some (.int .i64 x2) := by rw [← hwy]; simp [go_sem]
            have HRy := Lib.hid (HRow6.out.below hby)
            have cs0 := cell_below cs0 hby
            have cs1 := cell_below cs1 hby
            have fs0 := (hby.frozen (p := ⟨w.heap.size, S * 2, none⟩) hz6).trans fs0
            have fs1 := (hby.frozen (p := ⟨w.heap.size, S * 2 + 1, none⟩) hz6).trans fs1
            have hbry := hbr6.trans (hby.mono hbr6.size)
            have hzy : w.heap.size < wy.heap.size := Nat.lt_of_lt_of_le hz6 hby.size
            have hnb : w6.heap.size ≠ w.heap.size := by omega
            have hnb2 : w.heap.size ≠ w6.heap.size := by omega
            rw [hwy]
            clear hwy HRow6 hbr6 hby
            by_cases h1 : x1 < y1
            · have HE := Lib.hid (HB1.out (by simp [h1]))
              clear HB1 HB2
              have hd1 : decide (x1 < y1) = true := by simp [h1]
              go_wp2_with fail
              go_quiet (fail)
              go_wp2_with fail
              go_roundw
              case rel => exact ⟨k + 1, by omega, by go_num, Lib.hid (by rw [HE.out]; exact HSTO.out _ (HRy.out.below (below_drewN (Below.refl _ _) _))), ((below_drewN hbry _).setCell (p := ⟨w.heap.size, S * 2, none⟩) (Nat.le_refl _) _).setCell (p := ⟨w.heap.size, S * 2 + 1, none⟩) (Nat.le_refl _) _, by simpa using hzy⟩
              case measure => simp [intOf]; omega
            · have hd1 : decide (x1 < y1) = false := by simp; omega
              by_cases h2 : x1 = y1
              · by_cases h3 : x2 < y2
                · have HE := Lib.hid (HB1.out (by simp [h2, h3]))
                  clear HB1 HB2
                  have hd3 : decide (x2 < y2) = true := by simp [h3]
                  go_wp2_with fail
                  go_quiet (fail)
                  go_wp2_with fail
                  go_roundw
                  case rel => exact ⟨k + 1, by omega, by go_num, Lib.hid (by rw [HE.out]; first | exact HSTO.out _ (HRy.out.below (below_drewN (Below.refl _ _) _)) | (have := HSTO.out _ (HRy.out.below (below_drewN (Below.refl _ _) nq)); rw [h2] at this; exact this)), ((below_drewN hbry _).setCell (p := ⟨w.heap.size, S * 2, none⟩) (Nat.le_refl _) _).setCell (p := ⟨w.heap.size, S * 2 + 1, none⟩) (Nat.le_refl _) _, by simpa using hzy⟩
                  case measure => simp [intOf]; omega
                · have HE := Lib.hid (HB2.out (by simp [h2, h3]))
                  clear HB1 HB2 HSTO
                  have hd3 : decide (x2 < y2) = false := by simp; omega
                  go_wp2_with fail
                  go_quiet (fail)
                  go_wp2_with fail
                  go_roundw
                  case rel => exact ⟨k + 1, by omega, by go_num, Lib.hid (by rw [HE.out]; exact HRy.out.below (below_drewN (Below.refl _ _) _)), below_drewN hbry _, by simpa using hzy⟩
                  case measure => simp [intOf]; omega
              · have HE := Lib.hid (HB2.out (by simp [h1, h2]))
                clear HB1 HB2 HSTO
                have hd2 : decide (x1 = y1) = false := by simp; omega
                go_wp2_with fail
                go_quiet (fail)
                go_wp2_with fail
                go_roundw
                case rel => exact ⟨k + 1, by omega, by go_num, Lib.hid (by rw [HE.out]; exact HRy.out.below (below_drewN (Below.refl _ _) _)), below_drewN hbry _, by simpa using hzy⟩
                case measure => simp [intOf]; omega
        · obtain rfl : k = q.length := by omega
          have HRE : Hid (PRow w.heap.size wr w.heap.size N (tabS q m S)) := Lib.hid (by rw [← HNT.out]; exact HRow.out)
          clear HRow HUP HNT HTs HRs
          go_wp2_with fail
          go_roundw
          case rel => exact ⟨S, S + 1, rfl, by omega, by go_num, HRE, hbr, hzr⟩
          case measure => simp [intOf]; omega
    · have hlt2 : ¬ (S : Int) < (N : Int) := by omega
      have hsN : s = N - 1 := by omega
      have c0 := HRow.out.cell0 (show N - 1 < N by omega)
      rw [hsN] at c0
      obtain ⟨t, ht⟩ : ∃ t, N - 1 = t := ⟨_, rfl⟩
      have hti : (N : Int) - 1 = (t : Int) := by omega
      have htN : (t : Int) < (N : Int) := by omega
      have wt : IntKind.i64.wrap ((N : Int) - 1) = (t : Int) := by rw [hti]; exact IntWalk.i64_in _ (by omega)
      have wt2 : IntKind.i64.wrap (t : Int) = (t : Int) := IntWalk.i64_in _ (by omega)
      rw [ht] at c0
      obtain ⟨V, hV⟩ : ∃ V, (tabS q m t t).1 = V := ⟨_, rfl⟩
      rw [hV] at c0
      have HV := Lib.hid hV
      have HtN := Lib.hid ht
      clear hV ht hsN HTB HRB HRow
      go_wp2_with fail
      go_ret
      first
        | (rw [HtN.out, HV.out]; exact ⟨rfl, hbr⟩)
        | (rw [HV.out]; exact ⟨rfl, hbr⟩)
end Go.Proofs.Ytmeoekcajmgiaaa
