/-
  slices.Repeat of one int. By an AI agent.
-/
import Derived.Test.YtghlhjiomebmhaaNiM
import Derived.Test.YtghlhjiomebmhaaShelf
import Derived.Laws.IdiomCopy
import Derived.OwnWalk
import Derived.Deep.RegionHeld3
import Derived.BigQuiet
import Derived.StillTailTactics
namespace Go.Proofs.Ytghlhjiomebmhaa
set_option linter.unusedVariables false
set_option linter.unusedSimpArgs false
open Go.RowKit

theorem below_cellsN {B b : Nat} {a : World} (hb : B ≤ b) : ∀ (vs : List Value) (o : Nat) (w : World), Below B a w → Below B a (w.setCells b o vs)
  | [], _, _, h => h
  | v :: r, o, w, h => below_cellsN hb r (o + 1) _ (h.setCell (p := ⟨b, o, none⟩) hb v)
theorem mul_one_r (n : Nat) (hn : n ≤ 1000000) (w : World) :
    Calls Try.prog 75 #[.int .u64 1, .int .u64 n] w fun e w' => e = .returned (.tuple #[.int .u64 0, .int .u64 n]) ∧ w' = w := by
  have := Try.bits_Mul 1 n (by omega) (by omega) w
  rw [Nat.one_mul, Nat.div_eq_of_lt (by omega), Nat.mod_eq_of_lt (by omega)] at this
  exact this
/-- A row whose first m of n ints are v, the others 0. -/
def RepR (w : World) (G n m : Nat) (v : Int) : Prop := (∀ i, i < n → w.cell? ⟨G, i, none⟩ = some (.int .i64 (if i < m then v else 0))) ∧ ∀ i, i < n → w.frozen? ⟨G, i, none⟩ = false
theorem RepR.step {w : World} {G n m k : Nat} {v : Int} (h : RepR w G n m v) (hk : m + k ≤ n) : RepR (w.setCells G m (List.replicate k (.int .i64 v))) G n (m + k) v := by
  refine ⟨fun i hi => ?_, fun i hi => by rw [World.frozen?_setCells]; exact h.2 i hi⟩
  by_cases h1 : m ≤ i ∧ i < m + k
  · have := World.cell?_setCells_in G (List.replicate k (Value.int .i64 v)) m w (fun j hj => by rw [h.1 (m + j) (by simp at hj; omega)]; rfl) (i - m) (by simp; omega)
    rw [show m + (i - m) = i by omega] at this
    rw [this, if_pos h1.2]; simp
  · rw [World.cell?_setCells_out G _ m w ⟨G, i, none⟩ (fun _ _ => by simp; omega), h.1 i hi]
    congr 2
    by_cases e : i < m
    · rw [if_pos e, if_pos (by omega)]
    · rw [if_neg e, if_neg (by omega)]
theorem RepR.plan {w : World} {G n : Nat} {v : Int} (h : RepR w G n n v) : PlanR w G (List.replicate n v) := by
  refine ⟨fun i hi => ?_, fun i hi => h.2 i (by simpa using hi)⟩
  have hi : i < n := by simpa using hi
  rw [h.1 i hi, if_pos hi]
  unfold gi
  simp [hi]
theorem RepR.made {w : World} {base g n : Nat} {v : Int} (h : w.ownsRow base 3 1 (.slice (some ⟨g, 0, none⟩) n n) n (madeCells #[Value.int .i64 0] n).toList) : RepR w g n 0 v := by
  rw [toList_madeCells_one] at h
  refine ⟨fun i hi => ?_, fun i hi => World.ownsRow.frozenAt h i⟩
  rw [World.ownsRow.cellAt h i (by omega), if_neg (by omega)]
  simp [hi]
theorem copy_r {w : World} (ty : TypeId) (G n m k dl dc sl sc : Nat) (v : Int) (a : Addr) (h : RepR w G n m v) (hk : m + k ≤ n) (hkk : k = Nat.min sl dl) (hs : ∀ j, j < k → w.cell? (a.add j) = some (.int .i64 v)) :
    (Builtin.copy_ #[26, 26] ty #[.slice (some ⟨G, m, none⟩) dl dc, .slice (some a) sl sc]).run Try.prog w = .ok (.int .i64 k) (w.setCells G m (List.replicate k (.int .i64 v))) := by
  have := run_copy_cells (P := Try.prog) w 26 26 ty 3 G m dl dc a sl sc (List.replicate k (.int .i64 v)) undRow (by kernel_rfl) (by simp [hkk]) (fun j u hj => by
    rw [List.getElem?_replicate] at hj
    split at hj
    · next hjk => cases hj; exact hs j hjk
    · cases hj) (fun j hj => by rw [h.1 (m + j) (by simp at hj; omega)]; rfl) (fun j hj => h.2 (m + j) (by simp at hj; omega)) (fun u hu => by rw [(List.mem_replicate.1 hu).2]; rfl)
  rw [this]
  simp [goInt]
set_option maxRecDepth 100000 in
set_option maxHeartbeats 2000000 in
theorem repeat_r (b n : Nat) (v : Int) (hn0 : 0 < n) (hn : n ≤ 1000) (w : World) (c0 : w.cell? ⟨b, 0, none⟩ = some (.int .i64 v)) :
    Calls Try.prog 63 #[.slice (some ⟨b, 0, none⟩) 1 1, .int .i64 n] w fun e w' => PlnE w (List.replicate n v) e w' := by
  obtain ⟨i0, hi, hz0, hz1, hz2⟩ := info_parts infoInt
  have HM := Lib.hid (fun W => mul_one_r n (by omega) W)
  have hw1 : IntKind.u64.wrap (n : Int) = n := by rw [IntKind.wrap_u64]; omega
  have hbz := block_lt c0
  go_enter Try.func63, Try.ntmps63
  go_wp2_with fail
  refine (HM.out _).mono ?_
  rintro e w1 ⟨rfl, rfl⟩
  go_wp2_with (first | (refine wpList_make_full _ rfl _ _ 26 rfl w1.heap.size 3 i0 (.int .i64 0) 1 Try.underlying26 hi hz0 hz1 _ _ (n : Int) (n : Int) n rfl rfl (by omega) (by omega) ?c1 ?c2 ?c3 ?_))
  case c1 => rw [hz2]; omega
  case c2 => unfold maxLen; omega
  case c3 => simp
  intro wm hown hgrow
  have hr := RepR.made (v := v) hown
  have hbm : Below w1.heap.size w1 wm := (Below.refl _ _).grown hgrow (Nat.le_refl _) (fun k h => by cases h)
  have cb := cell_below c0 hbm
  have hcp : ∀ ty, (Builtin.copy_ #[26, 26] ty #[.slice (some ⟨w1.heap.size, 0, none⟩) n n, .slice (some ⟨b, 0, none⟩) 1 1]).run Try.prog wm = .ok (.int .i64 1) (wm.setCells w1.heap.size 0 (List.replicate 1 (.int .i64 v))) := fun ty => copy_r ty w1.heap.size n 0 1 n n 1 1 v ⟨b, 0, none⟩ hr (by omega) (by simp [Nat.min_def]; omega) (fun j hj => by
    obtain rfl : j = 0 := by omega
    exact cb)
  have hr1 := Lib.hid (hr.step (k := 1) (by omega))
  have hb1 := Lib.hid (below_cellsN (b := w1.heap.size) (Nat.le_refl _) (List.replicate 1 (.int .i64 v)) 0 _ hbm)
  have hzm : w1.heap.size < wm.heap.size := block_lt (hr.1 0 hn0)
  clear hown hgrow hr cb hbm
  go_wp2_with fail
  go_loopw [8] (fun i wr => ∃ m : Nat, 0 < m ∧ m ≤ n ∧ i = .int .i64 m ∧ Hid (RepR wr w1.heap.size n m v) ∧ Hid (Below w1.heap.size w1 wr)) (fun i _ => n - (intOf i).toNat)
  case atStart => exact ⟨1, by omega, by omega, rfl, hr1, hb1⟩
  case round =>
    obtain ⟨m, hm0, hm, rfl, HR, hb⟩ := hrel
    clear hcp hr1 hb1
    by_cases hlt : m < n
    · have f1 : (0 : Int) ≤ m := by omega
      have f2 : (m : Int) ≤ n := by omega
      have f3 : IntKind.i64.wrap (m : Int) = m := IntWalk.i64_in _ (by omega)
      obtain ⟨k, hk⟩ : ∃ k, Nat.min m (n - m) = k := ⟨_, rfl⟩
      have hk1 : 0 < k ∧ m + k ≤ n := by rw [← hk]; simp only [Nat.min_def]; split <;> omega
      have hr2 : RepR wr.drew w1.heap.size n m v := HR.out
      have hcp : ∀ ty, (Builtin.copy_ #[26, 26] ty #[.slice (some ⟨w1.heap.size, m, none⟩) (n - m) (n - m), .slice (some ⟨w1.heap.size, 0, none⟩) m n]).run Try.prog wr.drew = .ok (.int .i64 k) (wr.drew.setCells w1.heap.size m (List.replicate k (.int .i64 v))) := fun ty => copy_r ty w1.heap.size n m k (n - m) (n - m) m n v ⟨w1.heap.size, 0, none⟩ hr2 hk1.2 hk.symm (fun j hj => by
        have := hr2.1 j (by omega)
        rw [if_pos (by rw [← hk] at hj; simp only [Nat.min_def] at hj; split at hj <;> omega)] at this
        have e : (⟨w1.heap.size, 0, none⟩ : Addr).add j = ⟨w1.heap.size, j, none⟩ := by unfold Addr.add; split <;> simp_all
        rw [e]; exact this)
      have hr3 := Lib.hid (hr2.step hk1.2)
      have hb3 := Lib.hid (below_cellsN (Nat.le_refl _) (List.replicate k (.int .i64 v)) m _ hb.out.drew)
      have hnm : n ≠ m := by omega
      have wmk : IntKind.i64.wrap ((m : Int) + k) = m + k := IntWalk.i64_in _ (by omega)
      obtain ⟨hk0, hk2⟩ := hk1
      clear hr2 HR hb hk
      go_wp2_with fail
      go_region_law (fail)
      all_goals
        go_simp
        go_roundw
        case rel =>
          refine ⟨.int .i64 ((m : Int) + k), ?_⟩
          iterate 13 apply Exists.intro
          exact ⟨⟨m + k, by omega, hk2, by go_num, hr3, hb3⟩, rfl⟩
        case measure => simp [intOf]; omega
    · obtain rfl : m = n := by omega
      have hz9 := block_lt (HR.out.1 0 hn0)
      have hL : Hid ((List.replicate m v).length = m) := Lib.hid (by simp)
      go_wp2_with fail
      go_ret
      exact ⟨w1.heap.size, m, by rw [hL.out]; rfl, HR.out.plan, Nat.le_refl _, hz9, hb.out⟩
end Go.Proofs.Ytghlhjiomebmhaa
