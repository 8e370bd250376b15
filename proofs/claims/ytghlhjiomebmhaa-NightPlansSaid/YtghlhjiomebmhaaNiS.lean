/-
  greatest of package night. By an AI agent.
-/
import Derived.Test.YtghlhjiomebmhaaNiR
namespace Go.Proofs.Ytghlhjiomebmhaa
set_option linter.unusedVariables false
set_option linter.unusedSimpArgs false
open Go.RowKit

theorem mul_zero_r (w : World) :
    Calls Try.prog 75 #[.int .u64 1, .int .u64 0] w fun e w' => e = .returned (.tuple #[.int .u64 0, .int .u64 0]) ∧ w' = w := mul_one_r 0 (by omega) w
set_option maxRecDepth 100000 in
set_option maxHeartbeats 2000000 in
theorem repeat0_r (b : Nat) (w : World) :
    Calls Try.prog 63 #[.slice (some ⟨b, 0, none⟩) 1 1, .int .i64 0] w fun e w' => PlnE w [] e w' := by
  obtain ⟨i0, hi, hz0, hz1, hz2⟩ := info_parts infoInt
  have HM := Lib.hid (fun W => mul_zero_r W)
  go_enter Try.func63, Try.ntmps63
  go_wp2_with fail
  refine (HM.out _).mono ?_
  rintro e w1 ⟨rfl, rfl⟩
  go_wp2_with (first | (refine wpList_make_full _ rfl _ _ 26 rfl w1.heap.size 3 i0 (.int .i64 0) 1 Try.underlying26 hi hz0 hz1 _ _ (0 : Int) (0 : Int) 0 rfl rfl (by omega) (by omega) ?c1 ?c2 ?c3 ?_))
  case c1 => rw [hz2]; omega
  case c2 => unfold maxLen; omega
  case c3 => simp
  intro wm hown hgrow
  have hbm : Below w1.heap.size w1 wm := (Below.refl _ _).grown hgrow (Nat.le_refl _) (fun k h => by cases h)
  have hcp : ∀ ty, (Builtin.copy_ #[26, 26] ty #[.slice (some ⟨w1.heap.size, 0, none⟩) 0 0, .slice (some ⟨b, 0, none⟩) 1 1]).run Try.prog wm = .ok (.int .i64 0) wm := fun ty => run_copy_none wm _ _ ty 3 _ _ 0 0 1 1 undRow (by kernel_rfl) (by simp)
  have hzm : w1.heap.size < wm.heap.size := (World.ownsRow.lt hown w1.heap.size rfl).2
  clear hown hgrow
  go_wp2_with fail
  go_loopw [8] (fun i wr => i = .int .i64 0 ∧ wr = wm) (fun i _ => 0)
  case atStart => exact ⟨rfl, rfl⟩
  case round =>
    obtain ⟨rfl, rfl⟩ := hrel
    go_wp2_with fail
    go_ret
    exact ⟨w1.heap.size, 0, rfl, ⟨fun i hi => absurd hi (Nat.not_lt_zero _), fun i hi => absurd hi (Nat.not_lt_zero _)⟩, Nat.le_refl _, hzm, hbm⟩
theorem repeat_all (b n : Nat) (v : Int) (hn : n ≤ 1000) (w : World) (c0 : w.cell? ⟨b, 0, none⟩ = some (.int .i64 v)) :
    Calls Try.prog 63 #[.slice (some ⟨b, 0, none⟩) 1 1, .int .i64 n] w fun e w' => PlnE w (List.replicate n v) e w' := by
  by_cases h : 0 < n
  · exact repeat_r b n v h hn w c0
  · obtain rfl : n = 0 := by omega
    exact repeat0_r b w
set_option maxRecDepth 100000 in
set_option maxHeartbeats 2000000 in
theorem greatest_r (C : List (List Int)) (P : List Int) (ac ap : Option Addr) (cc cp L N : Nat) (w : World) (h : OfS w C P ac ap L N) :
    Calls Try.prog 43 #[.agg #[.slice ac L cc, .slice ap N cp]] w fun e w' => PlnE w (grtK C P (N + 1) L (List.replicate L (-1))) e w' := by
  obtain ⟨wB, hwB⟩ : ∃ wB, (w.alloc (.cells #[.slice ac L cc, .slice ap N cp] 64)).alloc (.cells #[.int .i64 (-1)] 3) = wB := ⟨_, rfl⟩
  have hbB : Below w.heap.size w wB := by rw [← hwB]; exact ((Below.refl _ _).alloc (Nat.le_refl _) _).alloc (by simp) _
  have p0 : wB.cell? ⟨w.heap.size, 0, none⟩ = some (.slice ac L cc) := by rw [← hwB]; simp [go_sem]
  have p1 : wB.cell? ⟨w.heap.size, 1, none⟩ = some (.slice ap N cp) := by rw [← hwB]; simp [go_sem]
  have q0 : wB.cell? ⟨w.heap.size + 1, 0, none⟩ = some (.int .i64 (-1)) := by rw [← hwB]; simp [go_sem]
  have hsm := h.small
  have HRp := Lib.hid (repeat_all (w.heap.size + 1) L (-1) hsm wB q0)
  have hqh : Hid ((List.replicate L (-1 : Int)).length = L) := Lib.hid (by simp)
  generalize List.replicate L (-1 : Int) = q at *
  have HN : Hid (∀ k, (grtK C P (N + 1) k q).length = L) := Lib.hid fun k => (grtK_len C P (N + 1) q k).trans hqh.out
  have HS : Hid (∀ k, grtK C P (N + 1) (k + 1) q = (plF C P 0 (N + 1) k (grtK C P (N + 1) k q) noT).2.1) := Lib.hid fun k => rfl
  have H0 : Hid (grtK C P (N + 1) 0 q = q) := Lib.hid rfl
  have HO := Lib.hid h
  have hmm := @run_makeMap Try.prog
  clear h q0
  go_enter Try.func43, Try.ntmps43
  go_wp2_with fail
  refine HRp.out.mono ?_
  rintro e wo ⟨g, cg, rfl, hpo, hg1, hg2, hbo⟩
  have hpo := Lib.hid hpo
  have p0 := cell_below p0 hbo
  have p1 := cell_below p1 hbo
  have hz := block_lt p0
  have hgb : w.heap.size < wB.heap.size := by rw [← hwB]; simp; omega
  have hb := Lib.hid (below_onN hbB hbo hbB.size)
  rw [hqh.out]
  clear HRp hwB hbB hbo
  go_wp2_with fail
  go_loopw [12] (fun i wr => ∃ k : Nat, k ≤ L ∧ i = .int .i64 k ∧ Hid (PlanR wr g (grtK C P (N + 1) k q)) ∧ Hid (Below w.heap.size w wr) ∧ g < wr.heap.size ∧ wr.cell? ⟨w.heap.size, 0, none⟩ = some (.slice ac L cc) ∧ wr.cell? ⟨w.heap.size, 1, none⟩ = some (.slice ap N cp)) (fun i _ => L - (intOf i).toNat)
  case atStart => exact ⟨0, Nat.zero_le _, rfl, by rw [H0.out]; exact hpo, hb, hg2, p0, p1⟩
  case round =>
    obtain ⟨k, hk, rfl, HP, hb, hgw, p0, p1⟩ := hrel
    clear hpo hg2 hz
    by_cases hlt : k < L
    · have hSk := Lib.hid (HS.out k)
      have hNk := Lib.hid (HN.out k)
      clear HS HN H0
      generalize grtK C P (N + 1) k q = s at *
      have hgs : g ≠ w.heap.size := by omega
      have HPl := Lib.hid (HO.out.place cc cp cg g 0 k s hb.out (by omega) hgw hNk.out HP.out hlt (by omega))
      generalize plF C P 0 (N + 1) k s noT = r at *
      clear HP hNk
      go_wp2_with fail
      refine HPl.out.mono ?_
      rintro e w5 ⟨rfl, h5, -, h8⟩
      have hz0 := block_lt p0
      have p0 := h8.cell (cell_below p0 ((Below.refl wr.heap.size wr).alloc (Nat.le_refl _) (.map #[] 0))) (fun e => hgs e.symm) (by omega)
      have p1 := h8.cell (cell_below p1 ((Below.refl wr.heap.size wr).alloc (Nat.le_refl _) (.map #[] 0))) (fun e => hgs e.symm) (by omega)
      have hbs := hb.out.size
      have hb5 : Hid (Below w.heap.size w w5) := Lib.hid ((hb.out.alloc hbs _).trans (h8.below (by omega) (by omega) (by simp; omega)))
      have hg5 : g < w5.heap.size := Nat.lt_of_lt_of_le (by simp; omega) h8.size
      have h5 := Lib.hid h5
      clear h8 HPl
      go_wp2_with fail
      go_roundw
      case rel => exact ⟨k + 1, by omega, by go_num, by rw [hSk.out]; exact h5, hb5, hg5, p0, p1⟩
      case measure => simp [intOf]; omega
    · obtain rfl : k = L := by omega
      go_wp2_with fail
      go_ret
      exact ⟨g, cg, by rw [HN.out]; rfl, HP.out, by omega, hgw, hb.out⟩
end Go.Proofs.Ytghlhjiomebmhaa
