/-
  The law's right. By an AI agent.; Lists of signs made of others: what speaks, what is covered, what plays no part. By an AI agent.; What faults the signs of a row have: endsAny, code, faulty. By an AI agent.; Library functions laid at this program, in plain words. By an AI agent.
-/
import Derived.Test.YtjoffnbpaebgjaaGreatMgRuleMirrors1
import Derived.Test.YtjoffnbpaebgjaaGreatMgRuleMirrors4
import Derived.Test.YtjoffnbpaebgjaaGreatMgRuleMirrors7
import Derived.Test.YtjoffnbpaebgjaaGreatMgRuleMirrors10
import Derived.Test.YtjoffnbpaebgjaaGreatMgRuleMirrors11
import Derived.Deep.RegionHeld3
import Derived.Deep.DeepCutAuto
import Derived.BigQuiet
import Derived.BigRegion
import Derived.StillTailTactics
import Derived.Deep.AppendLies
import Derived.Shelf.SlSortCmp.WholeK
import Derived.Ground.SlsfProg
import Derived.Test.YtjoffnbpaebgjaaGreatProg

namespace Go.Proofs.YtjoffnbpaebgjaaGreat
set_option linter.unusedVariables false
set_option linter.unusedSimpArgs false
open Go.RowKit

/-- right says whether an ask has valid parts. -/
def RgtE (L : Int) (js : List Int) (l : List Sgn) (q : List Edc) (q0 q1 q2 : Int) (w : World) (e : Ending) (w' : World) : Prop :=
  ∃ b : Bool, (b = true → lstE L js l q = 0 ∧ L ≤ 200 ∧ btw q0 0 10000000 = true ∧ dirB q1 = true ∧ topB q2 = true) ∧ e = .returned (.bool b) ∧ Below w.heap.size w w'
theorem lst_zero {L : Int} {js : List Int} {l : List Sgn} {q : List Edc} (h1 : sgnsB L js l = true) (h2 : edcsB L js q = true) : lstE L js l q = 0 := by
  unfold lstE
  rw [sgns_line h1, h1, h2]
  rfl
/-- The metre of an ask, within its line. -/
theorem metre_u (L q3 : Int) (h1 : 1 ≤ L) (h2 : L ≤ 200) : ∃ U M : Int, IntKind.u64.wrap q3 = U ∧ U.tmod L = M ∧ 0 ≤ M ∧ M < L ∧ IntKind.u64.wrap L = L ∧ wrap64 M = M ∧ btw M 0 (L - 1) = true := by
  have hw : ∀ x : Int, IntKind.u64.wrap x = x % 18446744073709551616 := fun x => by
    unfold IntKind.wrap
    simp [IntKind.signed, IntKind.bits]
  have hU : 0 ≤ IntKind.u64.wrap q3 := by rw [hw]; exact Int.emod_nonneg _ (by decide)
  have hM0 : 0 ≤ (IntKind.u64.wrap q3).tmod L := Int.tmod_nonneg _ hU
  have hM1 : (IntKind.u64.wrap q3).tmod L < L := Int.tmod_lt_of_pos _ (by omega)
  refine ⟨_, _, rfl, rfl, hM0, hM1, by rw [hw]; omega, ?_, ?_⟩
  · unfold wrap64; omega
  · unfold btw; rw [decide_eq_true hM0, decide_eq_true (by omega)]; rfl
set_option linter.unnecessarySimpa false
set_option maxRecDepth 100000 in
set_option maxHeartbeats 4000000 in
theorem right_r (L : Int) (a : Option Addr) (js : List Int) (ca : Nat) (aa : Option Addr) (l : List Sgn) (cl : Nat) (ae : Option Addr) (q : List Edc) (cq : Nat) (q0 q1 q2 q3 : Int) (w : World) (hI : IntsS w a js) (hA : SgnS w aa l) (hE : EdS w ae q) : Calls Tryz.prog 17 #[.agg #[.int .i64 L, .slice a js.length ca, .slice aa l.length cl, .slice ae q.length cq, .int .i64 q0, .int .i64 q1, .int .i64 q2, .int .i64 q3]] w (RgtE L js l q q0 q1 q2 w) := by
  have HH := Lib.hid (fun W (hW : Below w.heap.size w W) => Heavy_any L a js ca aa l cl ae q cq q0 q1 q2 q3 W (hI.below hW) (hA.below hW) (hE.below hW))
  have HS := Lib.hid (fun W (hW : Below w.heap.size w W) => refValidSigns_r L a js ca aa l cl W (hI.below hW) (hA.below hW))
  have HE := Lib.hid (fun W (hW : Below w.heap.size w W) => refValidEdicts_r L a js ca ae q cq W (hI.below hW) (hE.below hW))
  have K0 := Lib.hid (fun W => hour_r q0 W)
  have K1 := Lib.hid (fun W => way_r q1 W)
  have K2 := Lib.hid (fun W => topic_r q2 W)
  clear hI hA hE
  obtain ⟨s1, h⟩ : ∃ s1, sgnsB L js l = s1 := ⟨_, rfl⟩
  rw [h] at HS
  have HS1 := Lib.hid h
  clear h
  obtain ⟨s2, h⟩ : ∃ s2, edcsB L js q = s2 := ⟨_, rfl⟩
  rw [h] at HE
  have HS2 := Lib.hid h
  clear h
  obtain ⟨s3, h⟩ : ∃ s3, btw q0 0 10000000 = s3 := ⟨_, rfl⟩
  rw [h] at K0
  have HS3 := Lib.hid h
  clear h
  obtain ⟨s4, h⟩ : ∃ s4, dirB q1 = s4 := ⟨_, rfl⟩
  rw [h] at K1
  have HS4 := Lib.hid h
  clear h
  obtain ⟨s5, h⟩ : ∃ s5, topB q2 = s5 := ⟨_, rfl⟩
  rw [h] at K2
  have HS5 := Lib.hid h
  clear h
  go_enter Tryz.func17, Tryz.ntmps17
  go_wp2_with fail
  obtain ⟨wB, hwB⟩ : ∃ wB, w.alloc (.cells #[.int .i64 L, .slice a js.length ca, .slice aa l.length cl, .slice ae q.length cq, .int .i64 q0, .int .i64 q1, .int .i64 q2, .int .i64 q3] 28) = wB := ⟨_, rfl⟩
  have hb : Below w.heap.size w wB := by rw [← hwB]; exact (Below.refl _ _).alloc (Nat.le_refl _) _
  have p0 : wB.cell? ⟨w.heap.size, 0, none⟩ = some (.int .i64 L) := by rw [← hwB]; simp [go_sem]
  have p1 : wB.cell? ⟨w.heap.size, 1, none⟩ = some (.slice a js.length ca) := by rw [← hwB]; simp [go_sem]
  have p2 : wB.cell? ⟨w.heap.size, 2, none⟩ = some (.slice aa l.length cl) := by rw [← hwB]; simp [go_sem]
  have p3 : wB.cell? ⟨w.heap.size, 3, none⟩ = some (.slice ae q.length cq) := by rw [← hwB]; simp [go_sem]
  have p4 : wB.cell? ⟨w.heap.size, 4, none⟩ = some (.int .i64 q0) := by rw [← hwB]; simp [go_sem]
  have p5 : wB.cell? ⟨w.heap.size, 5, none⟩ = some (.int .i64 q1) := by rw [← hwB]; simp [go_sem]
  have p6 : wB.cell? ⟨w.heap.size, 6, none⟩ = some (.int .i64 q2) := by rw [← hwB]; simp [go_sem]
  have p7 : wB.cell? ⟨w.heap.size, 7, none⟩ = some (.int .i64 q3) := by rw [← hwB]; simp [go_sem]
  rw [hwB]
  clear hwB
  refine (HH.out _ hb).mono ?_
  rintro e wX ⟨bv, hHv, rfl, hb1⟩
  replace p0 := cell_below p0 hb1
  replace p1 := cell_below p1 hb1
  replace p2 := cell_below p2 hb1
  replace p3 := cell_below p3 hb1
  replace p4 := cell_below p4 hb1
  replace p5 := cell_below p5 hb1
  replace p6 := cell_below p6 hb1
  replace p7 := cell_below p7 hb1
  have hbw := hb.trans (hb1.mono hb.size)
  clear HH hb1 hHv
  cases bv with
  | true =>
    go_wp2_with fail
    go_ret
    exact ⟨false, (fun h => by cases h), rfl, hbw⟩
  | false =>
    cases s1 with
    | false =>
      go_wp2_with (first | (go_at_call 36; refine (HS.out _ hbw).mono ?_; rintro e w9 ⟨rfl, hb9⟩; replace hbw := hbw.trans (hb9.mono hbw.size); replace p0 := cell_below p0 hb9; replace p1 := cell_below p1 hb9; replace p2 := cell_below p2 hb9; replace p3 := cell_below p3 hb9; replace p4 := cell_below p4 hb9; replace p5 := cell_below p5 hb9; replace p6 := cell_below p6 hb9; replace p7 := cell_below p7 hb9; clear hb9) | (go_at_call 37; refine (HE.out _ hbw).mono ?_; rintro e w9 ⟨rfl, hb9⟩; replace hbw := hbw.trans (hb9.mono hbw.size); replace p0 := cell_below p0 hb9; replace p1 := cell_below p1 hb9; replace p2 := cell_below p2 hb9; replace p3 := cell_below p3 hb9; replace p4 := cell_below p4 hb9; replace p5 := cell_below p5 hb9; replace p6 := cell_below p6 hb9; replace p7 := cell_below p7 hb9; clear hb9) | (go_at_call 40; refine (K0.out _).mono ?_; rintro e w9 ⟨rfl, rfl⟩) | (go_at_call 11; refine (K1.out _).mono ?_; rintro e w9 ⟨rfl, rfl⟩) | (go_at_call 12; refine (K2.out _).mono ?_; rintro e w9 ⟨rfl, rfl⟩))
      go_ret
      exact ⟨false, (fun h => by cases h), rfl, hbw⟩
    | true =>
      cases s2 with
      | false =>
        go_wp2_with (first | (go_at_call 36; refine (HS.out _ hbw).mono ?_; rintro e w9 ⟨rfl, hb9⟩; replace hbw := hbw.trans (hb9.mono hbw.size); replace p0 := cell_below p0 hb9; replace p1 := cell_below p1 hb9; replace p2 := cell_below p2 hb9; replace p3 := cell_below p3 hb9; replace p4 := cell_below p4 hb9; replace p5 := cell_below p5 hb9; replace p6 := cell_below p6 hb9; replace p7 := cell_below p7 hb9; clear hb9) | (go_at_call 37; refine (HE.out _ hbw).mono ?_; rintro e w9 ⟨rfl, hb9⟩; replace hbw := hbw.trans (hb9.mono hbw.size); replace p0 := cell_below p0 hb9; replace p1 := cell_below p1 hb9; replace p2 := cell_below p2 hb9; replace p3 := cell_below p3 hb9; replace p4 := cell_below p4 hb9; replace p5 := cell_below p5 hb9; replace p6 := cell_below p6 hb9; replace p7 := cell_below p7 hb9; clear hb9) | (go_at_call 40; refine (K0.out _).mono ?_; rintro e w9 ⟨rfl, rfl⟩) | (go_at_call 11; refine (K1.out _).mono ?_; rintro e w9 ⟨rfl, rfl⟩) | (go_at_call 12; refine (K2.out _).mono ?_; rintro e w9 ⟨rfl, rfl⟩))
        go_ret
        exact ⟨false, (fun h => by cases h), rfl, hbw⟩
      | true =>
        by_cases h2 : L ≤ 200
        · have d2 : decide (L ≤ 200) = true := decide_eq_true h2
          cases s3 with
          | false =>
            go_wp2_with (first | (go_at_call 36; refine (HS.out _ hbw).mono ?_; rintro e w9 ⟨rfl, hb9⟩; replace hbw := hbw.trans (hb9.mono hbw.size); replace p0 := cell_below p0 hb9; replace p1 := cell_below p1 hb9; replace p2 := cell_below p2 hb9; replace p3 := cell_below p3 hb9; replace p4 := cell_below p4 hb9; replace p5 := cell_below p5 hb9; replace p6 := cell_below p6 hb9; replace p7 := cell_below p7 hb9; clear hb9) | (go_at_call 37; refine (HE.out _ hbw).mono ?_; rintro e w9 ⟨rfl, hb9⟩; replace hbw := hbw.trans (hb9.mono hbw.size); replace p0 := cell_below p0 hb9; replace p1 := cell_below p1 hb9; replace p2 := cell_below p2 hb9; replace p3 := cell_below p3 hb9; replace p4 := cell_below p4 hb9; replace p5 := cell_below p5 hb9; replace p6 := cell_below p6 hb9; replace p7 := cell_below p7 hb9; clear hb9) | (go_at_call 40; refine (K0.out _).mono ?_; rintro e w9 ⟨rfl, rfl⟩) | (go_at_call 11; refine (K1.out _).mono ?_; rintro e w9 ⟨rfl, rfl⟩) | (go_at_call 12; refine (K2.out _).mono ?_; rintro e w9 ⟨rfl, rfl⟩))
            go_ret
            exact ⟨false, (fun h => by cases h), rfl, hbw⟩
          | true =>
            cases s4 with
            | false =>
              go_wp2_with (first | (go_at_call 36; refine (HS.out _ hbw).mono ?_; rintro e w9 ⟨rfl, hb9⟩; replace hbw := hbw.trans (hb9.mono hbw.size); replace p0 := cell_below p0 hb9; replace p1 := cell_below p1 hb9; replace p2 := cell_below p2 hb9; replace p3 := cell_below p3 hb9; replace p4 := cell_below p4 hb9; replace p5 := cell_below p5 hb9; replace p6 := cell_below p6 hb9; replace p7 := cell_below p7 hb9; clear hb9) | (go_at_call 37; refine (HE.out _ hbw).mono ?_; rintro e w9 ⟨rfl, hb9⟩; replace hbw := hbw.trans (hb9.mono hbw.size); replace p0 := cell_below p0 hb9; replace p1 := cell_below p1 hb9; replace p2 := cell_below p2 hb9; replace p3 := cell_below p3 hb9; replace p4 := cell_below p4 hb9; replace p5 := cell_below p5 hb9; replace p6 := cell_below p6 hb9; replace p7 := cell_below p7 hb9; clear hb9) | (go_at_call 40; refine (K0.out _).mono ?_; rintro e w9 ⟨rfl, rfl⟩) | (go_at_call 11; refine (K1.out _).mono ?_; rintro e w9 ⟨rfl, rfl⟩) | (go_at_call 12; refine (K2.out _).mono ?_; rintro e w9 ⟨rfl, rfl⟩))
              go_ret
              exact ⟨false, (fun h => by cases h), rfl, hbw⟩
            | true =>
              cases s5 with
              | false =>
                go_wp2_with (first | (go_at_call 36; refine (HS.out _ hbw).mono ?_; rintro e w9 ⟨rfl, hb9⟩; replace hbw := hbw.trans (hb9.mono hbw.size); replace p0 := cell_below p0 hb9; replace p1 := cell_below p1 hb9; replace p2 := cell_below p2 hb9; replace p3 := cell_below p3 hb9; replace p4 := cell_below p4 hb9; replace p5 := cell_below p5 hb9; replace p6 := cell_below p6 hb9; replace p7 := cell_below p7 hb9; clear hb9) | (go_at_call 37; refine (HE.out _ hbw).mono ?_; rintro e w9 ⟨rfl, hb9⟩; replace hbw := hbw.trans (hb9.mono hbw.size); replace p0 := cell_below p0 hb9; replace p1 := cell_below p1 hb9; replace p2 := cell_below p2 hb9; replace p3 := cell_below p3 hb9; replace p4 := cell_below p4 hb9; replace p5 := cell_below p5 hb9; replace p6 := cell_below p6 hb9; replace p7 := cell_below p7 hb9; clear hb9) | (go_at_call 40; refine (K0.out _).mono ?_; rintro e w9 ⟨rfl, rfl⟩) | (go_at_call 11; refine (K1.out _).mono ?_; rintro e w9 ⟨rfl, rfl⟩) | (go_at_call 12; refine (K2.out _).mono ?_; rintro e w9 ⟨rfl, rfl⟩))
                go_ret
                exact ⟨false, (fun h => by cases h), rfl, hbw⟩
              | true =>
                go_wp2_with (first | (go_at_call 36; refine (HS.out _ hbw).mono ?_; rintro e w9 ⟨rfl, hb9⟩; replace hbw := hbw.trans (hb9.mono hbw.size); replace p0 := cell_below p0 hb9; replace p1 := cell_below p1 hb9; replace p2 := cell_below p2 hb9; replace p3 := cell_below p3 hb9; replace p4 := cell_below p4 hb9; replace p5 := cell_below p5 hb9; replace p6 := cell_below p6 hb9; replace p7 := cell_below p7 hb9; clear hb9) | (go_at_call 37; refine (HE.out _ hbw).mono ?_; rintro e w9 ⟨rfl, hb9⟩; replace hbw := hbw.trans (hb9.mono hbw.size); replace p0 := cell_below p0 hb9; replace p1 := cell_below p1 hb9; replace p2 := cell_below p2 hb9; replace p3 := cell_below p3 hb9; replace p4 := cell_below p4 hb9; replace p5 := cell_below p5 hb9; replace p6 := cell_below p6 hb9; replace p7 := cell_below p7 hb9; clear hb9) | (go_at_call 40; refine (K0.out _).mono ?_; rintro e w9 ⟨rfl, rfl⟩) | (go_at_call 11; refine (K1.out _).mono ?_; rintro e w9 ⟨rfl, rfl⟩) | (go_at_call 12; refine (K2.out _).mono ?_; rintro e w9 ⟨rfl, rfl⟩))
                go_ret
                exact ⟨true, fun _ => ⟨lst_zero HS1.out HS2.out, h2, HS3.out, HS4.out, HS5.out⟩, rfl, hbw⟩
        · have d2 : decide (L ≤ 200) = false := decide_eq_false h2
          go_wp2_with (first | (go_at_call 36; refine (HS.out _ hbw).mono ?_; rintro e w9 ⟨rfl, hb9⟩; replace hbw := hbw.trans (hb9.mono hbw.size); replace p0 := cell_below p0 hb9; replace p1 := cell_below p1 hb9; replace p2 := cell_below p2 hb9; replace p3 := cell_below p3 hb9; replace p4 := cell_below p4 hb9; replace p5 := cell_below p5 hb9; replace p6 := cell_below p6 hb9; replace p7 := cell_below p7 hb9; clear hb9) | (go_at_call 37; refine (HE.out _ hbw).mono ?_; rintro e w9 ⟨rfl, hb9⟩; replace hbw := hbw.trans (hb9.mono hbw.size); replace p0 := cell_below p0 hb9; replace p1 := cell_below p1 hb9; replace p2 := cell_below p2 hb9; replace p3 := cell_below p3 hb9; replace p4 := cell_below p4 hb9; replace p5 := cell_below p5 hb9; replace p6 := cell_below p6 hb9; replace p7 := cell_below p7 hb9; clear hb9) | (go_at_call 40; refine (K0.out _).mono ?_; rintro e w9 ⟨rfl, rfl⟩) | (go_at_call 11; refine (K1.out _).mono ?_; rintro e w9 ⟨rfl, rfl⟩) | (go_at_call 12; refine (K2.out _).mono ?_; rintro e w9 ⟨rfl, rfl⟩))
          go_ret
          exact ⟨false, (fun h => by cases h), rfl, hbw⟩
end Go.Proofs.YtjoffnbpaebgjaaGreat

namespace Go.Proofs.YtjoffnbpaebgjaaGreat
set_option linter.unusedVariables false
set_option linter.unusedSimpArgs false
open Go.RowKit

/-- One sign more in a row. -/
def stepI (L dir h : Int) (r : List Sgn) (x : Sgn) : List Sgn :=
  if selB dir h x = true then r.take (plcS L dir x r r.length) ++ x :: r.drop (plcS L dir x r r.length) else r
theorem insR_step (L dir h : Int) (l : List Sgn) (k : Nat) : insR L dir h l (k + 1) = stepI L dir h (insR L dir h l k) (gs l k) := rfl
theorem insR_congr {L dir h : Int} {l l' : List Sgn} : ∀ k, (∀ j, j < k → gs l j = gs l' j) → insR L dir h l k = insR L dir h l' k
  | 0, _ => rfl
  | k + 1, e => by
    rw [insR_step, insR_step, insR_congr k (fun j hj => e j (by omega)), e k (by omega)]
def insA (L dir h : Int) (l : List Sgn) : List Sgn := insR L dir h l l.length
theorem gs_left {l t : List Sgn} {j : Nat} (h : j < l.length) : gs (l ++ t) j = gs l j := by
  rw [gs_at _ (by simp; omega), gs_at _ h, List.getElem_append_left h]
theorem gs_snoc (l : List Sgn) (x : Sgn) : gs (l ++ [x]) l.length = x := by
  rw [gs_at _ (by simp)]
  simp
theorem insA_snoc (L dir h : Int) (l : List Sgn) (x : Sgn) : insA L dir h (l ++ [x]) = stepI L dir h (insA L dir h l) x := by
  unfold insA
  rw [List.length_append, List.length_singleton, insR_step, gs_snoc, insR_congr l.length fun j hj => gs_left hj]
theorem selR_congr {dir h : Int} {l l' : List Sgn} : ∀ k, (∀ j, j < k → gs l j = gs l' j) → selR dir h l k = selR dir h l' k
  | 0, _ => rfl
  | k + 1, e => by rw [selR, selR, selR_congr k (fun j hj => e j (by omega)), e k (by omega)]
theorem take_snoc (l : List Sgn) {k : Nat} (hk : k < l.length) : l.take (k + 1) = l.take k ++ [gs l k] := by
  rw [List.take_succ_eq_append_getElem hk, gs_at _ hk]
theorem selR_take (dir h : Int) (l : List Sgn) : ∀ k, k ≤ l.length → selR dir h l k = (l.take k).filter (fun x => selB dir h x)
  | 0, _ => rfl
  | k + 1, hk => by
    rw [selR, selR_take dir h l k (by omega), take_snoc l (by omega), List.filter_append]
    by_cases hx : selB dir h (gs l k) = true
    · rw [if_pos hx]; simp [hx]
    · rw [if_neg hx]; simp [hx]
theorem selR_filter (dir h : Int) (l : List Sgn) : selR dir h l l.length = l.filter (fun x => selB dir h x) := by
  rw [selR_take dir h l l.length (Nat.le_refl _), List.take_length]
theorem insA_perm (L dir h : Int) (l : List Sgn) : (insA L dir h l).Perm (l.filter (fun x => selB dir h x)) := by
  rw [← selR_filter]
  exact insR_perm L dir h l l.length
theorem sel_spk {dir h : Int} {x : Sgn} (hx : spkB x h = false) : selB dir h x = false := by unfold selB; rw [hx, Bool.and_false]
/-- Valid signs, as a list. -/
theorem sgns_iff (L : Int) (js : List Int) (l : List Sgn) : sgnsB L js l = true ↔ lineB L js = true ∧ l.length ≤ 100 ∧ (∀ x, x ∈ l → (btw x.n 1 1000000000 = true ∧ sgnB L x = true)) ∧ (l.map (·.n)).Nodup := by
  have hat : ∀ x, x ∈ l → ∃ k, k < l.length ∧ gs l k = x := fun x hx => by
    obtain ⟨k, hk, e⟩ := List.getElem_of_mem hx
    exact ⟨k, hk, by rw [gs_at _ hk, e]⟩
  constructor
  · intro h
    refine ⟨sgns_line h, ?_, fun x hx => ?_, ?_⟩
    · by_cases h9 : 100 < l.length
      · rw [s_bad9 h9] at h; cases h
      · omega
    · obtain ⟨k, hk, rfl⟩ := hat x hx
      constructor
      · cases e : btw (gs l k).n 1 1000000000 with
        | true => rfl
        | false => rw [s_bad1 hk e] at h; cases h
      · cases e : sgnB L (gs l k) with
        | true => rfl
        | false => rw [s_bad2 hk e] at h; cases h
    · rw [List.nodup_iff_pairwise_ne, List.pairwise_iff_getElem]
      intro i j hi hj hij e
      rw [List.getElem_map, List.getElem_map] at e
      have hi : i < l.length := by simpa using hi
      have hj : j < l.length := by simpa using hj
      rw [← gs_at _ hi, ← gs_at _ hj] at e
      rw [s_bad3 hj hij e] at h; cases h
  · rintro ⟨h0, h9, h, hn⟩
    refine s_end h0 h9 fun k hk => ?_
    have hm : gs l k ∈ l := by rw [gs_at _ hk]; exact List.getElem_mem hk
    refine ⟨(h _ hm).1, (h _ hm).2, fun j hj e => ?_⟩
    rw [List.nodup_iff_pairwise_ne, List.pairwise_iff_getElem] at hn
    refine hn j k (by simpa using (by omega : j < l.length)) (by simpa using hk) hj ?_
    rw [List.getElem_map, List.getElem_map, ← gs_at _ (by omega : j < l.length), ← gs_at _ hk]
    exact e
theorem lst_iff (L : Int) (js : List Int) (l : List Sgn) : lstE L js l [] = 0 ↔ sgnsB L js l = true := by
  constructor
  · intro h; exact lst_sgns h
  · intro h
    unfold lstE
    rw [sgns_line h, h, edcs_nil, sgns_line h]
    rfl
theorem sgns_sub {L : Int} {js : List Int} {l t : List Sgn} (h : sgnsB L js l = true) (hs : t.Sublist l) : sgnsB L js t = true := by
  rw [sgns_iff] at h ⊢
  exact ⟨h.1, Nat.le_trans hs.length_le h.2.1, fun x hx => h.2.2.1 x (hs.mem hx), h.2.2.2.sublist (hs.map _)⟩
/-- The signs that speak, of the first k. -/
def spkL (h : Int) (l : List Sgn) : Nat → List Sgn
  | 0 => []
  | k + 1 => if spkB (gs l k) h = true then spkL h l k ++ [gs l k] else spkL h l k
theorem spk_ins (L dir h : Int) (l : List Sgn) : ∀ k, insA L dir h (spkL h l k) = insR L dir h l k
  | 0 => rfl
  | k + 1 => by
    have ih := spk_ins L dir h l k
    rw [spkL, insR_step, ← ih]
    by_cases hx : spkB (gs l k) h = true
    · rw [if_pos hx, insA_snoc]
    · rw [if_neg hx, stepI, sel_spk (by simpa using hx), if_neg (by decide)]
theorem spk_sub (h : Int) (l : List Sgn) : ∀ k, k ≤ l.length → (spkL h l k).Sublist (l.take k)
  | 0, _ => List.Sublist.slnil
  | k + 1, hk => by
    have ih := spk_sub h l k (by omega)
    rw [spkL, take_snoc l (by omega)]
    split
    · exact ih.append (List.Sublist.refl _)
    · exact ih.trans (List.sublist_append_left _ _)
/-- A sign that a cover silences over all its hours. -/
def cvr (x : Sgn) : Sgn := { x with cv := [(x.up, x.dn)] }
theorem cvr_spk (x : Sgn) (h : Int) : spkB (cvr x) h = false := by
  unfold spkB cvr
  simp only [List.length_singleton, anyK, covH, gp, List.getD_cons_zero, Bool.or_false]
  by_cases h1 : x.up ≤ h <;> by_cases h2 : h < x.dn <;> simp [h1, h2]
/-- All of the first k but number z; and all, number z covered. -/
def othL (z : Nat) (l : List Sgn) : Nat → List Sgn
  | 0 => []
  | k + 1 => if k = z then othL z l k else othL z l k ++ [gs l k]
def covL (z : Nat) (l : List Sgn) : Nat → List Sgn
  | 0 => []
  | k + 1 => covL z l k ++ [if k = z then cvr (gs l k) else gs l k]
theorem oth_cov (L dir h : Int) (z : Nat) (l : List Sgn) : ∀ k, insA L dir h (othL z l k) = insA L dir h (covL z l k)
  | 0 => rfl
  | k + 1 => by
    have ih := oth_cov L dir h z l k
    rw [othL, covL, insA_snoc, ← ih]
    by_cases hz : k = z
    · rw [if_pos hz, if_pos hz, stepI, sel_spk (cvr_spk _ _), if_neg (by decide)]
    · rw [if_neg hz, if_neg hz, insA_snoc]
theorem oth_sub (z : Nat) (l : List Sgn) : ∀ k, k ≤ l.length → (othL z l k).Sublist (l.take k)
  | 0, _ => List.Sublist.slnil
  | k + 1, hk => by
    have ih := oth_sub z l k (by omega)
    rw [othL, take_snoc l (by omega)]
    split
    · exact ih.trans (List.sublist_append_left _ _)
    · exact ih.append (List.Sublist.refl _)
theorem cov_n (z : Nat) (l : List Sgn) : ∀ k, k ≤ l.length → (covL z l k).map (·.n) = (l.take k).map (·.n)
  | 0, _ => rfl
  | k + 1, hk => by
    have ih := cov_n z l k (by omega)
    rw [covL, take_snoc l (by omega), List.map_append, List.map_append, ih]
    congr 1
    simp only [List.map_cons, List.map_nil]
    split <;> rfl
theorem cov_mem {z : Nat} {l : List Sgn} {x : Sgn} : ∀ {k}, k ≤ l.length → x ∈ covL z l k → ∃ y, y ∈ l ∧ (x = y ∨ x = cvr y)
  | 0, _, hx => by simp [covL] at hx
  | k + 1, hk, hx => by
    rw [covL, List.mem_append, List.mem_singleton] at hx
    rcases hx with hx | hx
    · exact cov_mem (by omega) hx
    · refine ⟨gs l k, by rw [gs_at _ (by omega)]; exact List.getElem_mem _, ?_⟩
      split at hx
      · exact .inr hx
      · exact .inl hx
theorem cvr_good {L : Int} {x : Sgn} (h : sgnB L x = true) : sgnB L (cvr x) = true := by
  unfold sgnB at *
  simp only [Bool.and_eq_true] at h ⊢
  refine ⟨⟨h.1.1, rfl⟩, ?_⟩
  have ht := h.1.1.2
  unfold covB cvr
  simp only [List.length_singleton, anyK, gp, List.getD_cons_zero, Bool.or_false]
  rw [ht]; rfl
theorem cov_good {L : Int} {js : List Int} {z : Nat} {l : List Sgn} (h : sgnsB L js l = true) : sgnsB L js (covL z l l.length) = true := by
  rw [sgns_iff] at h ⊢
  have hn := cov_n z l l.length (Nat.le_refl _)
  rw [List.take_length] at hn
  refine ⟨h.1, ?_, fun x hx => ?_, by rw [hn]; exact h.2.2.2⟩
  · have := congrArg List.length hn
    simp only [List.length_map] at this
    omega
  · obtain ⟨y, hy, e | e⟩ := cov_mem (Nat.le_refl _) hx
    · rw [e]; exact h.2.2.1 y hy
    · rw [e]; exact ⟨(h.2.2.1 y hy).1, cvr_good (h.2.2.1 y hy).2⟩
/-- All but plates of the first k; and these but warnings and repeats. -/
def allL (l : List Sgn) : Nat → List Sgn
  | 0 => []
  | k + 1 => if (gs l k).k = 7 then allL l k else allL l k ++ [gs l k]
def keepB (x : Sgn) : Bool := !(x.k == 8) && !(x.k == 6)
def somL (l : List Sgn) : Nat → List Sgn
  | 0 => []
  | k + 1 => if (gs l k).k = 7 then somL l k else if (gs l k).k = 8 then somL l k else if (gs l k).k = 6 then somL l k else somL l k ++ [gs l k]
theorem som_filter (l : List Sgn) : ∀ k, somL l k = (allL l k).filter keepB
  | 0 => rfl
  | k + 1 => by
    have ih := som_filter l k
    rw [somL, allL]
    split
    · exact ih
    · rw [List.filter_append, ← ih]
      split
      next h => simp [keepB, h]
      next h8 =>
        split
        next h => simp [keepB, h]
        next h6 =>
          have : keepB (gs l k) = true := by unfold keepB; simp [h8, h6]
          rw [List.filter_cons_of_pos this]; rfl
theorem all_sub (l : List Sgn) : ∀ k, k ≤ l.length → (allL l k).Sublist (l.take k)
  | 0, _ => List.Sublist.slnil
  | k + 1, hk => by
    have ih := all_sub l k (by omega)
    rw [allL, take_snoc l (by omega)]
    split
    · exact ih.trans (List.sublist_append_left _ _)
    · exact ih.append (List.Sublist.refl _)
theorem all_kind {l : List Sgn} {x : Sgn} : ∀ {k}, x ∈ allL l k → x.k ≠ 7
  | 0, hx => by simp [allL] at hx
  | k + 1, hx => by
    rw [allL] at hx
    split at hx
    · exact all_kind hx
    next h7 =>
      rw [List.mem_append, List.mem_singleton] at hx
      rcases hx with hx | hx
      · exact all_kind hx
      · rw [hx]; exact h7
theorem insA_sorted {L dir h : Int} {l : List Sgn} (hn : (l.map (·.n)).Nodup) : (insA L dir h l).Pairwise (ahS L dir) := by
  refine insR_sorted (fun i j hij hj e => ?_) _ (Nat.le_refl _)
  rw [List.nodup_iff_pairwise_ne, List.pairwise_iff_getElem] at hn
  refine hn i j (by simpa using (by omega : i < l.length)) (by simpa using hj) hij ?_
  rw [List.getElem_map, List.getElem_map, ← gs_at _ (by omega : i < l.length), ← gs_at _ hj]
  exact e
theorem insA_filter {L dir h : Int} {l : List Sgn} (p : Sgn → Bool) (hn : (l.map (·.n)).Nodup) : insA L dir h (l.filter p) = (insA L dir h l).filter p := by
  refine ord_unique (insA_sorted (hn.sublist (List.filter_sublist.map _))) ((insA_sorted hn).sublist List.filter_sublist) ?_
  refine (insA_perm L dir h _).trans ?_
  refine List.Perm.trans ?_ ((insA_perm L dir h l).filter p).symm
  rw [List.filter_filter, List.filter_filter]
  refine List.Perm.of_eq (List.filter_congr fun x _ => Bool.and_comm _ _)
theorem keep_top {x : Sgn} (t : Int) (h : keepB x = false) : endB x.k t = false ∧ topK x.k = 0 := by
  unfold keepB at h
  have : x.k = 8 ∨ x.k = 6 := by
    by_cases h8 : x.k = 8
    · exact .inl h8
    · by_cases h6 : x.k = 6
      · exact .inr h6
      · simp [h8, h6] at h
  rcases this with e | e <;> rw [e] <;> exact ⟨rfl, rfl⟩
theorem plt_no {L dir k : Int} {s : Sgn} {r : List Sgn} (h : ∀ x, x ∈ r → x.k ≠ 7) : pltB L dir k s r.head? = false := by
  cases r with
  | nil => rfl
  | cons y r =>
    have := h y (by simp)
    simp [pltB, this]
theorem hS_far {L : Int} {js : List Int} {dir t k : Int} : ∀ (r : List Sgn) (v : Int), (∀ x, x ∈ r → k < dstK L dir x.c) → hS L js dir t k r v = v
  | [], _, _ => rfl
  | x :: r, v, h => by rw [hS, if_pos (h x (by simp))]
theorem hS_keep {L : Int} {js : List Int} {dir t k : Int} (ht : t ≠ 0) : ∀ (r : List Sgn) (v : Int), (∀ x, x ∈ r → x.k ≠ 7) → r.Pairwise (ahS L dir) → hS L js dir t k (r.filter keepB) v = hS L js dir t k r v
  | [], _, _, _ => rfl
  | x :: r, v, h7, hp => by
    have hp2 := List.pairwise_cons.1 hp
    have ih := fun v => hS_keep (js := js) (k := k) ht r v (fun y hy => h7 y (by simp [hy])) hp2.2
    have hd : ∀ y, y ∈ r → dstK L dir x.c ≤ dstK L dir y.c := fun y hy => by
      have := hp2.1 y hy
      unfold ahS at this
      omega
    by_cases hk : k < dstK L dir x.c
    · rw [hS, if_pos hk]
      refine hS_far _ _ fun y hy => ?_
      have hy := (List.mem_filter.1 hy).1
      rw [List.mem_cons] at hy
      rcases hy with rfl | hy
      · exact hk
      · have := hd y hy; omega
    · by_cases hx : keepB x = true
      · rw [List.filter_cons_of_pos hx, hS, hS, if_neg hk, if_neg hk, ih]
        congr 1
        unfold stpS shutB
        rw [plt_no (r := r) (fun y hy => h7 y (List.mem_cons_of_mem _ hy)), plt_no (r := r.filter keepB) (fun y hy => h7 y (List.mem_cons_of_mem _ (List.mem_filter.1 hy).1))]
      · have hx : keepB x = false := by simpa using hx
        obtain ⟨h1, h2⟩ := keep_top t hx
        rw [List.filter_cons_of_neg (by rw [hx]; decide), ih, hS, if_neg hk]
        congr 1
        unfold stpS
        rw [h1, h2, if_neg (by decide), if_neg (Ne.symm ht)]
theorem hld_som {L : Int} {js : List Int} {l : List Sgn} {h dir t m : Int} (ht : t ≠ 0) (hs : sgnsB L js l = true) : hldV L js (somL l l.length) h dir t m = hldV L js (allL l l.length) h dir t m := by
  have hn := ((sgns_iff L js l).1 hs).2.2.2
  have hsub := all_sub l l.length (Nat.le_refl _)
  rw [List.take_length] at hsub
  have hn2 : ((allL l l.length).map (·.n)).Nodup := hn.sublist (hsub.map _)
  show hS L js dir t (begK L dir m) (insA L dir h (somL l l.length)) 0 = hS L js dir t (begK L dir m) (insA L dir h (allL l l.length)) 0
  rw [som_filter, insA_filter keepB hn2]
  refine hS_keep ht _ _ (fun x hx => ?_) (insA_sorted hn2)
  have := (insA_perm L dir h (allL l l.length)).mem_iff.1 hx
  exact all_kind (List.mem_filter.1 this).1
theorem hld_spk (L : Int) (js : List Int) (l : List Sgn) (h dir t m : Int) : hldV L js (spkL h l l.length) h dir t m = hldV L js l h dir t m := by
  show hS L js dir t (begK L dir m) (insA L dir h (spkL h l l.length)) 0 = _
  rw [spk_ins]; rfl
theorem hld_oth (L : Int) (js : List Int) (l : List Sgn) (z : Nat) (h dir t m : Int) : hldV L js (covL z l l.length) h dir t m = hldV L js (othL z l l.length) h dir t m := by
  show hS L js dir t (begK L dir m) (insA L dir h (covL z l l.length)) 0 = hS L js dir t (begK L dir m) (insA L dir h (othL z l l.length)) 0
  rw [oth_cov]
theorem spk_good {L : Int} {js : List Int} {l : List Sgn} (h : Int) (hs : sgnsB L js l = true) : sgnsB L js (spkL h l l.length) = true := sgns_sub hs (by have := spk_sub h l l.length (Nat.le_refl _); rwa [List.take_length] at this)
theorem oth_good {L : Int} {js : List Int} {l : List Sgn} (z : Nat) (hs : sgnsB L js l = true) : sgnsB L js (othL z l l.length) = true := sgns_sub hs (by have := oth_sub z l l.length (Nat.le_refl _); rwa [List.take_length] at this)
theorem all_good {L : Int} {js : List Int} {l : List Sgn} (hs : sgnsB L js l = true) : sgnsB L js (allL l l.length) = true := sgns_sub hs (by have := all_sub l l.length (Nat.le_refl _); rwa [List.take_length] at this)
theorem som_good {L : Int} {js : List Int} {l : List Sgn} (hs : sgnsB L js l = true) : sgnsB L js (somL l l.length) = true := by
  rw [som_filter]
  exact sgns_sub (all_good hs) List.filter_sublist
end Go.Proofs.YtjoffnbpaebgjaaGreat

namespace Go.Proofs.YtjoffnbpaebgjaaGreat
set_option linter.unusedVariables false
set_option linter.unusedSimpArgs false
open Go.RowKit

set_option maxRecDepth 100000 in
set_option maxHeartbeats 1000000 in
theorem idxEa_any (aa : Option Addr) (l : List (Int)) (ca : Nat) (lb : Array Value) (p : Nat → Bool) (w : World) (hA : IntsS w aa l)
    (hp : ∀ j W, j < l.length → Below w.heap.size w W → Calls Tryz.prog 107 (#[.int .i64 (gi l j)] ++ lb) W fun e w' => e = .returned (.bool (p j)) ∧ Below W.heap.size W w') :
    Calls Tryz.prog 135 #[.slice aa l.length ca, .func (.func 107) #[] lb] w fun e w' => e = .returned (.int .i64 (idxK p l.length)) ∧ Below w.heap.size w w' := by
  obtain ⟨hlen, -, blk, off, hadr, hc⟩ := hA
  have HP := Lib.hid hp
  have HC := Lib.hid hc
  have HH : Hid (∀ k, k < l.length → p k = true → (∀ j, j < k → p j = false) → idxK p l.length = k) := Lib.hid fun k hk h hb => idxK_hit h hb _ hk
  have HM : Hid ((∀ j, j < l.length → p j = false) → idxK p l.length = -1) := Lib.hid fun h => idxK_miss _ h
  have HL : Hid (0 < l.length → aa = some ⟨blk, off, none⟩) := Lib.hid fun h => hadr (pos_ne (n := 0) h)
  generalize idxK p l.length = R at *
  clear hp hc hadr
  go_enter Tryz.func135, Tryz.ntmps135
  go_wp2_with fail
  go_loopw [8] (fun i wr => ∃ k : Nat, k ≤ l.length ∧ i = .int .i64 k ∧ Below w.heap.size w wr ∧ Hid (∀ j, j < k → p j = false)) (fun i _ => l.length - (intOf i).toNat)
  case atStart => exact ⟨0, Nat.zero_le _, rfl, Below.refl _ _, Lib.hid fun j hj => absurd hj (Nat.not_lt_zero _)⟩
  case round =>
    obtain ⟨k, hk, rfl, hb, HA⟩ := hrel
    by_cases hlt : k < l.length
    · obtain rfl := HL.out (by omega)
      have c0 := cell_below (HC.out k hlt) hb
      have HK := Lib.hid (fun W => HP.out k W hlt)
      have HHk := Lib.hid (HH.out k hlt)
      have HN : Hid (p k = false → ∀ j, j < k + 1 → p j = false) := Lib.hid fun h j hj => by
        by_cases e : j = k
        · subst e; exact h
        · exact HA.out j (by omega)
      clear HP HC HM HL HH
      generalize (gi l k) = x0 at *
      cases hpk : p k with
      | true =>
        have HR := Lib.hid (HHk.out hpk HA.out)
        rw [hpk] at HK
        clear hpk HHk HN
        go_wp2_with fail
        refine (HK.out _ hb).mono ?_
        rintro e w1 ⟨rfl, hb1⟩
        go_wp2_with fail
        go_ret
        rw [HR.out]
        exact ⟨rfl, hb.trans (hb1.mono hb.size)⟩
      | false =>
        have HR := Lib.hid (HN.out hpk)
        rw [hpk] at HK
        clear hpk HHk HN
        go_wp2_with fail
        refine (HK.out _ hb).mono ?_
        rintro e w1 ⟨rfl, hb1⟩
        go_wp2_with fail
        go_roundw
        case rel => exact ⟨k + 1, by omega, by go_num, hb.trans (hb1.mono hb.size), HR⟩
        case measure => simp [intOf]; omega
    · obtain rfl : k = l.length := by omega
      have HR := Lib.hid (HM.out HA.out)
      go_wp2_with fail
      go_ret
      rw [HR.out]
      exact ⟨rfl, hb⟩

set_option maxRecDepth 100000 in
theorem containsEa_any (aa : Option Addr) (l : List (Int)) (ca : Nat) (lb : Array Value) (p : Nat → Bool) (w : World) (hA : IntsS w aa l)
    (hp : ∀ j W, j < l.length → Below w.heap.size w W → Calls Tryz.prog 107 (#[.int .i64 (gi l j)] ++ lb) W fun e w' => e = .returned (.bool (p j)) ∧ Below W.heap.size W w') :
    Calls Tryz.prog 106 #[.slice aa l.length ca, .func (.func 107) #[] lb] w fun e w' => e = .returned (.bool (anyK p l.length)) ∧ Below w.heap.size w w' := by
  have H := Lib.hid (idxEa_any aa l ca lb p w hA hp)
  have hq := Lib.hid (idxK_any p l.length)
  clear hp hA
  generalize idxK p l.length = R at *
  generalize anyK p l.length = B at *
  have hq := hq.out
  subst hq
  go_enter Tryz.func106, Tryz.ntmps106
  go_wp2_with fail
  refine H.out.mono ?_
  rintro e w1 ⟨rfl, hb1⟩
  go_wp2_with fail
  all_goals
    go_ret
    exact ⟨by simp_all, hb1⟩

/-- Is an end one of a topic of which something holds ahead of it? -/
def endP (row : List Pst) (p : Pst) (t : Int) : Bool := endB p.s.k t && (hldL t (p.d - 1) row 0 != 0)
/-- The fault of a sign of a row, or 0. -/
def codP (L : Int) (row : List Pst) (p : Pst) : Int :=
  if p.s.k = 7 then (if p.b = false ∨ L - p.d < p.s.v then 1 else 0)
  else if p.s.k = 6 then (if p.d = L ∨ hldL 1 p.d row 0 ≠ p.s.v then 2 else 0)
  else if p.s.k = 2 ∨ p.s.k = 4 ∨ p.s.k = 5 then (if (endP row p 1 || endP row p 2) = true then 0 else 3)
  else if p.s.k = 1 ∨ p.s.k = 3 then (if p.d = L then 4 else 0) else 0
set_option maxRecDepth 100000 in
set_option maxHeartbeats 2000000 in
theorem endsAny1_r (L : Int) (ar : Option Addr) (row : List Pst) (cr : Nat) (p : Pst) (ad : Option Addr) (cp pb ib : Nat) (t : Int) (hd : -100000 ≤ p.d ∧ p.d ≤ 100000) (w : World) (hR : PstS w ar row) (c1 : w.cell? ⟨pb, 1, none⟩ = some (.int .i64 p.s.k)) (c9 : w.cell? ⟨pb, 9, none⟩ = some (.int .i64 p.d)) (i1 : w.cell? ⟨ib, 1, none⟩ = some (.slice ar row.length cr)) :
    Calls Tryz.prog 107 (#[.int .i64 t] ++ #[.pointer (some ⟨pb, 0, none⟩), .pointer (some ⟨ib, 0, none⟩)]) w fun e w' => e = .returned (.bool (endP row p t)) ∧ Below w.heap.size w w' := by
  change Calls Tryz.prog 107 #[.int .i64 t, .pointer (some ⟨pb, 0, none⟩), .pointer (some ⟨ib, 0, none⟩)] w _
  have HE := Lib.hid (fun W => isEnd_r p.s.k t W)
  have HH := Lib.hid (fun W (hW : Below w.heap.size w W) => holdsAt_r ar row cr t (p.d - 1) W (hR.below hW))
  have HP : Hid (endP row p t = (endB p.s.k t && (hldL t (p.d - 1) row 0 != 0))) := Lib.hid rfl
  generalize hldL t (p.d - 1) row 0 = V at *
  generalize endB p.s.k t = eb at *
  clear hR
  cases eb with
  | false =>
    have hv : Hid (endP row p t = false) := Lib.hid (by rw [HP.out]; rfl)
    clear HP HH
    go_enter Tryz.func107, Tryz.ntmps107
    go_wp2_with (go_at_call 57; refine (HE.out _).mono ?_; rintro e w2 ⟨rfl, rfl⟩)
    go_ret
    exact ⟨by rw [hv.out] <;> rfl, Below.refl _ _⟩
  | true =>
    by_cases h0 : V = 0
    · have hv : Hid (endP row p t = false) := Lib.hid (by rw [HP.out, h0]; rfl)
      have d0 : (V != 0) = false := by rw [h0]; rfl
      clear HP h0
      go_enter Tryz.func107, Tryz.ntmps107
      go_wp2_with (first | (go_at_call 57; refine (HE.out _).mono ?_; rintro e w2 ⟨rfl, rfl⟩) | (go_at_call 33; refine (HH.out _ (Below.refl _ _)).mono ?_; rintro e w3 ⟨rfl, hb3⟩))
      go_ret
      exact ⟨by rw [hv.out] <;> rfl, hb3⟩
    · have d0 : (V != 0) = true := by simp [h0]
      have hv : Hid (endP row p t = true) := Lib.hid (by rw [HP.out, d0]; rfl)
      clear HP h0
      go_enter Tryz.func107, Tryz.ntmps107
      go_wp2_with (first | (go_at_call 57; refine (HE.out _).mono ?_; rintro e w2 ⟨rfl, rfl⟩) | (go_at_call 33; refine (HH.out _ (Below.refl _ _)).mono ?_; rintro e w3 ⟨rfl, hb3⟩))
      go_ret
      exact ⟨by rw [hv.out] <;> rfl, hb3⟩
set_option maxRecDepth 100000 in
set_option maxHeartbeats 2000000 in
theorem endsAny_r (L : Int) (ar : Option Addr) (row : List Pst) (cr : Nat) (p : Pst) (ad : Option Addr) (cp : Nat) (g : Nat) (hd : -100000 ≤ p.d ∧ p.d ≤ 100000) (w : World) (hR : PstS w ar row) (hT : IntsS w (some ⟨g, 0, none⟩) [1, 2]) :
    Calls Tryz.prog 76 #[.agg #[.int .i64 L, .slice ar row.length cr], .agg #[.int .i64 p.s.n, .int .i64 p.s.k, .int .i64 p.s.v, .int .i64 p.s.c, .int .i64 p.s.d, .int .i64 p.s.rk, .int .i64 p.s.up, .int .i64 p.s.dn, .slice ad p.s.cv.length cp, .int .i64 p.d, .int .i64 p.u, .bool p.b], .slice (some ⟨g, 0, none⟩) 2 2] w fun e w' => e = .returned (.bool (endP row p 1 || endP row p 2)) ∧ Below w.heap.size w w' := by
  have HC := Lib.hid (fun W (hW : Below w.heap.size w W) (c1 : W.cell? ⟨w.heap.size + 1, 1, none⟩ = some (.int .i64 p.s.k)) (c9 : W.cell? ⟨w.heap.size + 1, 9, none⟩ = some (.int .i64 p.d)) (i1 : W.cell? ⟨w.heap.size, 1, none⟩ = some (.slice ar row.length cr)) => containsEa_any (some ⟨g, 0, none⟩) [1, 2] 2 #[.pointer (some ⟨w.heap.size + 1, 0, none⟩), .pointer (some ⟨w.heap.size, 0, none⟩)] (fun j => endP row p (gi [1, 2] j)) W (hT.below hW) (fun j W' hj hb' => endsAny1_r L ar row cr p ad cp (w.heap.size + 1) w.heap.size (gi [1, 2] j) hd W' ((hR.below hW).below hb') (cell_below c1 hb') (cell_below c9 hb') (cell_below i1 hb')))
  have HV : Hid (anyK (fun j => endP row p (gi [1, 2] j)) [(1 : Int), 2].length = (endP row p 1 || endP row p 2)) := Lib.hid (by show ((false || endP row p 1) || endP row p 2) = _; rw [Bool.false_or])
  clear hR hT
  go_enter Tryz.func76, Tryz.ntmps76
  go_upto_region 1 with (fail)
  obtain ⟨wB, hwB⟩ : ∃ wB, (w.alloc (.cells #[.int .i64 L, .slice ar row.length cr] 91)).alloc (.cells #[.int .i64 p.s.n, .int .i64 p.s.k, .int .i64 p.s.v, .int .i64 p.s.c, .int .i64 p.s.d, .int .i64 p.s.rk, .int .i64 p.s.up, .int .i64 p.s.dn, .slice ad p.s.cv.length cp, .int .i64 p.d, .int .i64 p.u, .bool p.b] 88) = wB := ⟨_, rfl⟩
  have hb : Below w.heap.size w wB := by rw [← hwB]; exact ((Below.refl _ _).alloc (Nat.le_refl _) _).alloc (by simp) _
  have i0 : wB.cell? ⟨w.heap.size, 0, none⟩ = some (.int .i64 L) := by rw [← hwB]; simp [go_sem]
  have i1 : wB.cell? ⟨w.heap.size, 1, none⟩ = some (.slice ar row.length cr) := by rw [← hwB]; simp [go_sem]
  have x0 : wB.cell? ⟨w.heap.size + 1, 0, none⟩ = some (.int .i64 p.s.n) := by rw [← hwB]; simp [go_sem]
  have x1 : wB.cell? ⟨w.heap.size + 1, 1, none⟩ = some (.int .i64 p.s.k) := by rw [← hwB]; simp [go_sem]
  have x2 : wB.cell? ⟨w.heap.size + 1, 2, none⟩ = some (.int .i64 p.s.v) := by rw [← hwB]; simp [go_sem]
  have x3 : wB.cell? ⟨w.heap.size + 1, 3, none⟩ = some (.int .i64 p.s.c) := by rw [← hwB]; simp [go_sem]
  have x4 : wB.cell? ⟨w.heap.size + 1, 4, none⟩ = some (.int .i64 p.s.d) := by rw [← hwB]; simp [go_sem]
  have x5 : wB.cell? ⟨w.heap.size + 1, 5, none⟩ = some (.int .i64 p.s.rk) := by rw [← hwB]; simp [go_sem]
  have x6 : wB.cell? ⟨w.heap.size + 1, 6, none⟩ = some (.int .i64 p.s.up) := by rw [← hwB]; simp [go_sem]
  have x7 : wB.cell? ⟨w.heap.size + 1, 7, none⟩ = some (.int .i64 p.s.dn) := by rw [← hwB]; simp [go_sem]
  have x8 : wB.cell? ⟨w.heap.size + 1, 8, none⟩ = some (.slice ad p.s.cv.length cp) := by rw [← hwB]; simp [go_sem]
  have x9 : wB.cell? ⟨w.heap.size + 1, 9, none⟩ = some (.int .i64 p.d) := by rw [← hwB]; simp [go_sem]
  have x10 : wB.cell? ⟨w.heap.size + 1, 10, none⟩ = some (.int .i64 p.u) := by rw [← hwB]; simp [go_sem]
  have x11 : wB.cell? ⟨w.heap.size + 1, 11, none⟩ = some (.bool p.b) := by rw [← hwB]; simp [go_sem]
  rw [hwB]
  clear hwB
  have HCc := Lib.hid (HC.out wB hb x1 x9 i1)
  rw [HV.out] at HCc
  clear HC HV x0 x1 x2 x3 x4 x5 x6 x7 x8 x9 x10 x11 i0 i1
  go_wp2_with (go_at_call 106; refine HCc.out.mono ?_; rintro e w2 ⟨rfl, hb2⟩)
  go_ret
  exact ⟨rfl, hb.trans (hb2.mono hb.size)⟩
theorem ex_ints2 (w : World) : IntsS (w.alloc (.cells #[.int .i64 1, .int .i64 2] 3)) (some ⟨w.heap.size, 0, none⟩) [1, 2] := by
  refine ⟨by decide, fun i hi => ?_, w.heap.size, 0, fun _ => rfl, fun i hi => ?_⟩
  · have hi : i < 2 := hi
    by_cases e : i = 0
    · subst e; exact ⟨by decide, by decide⟩
    · obtain rfl : i = 1 := by omega
      exact ⟨by decide, by decide⟩
  · have hi : i < 2 := hi
    by_cases e : i = 0
    · subst e; simp [go_sem]; rfl
    · obtain rfl : i = 1 := by omega
      simp [go_sem]; rfl
set_option maxRecDepth 100000 in
set_option maxHeartbeats 8000000 in
theorem code_r (L : Int) (ar : Option Addr) (row : List Pst) (cr : Nat) (p : Pst) (ad : Option Addr) (cp : Nat) (hL : 0 ≤ L ∧ L ≤ 100000) (hd : -100000 ≤ p.d ∧ p.d ≤ 100000) (hv1 : -100000 ≤ p.s.v ∧ p.s.v ≤ 100000) (w : World) (hR : PstS w ar row) :
    Calls Tryz.prog 44 #[.agg #[.int .i64 L, .slice ar row.length cr], .agg #[.int .i64 p.s.n, .int .i64 p.s.k, .int .i64 p.s.v, .int .i64 p.s.c, .int .i64 p.s.d, .int .i64 p.s.rk, .int .i64 p.s.up, .int .i64 p.s.dn, .slice ad p.s.cv.length cp, .int .i64 p.d, .int .i64 p.u, .bool p.b]] w fun e w' => e = .returned (.int .i64 (codP L row p)) ∧ Below w.heap.size w w' := by
  have HH := Lib.hid (fun W (hW : Below w.heap.size w W) => holdsAt_r ar row cr 1 p.d W (hR.below hW))
  have HE := Lib.hid (fun W g (hW : Below w.heap.size w W) hT => endsAny_r L ar row cr p ad cp g hd W (hR.below hW) hT)
  obtain ⟨V, hV⟩ : ∃ V, hldL 1 p.d row 0 = V := ⟨_, rfl⟩
  have HVe := Lib.hid hV
  rw [hV] at HH
  obtain ⟨eb, heb⟩ : ∃ eb, (endP row p 1 || endP row p 2) = eb := ⟨_, rfl⟩
  have HEe := Lib.hid heb
  rw [heb] at HE
  clear hR hV heb
  by_cases h7 : p.s.k = 7
  · have k7 : (p.s.k == 7) = true := by rw [h7]; rfl
    rcases Bool.eq_false_or_eq_true p.b with hpb | hpb
    rotate_left
    · skip
      have hv : Hid (codP L row p = 1) := Lib.hid (by unfold codP; rw [if_pos h7, if_pos (.inl hpb)])
      have HPB := Lib.hid hpb
      clear h7 HH HE hpb
      go_enter Tryz.func44, Tryz.ntmps44
      go_upto_region 1 with (fail)
      obtain ⟨wB, hwB⟩ : ∃ wB, (w.alloc (.cells #[.int .i64 L, .slice ar row.length cr] 91)).alloc (.cells #[.int .i64 p.s.n, .int .i64 p.s.k, .int .i64 p.s.v, .int .i64 p.s.c, .int .i64 p.s.d, .int .i64 p.s.rk, .int .i64 p.s.up, .int .i64 p.s.dn, .slice ad p.s.cv.length cp, .int .i64 p.d, .int .i64 p.u, .bool p.b] 88) = wB := ⟨_, rfl⟩
      have hb : Below w.heap.size w wB := by rw [← hwB]; exact ((Below.refl _ _).alloc (Nat.le_refl _) _).alloc (by simp) _
      have i0 : wB.cell? ⟨w.heap.size, 0, none⟩ = some (.int .i64 L) := by rw [← hwB]; simp [go_sem]
      have i1 : wB.cell? ⟨w.heap.size, 1, none⟩ = some (.slice ar row.length cr) := by rw [← hwB]; simp [go_sem]
      have x0 : wB.cell? ⟨w.heap.size + 1, 0, none⟩ = some (.int .i64 p.s.n) := by rw [← hwB]; simp [go_sem]
      have x1 : wB.cell? ⟨w.heap.size + 1, 1, none⟩ = some (.int .i64 p.s.k) := by rw [← hwB]; simp [go_sem]
      have x2 : wB.cell? ⟨w.heap.size + 1, 2, none⟩ = some (.int .i64 p.s.v) := by rw [← hwB]; simp [go_sem]
      have x3 : wB.cell? ⟨w.heap.size + 1, 3, none⟩ = some (.int .i64 p.s.c) := by rw [← hwB]; simp [go_sem]
      have x4 : wB.cell? ⟨w.heap.size + 1, 4, none⟩ = some (.int .i64 p.s.d) := by rw [← hwB]; simp [go_sem]
      have x5 : wB.cell? ⟨w.heap.size + 1, 5, none⟩ = some (.int .i64 p.s.rk) := by rw [← hwB]; simp [go_sem]
      have x6 : wB.cell? ⟨w.heap.size + 1, 6, none⟩ = some (.int .i64 p.s.up) := by rw [← hwB]; simp [go_sem]
      have x7 : wB.cell? ⟨w.heap.size + 1, 7, none⟩ = some (.int .i64 p.s.dn) := by rw [← hwB]; simp [go_sem]
      have x8 : wB.cell? ⟨w.heap.size + 1, 8, none⟩ = some (.slice ad p.s.cv.length cp) := by rw [← hwB]; simp [go_sem]
      have x9 : wB.cell? ⟨w.heap.size + 1, 9, none⟩ = some (.int .i64 p.d) := by rw [← hwB]; simp [go_sem]
      have x10 : wB.cell? ⟨w.heap.size + 1, 10, none⟩ = some (.int .i64 p.u) := by rw [← hwB]; simp [go_sem]
      have x11 : wB.cell? ⟨w.heap.size + 1, 11, none⟩ = some (.bool p.b) := by rw [← hwB]; simp [go_sem]
      rw [hwB]
      clear hwB
      rw [HPB.out] at x11
      go_wp2_with fail
      go_ret
      exact ⟨by rw [hv.out] <;> rfl, hb⟩
    · by_cases hvv : L - p.d < p.s.v
      · have hv : Hid (codP L row p = 1) := Lib.hid (by unfold codP; rw [if_pos h7, if_pos (.inr hvv)])
        have HPB := Lib.hid hpb
        clear h7 HH HE hpb
        go_enter Tryz.func44, Tryz.ntmps44
        go_upto_region 1 with (fail)
        obtain ⟨wB, hwB⟩ : ∃ wB, (w.alloc (.cells #[.int .i64 L, .slice ar row.length cr] 91)).alloc (.cells #[.int .i64 p.s.n, .int .i64 p.s.k, .int .i64 p.s.v, .int .i64 p.s.c, .int .i64 p.s.d, .int .i64 p.s.rk, .int .i64 p.s.up, .int .i64 p.s.dn, .slice ad p.s.cv.length cp, .int .i64 p.d, .int .i64 p.u, .bool p.b] 88) = wB := ⟨_, rfl⟩
        have hb : Below w.heap.size w wB := by rw [← hwB]; exact ((Below.refl _ _).alloc (Nat.le_refl _) _).alloc (by simp) _
        have i0 : wB.cell? ⟨w.heap.size, 0, none⟩ = some (.int .i64 L) := by rw [← hwB]; simp [go_sem]
        have i1 : wB.cell? ⟨w.heap.size, 1, none⟩ = some (.slice ar row.length cr) := by rw [← hwB]; simp [go_sem]
        have x0 : wB.cell? ⟨w.heap.size + 1, 0, none⟩ = some (.int .i64 p.s.n) := by rw [← hwB]; simp [go_sem]
        have x1 : wB.cell? ⟨w.heap.size + 1, 1, none⟩ = some (.int .i64 p.s.k) := by rw [← hwB]; simp [go_sem]
        have x2 : wB.cell? ⟨w.heap.size + 1, 2, none⟩ = some (.int .i64 p.s.v) := by rw [← hwB]; simp [go_sem]
        have x3 : wB.cell? ⟨w.heap.size + 1, 3, none⟩ = some (.int .i64 p.s.c) := by rw [← hwB]; simp [go_sem]
        have x4 : wB.cell? ⟨w.heap.size + 1, 4, none⟩ = some (.int .i64 p.s.d) := by rw [← hwB]; simp [go_sem]
        have x5 : wB.cell? ⟨w.heap.size + 1, 5, none⟩ = some (.int .i64 p.s.rk) := by rw [← hwB]; simp [go_sem]
        have x6 : wB.cell? ⟨w.heap.size + 1, 6, none⟩ = some (.int .i64 p.s.up) := by rw [← hwB]; simp [go_sem]
        have x7 : wB.cell? ⟨w.heap.size + 1, 7, none⟩ = some (.int .i64 p.s.dn) := by rw [← hwB]; simp [go_sem]
        have x8 : wB.cell? ⟨w.heap.size + 1, 8, none⟩ = some (.slice ad p.s.cv.length cp) := by rw [← hwB]; simp [go_sem]
        have x9 : wB.cell? ⟨w.heap.size + 1, 9, none⟩ = some (.int .i64 p.d) := by rw [← hwB]; simp [go_sem]
        have x10 : wB.cell? ⟨w.heap.size + 1, 10, none⟩ = some (.int .i64 p.u) := by rw [← hwB]; simp [go_sem]
        have x11 : wB.cell? ⟨w.heap.size + 1, 11, none⟩ = some (.bool p.b) := by rw [← hwB]; simp [go_sem]
        rw [hwB]
        clear hwB
        rw [HPB.out] at x11
        go_wp2_with fail
        go_ret
        exact ⟨by rw [hv.out] <;> rfl, hb⟩
      · have hv : Hid (codP L row p = 0) := Lib.hid (by unfold codP; rw [if_pos h7, if_neg (by rw [hpb]; simp; omega)])
        have HPB := Lib.hid hpb
        clear h7 HH HE hpb
        go_enter Tryz.func44, Tryz.ntmps44
        go_upto_region 1 with (fail)
        obtain ⟨wB, hwB⟩ : ∃ wB, (w.alloc (.cells #[.int .i64 L, .slice ar row.length cr] 91)).alloc (.cells #[.int .i64 p.s.n, .int .i64 p.s.k, .int .i64 p.s.v, .int .i64 p.s.c, .int .i64 p.s.d, .int .i64 p.s.rk, .int .i64 p.s.up, .int .i64 p.s.dn, .slice ad p.s.cv.length cp, .int .i64 p.d, .int .i64 p.u, .bool p.b] 88) = wB := ⟨_, rfl⟩
        have hb : Below w.heap.size w wB := by rw [← hwB]; exact ((Below.refl _ _).alloc (Nat.le_refl _) _).alloc (by simp) _
        have i0 : wB.cell? ⟨w.heap.size, 0, none⟩ = some (.int .i64 L) := by rw [← hwB]; simp [go_sem]
        have i1 : wB.cell? ⟨w.heap.size, 1, none⟩ = some (.slice ar row.length cr) := by rw [← hwB]; simp [go_sem]
        have x0 : wB.cell? ⟨w.heap.size + 1, 0, none⟩ = some (.int .i64 p.s.n) := by rw [← hwB]; simp [go_sem]
        have x1 : wB.cell? ⟨w.heap.size + 1, 1, none⟩ = some (.int .i64 p.s.k) := by rw [← hwB]; simp [go_sem]
        have x2 : wB.cell? ⟨w.heap.size + 1, 2, none⟩ = some (.int .i64 p.s.v) := by rw [← hwB]; simp [go_sem]
        have x3 : wB.cell? ⟨w.heap.size + 1, 3, none⟩ = some (.int .i64 p.s.c) := by rw [← hwB]; simp [go_sem]
        have x4 : wB.cell? ⟨w.heap.size + 1, 4, none⟩ = some (.int .i64 p.s.d) := by rw [← hwB]; simp [go_sem]
        have x5 : wB.cell? ⟨w.heap.size + 1, 5, none⟩ = some (.int .i64 p.s.rk) := by rw [← hwB]; simp [go_sem]
        have x6 : wB.cell? ⟨w.heap.size + 1, 6, none⟩ = some (.int .i64 p.s.up) := by rw [← hwB]; simp [go_sem]
        have x7 : wB.cell? ⟨w.heap.size + 1, 7, none⟩ = some (.int .i64 p.s.dn) := by rw [← hwB]; simp [go_sem]
        have x8 : wB.cell? ⟨w.heap.size + 1, 8, none⟩ = some (.slice ad p.s.cv.length cp) := by rw [← hwB]; simp [go_sem]
        have x9 : wB.cell? ⟨w.heap.size + 1, 9, none⟩ = some (.int .i64 p.d) := by rw [← hwB]; simp [go_sem]
        have x10 : wB.cell? ⟨w.heap.size + 1, 10, none⟩ = some (.int .i64 p.u) := by rw [← hwB]; simp [go_sem]
        have x11 : wB.cell? ⟨w.heap.size + 1, 11, none⟩ = some (.bool p.b) := by rw [← hwB]; simp [go_sem]
        rw [hwB]
        clear hwB
        rw [HPB.out] at x11
        go_wp2_with fail
        go_ret
        exact ⟨by rw [hv.out] <;> rfl, hb⟩
  by_cases h6 : p.s.k = 6
  · have k7 : (p.s.k == 7) = false := beq_false_of_ne h7
    have k6 : (p.s.k == 6) = true := by rw [h6]; rfl
    by_cases hdl : p.d = L
    · have dd : (p.d == L) = true := by rw [hdl]; simp
      have hv : Hid (codP L row p = 2) := Lib.hid (by unfold codP; rw [if_neg h7, if_pos h6, if_pos (.inl hdl)])
      clear h7 h6 hdl HE HH
      go_enter Tryz.func44, Tryz.ntmps44
      go_upto_region 1 with (fail)
      obtain ⟨wB, hwB⟩ : ∃ wB, (w.alloc (.cells #[.int .i64 L, .slice ar row.length cr] 91)).alloc (.cells #[.int .i64 p.s.n, .int .i64 p.s.k, .int .i64 p.s.v, .int .i64 p.s.c, .int .i64 p.s.d, .int .i64 p.s.rk, .int .i64 p.s.up, .int .i64 p.s.dn, .slice ad p.s.cv.length cp, .int .i64 p.d, .int .i64 p.u, .bool p.b] 88) = wB := ⟨_, rfl⟩
      have hb : Below w.heap.size w wB := by rw [← hwB]; exact ((Below.refl _ _).alloc (Nat.le_refl _) _).alloc (by simp) _
      have i0 : wB.cell? ⟨w.heap.size, 0, none⟩ = some (.int .i64 L) := by rw [← hwB]; simp [go_sem]
      have i1 : wB.cell? ⟨w.heap.size, 1, none⟩ = some (.slice ar row.length cr) := by rw [← hwB]; simp [go_sem]
      have x0 : wB.cell? ⟨w.heap.size + 1, 0, none⟩ = some (.int .i64 p.s.n) := by rw [← hwB]; simp [go_sem]
      have x1 : wB.cell? ⟨w.heap.size + 1, 1, none⟩ = some (.int .i64 p.s.k) := by rw [← hwB]; simp [go_sem]
      have x2 : wB.cell? ⟨w.heap.size + 1, 2, none⟩ = some (.int .i64 p.s.v) := by rw [← hwB]; simp [go_sem]
      have x3 : wB.cell? ⟨w.heap.size + 1, 3, none⟩ = some (.int .i64 p.s.c) := by rw [← hwB]; simp [go_sem]
      have x4 : wB.cell? ⟨w.heap.size + 1, 4, none⟩ = some (.int .i64 p.s.d) := by rw [← hwB]; simp [go_sem]
      have x5 : wB.cell? ⟨w.heap.size + 1, 5, none⟩ = some (.int .i64 p.s.rk) := by rw [← hwB]; simp [go_sem]
      have x6 : wB.cell? ⟨w.heap.size + 1, 6, none⟩ = some (.int .i64 p.s.up) := by rw [← hwB]; simp [go_sem]
      have x7 : wB.cell? ⟨w.heap.size + 1, 7, none⟩ = some (.int .i64 p.s.dn) := by rw [← hwB]; simp [go_sem]
      have x8 : wB.cell? ⟨w.heap.size + 1, 8, none⟩ = some (.slice ad p.s.cv.length cp) := by rw [← hwB]; simp [go_sem]
      have x9 : wB.cell? ⟨w.heap.size + 1, 9, none⟩ = some (.int .i64 p.d) := by rw [← hwB]; simp [go_sem]
      have x10 : wB.cell? ⟨w.heap.size + 1, 10, none⟩ = some (.int .i64 p.u) := by rw [← hwB]; simp [go_sem]
      have x11 : wB.cell? ⟨w.heap.size + 1, 11, none⟩ = some (.bool p.b) := by rw [← hwB]; simp [go_sem]
      rw [hwB]
      clear hwB
      have hzi := block_lt i0
      have hzx := block_lt x0
      go_wp2_with fail
      refine wp_region_held_drew (S := fun w' => Below wB.heap.size wB w') (by kernel_rfl) ((Below.refl _ _).drew) (fun hHeld => ?_)
      refine takeU (i := 0) (some 26) (.pointer (some ⟨w.heap.size + 1, 9, none⟩)) (by kernel_rfl) (by kernel_rfl) (by kernel_rfl) (by kernel_rfl) (by kernel_rfl) (fun _ => by kernel_rfl) (fun _ _ _ h => h) hHeld ?_
      refine wpAnyH_take (i := 1) (oi := { dst := some 27, op := Go.Op.load 3 (Go.Operand.tmp 26), type := 3, pos := "fault.go:52", after := #[{ on := 0, ground := Go.Ground.data }], guard := none }) (v := .int .i64 p.d) rfl (by kernel_rfl) (by kernel_rfl) (by kernel_rfl) (fun _ _ _ h => h) (.inl ⟨by kernel_rfl, fun w9 h9 => by
        clear hHeld
        have d0 := (h9.cell (p := ⟨w.heap.size + 1, 9, none⟩) hzx).trans x9
        clear h9
        go_simp⟩) hHeld ?_
      refine takeU (i := 2) (some 28) (.pointer (some ⟨w.heap.size, 0, none⟩)) (by kernel_rfl) (by kernel_rfl) (by kernel_rfl) (by kernel_rfl) (by kernel_rfl) (fun _ => by kernel_rfl) (fun _ _ _ h => h) hHeld ?_
      refine wpAnyH_take (i := 3) (oi := { dst := some 29, op := Go.Op.load 3 (Go.Operand.tmp 28), type := 3, pos := "fault.go:52", after := #[{ on := 2, ground := Go.Ground.data }], guard := none }) (v := .int .i64 L) rfl (by kernel_rfl) (by kernel_rfl) (by kernel_rfl) (fun _ _ _ h => h) (.inl ⟨by kernel_rfl, fun w9 h9 => by
        clear hHeld
        have d0 := (h9.cell (p := ⟨w.heap.size, 0, none⟩) hzi).trans i0
        clear h9
        go_simp⟩) hHeld ?_
      refine wpAnyH_take (i := 4) (oi := { dst := some 30, op := Go.Op.binOp Go.BinOp.eql 3 (Go.Operand.tmp 27) (Go.Operand.tmp 29) 3, type := 4, pos := "fault.go:52", after := #[{ on := 1, ground := Go.Ground.data }, { on := 3, ground := Go.Ground.data }], guard := none }) (v := .bool true) rfl (by kernel_rfl) (by kernel_rfl) (by kernel_rfl) (fun _ _ _ h => h) (.inl ⟨by kernel_rfl, fun w9 h9 => by
        clear hHeld h9
        go_simp⟩) hHeld ?_
      refine takeU (i := 5) (some 31) (.bool true) (by kernel_rfl) (by kernel_rfl) (by kernel_rfl) (by kernel_rfl) (by kernel_rfl) (fun _ => by kernel_rfl) (fun _ _ _ h => h) hHeld ?_
      refine skipU (i := 6) (some 32) (by kernel_rfl) (by kernel_rfl) (by kernel_rfl) (by kernel_rfl) (by kernel_rfl) (fun _ _ _ h => h) hHeld ?_
      refine skipU (i := 7) (some 33) (by kernel_rfl) (by kernel_rfl) (by kernel_rfl) (by kernel_rfl) (by kernel_rfl) (fun _ _ _ h => h) hHeld ?_
      refine skipU (i := 8) (some 34) (by kernel_rfl) (by kernel_rfl) (by kernel_rfl) (by kernel_rfl) (by kernel_rfl) (fun _ _ _ h => h) hHeld ?_
      refine skipU (i := 9) (some 35) (by kernel_rfl) (by kernel_rfl) (by kernel_rfl) (by kernel_rfl) (by kernel_rfl) (fun _ _ _ h => h) hHeld ?_
      refine skipU (i := 10) (some 36) (by kernel_rfl) (by kernel_rfl) (by kernel_rfl) (by kernel_rfl) (by kernel_rfl) (fun _ _ _ h => h) hHeld ?_
      refine skipU (i := 11) (some 37) (by kernel_rfl) (by kernel_rfl) (by kernel_rfl) (by kernel_rfl) (by kernel_rfl) (fun _ _ _ h => h) hHeld ?_
      refine skipU (i := 12) (some 38) (by kernel_rfl) (by kernel_rfl) (by kernel_rfl) (by kernel_rfl) (by kernel_rfl) (fun _ _ _ h => h) hHeld ?_
      refine skipU (i := 13) (some 39) (by kernel_rfl) (by kernel_rfl) (by kernel_rfl) (by kernel_rfl) (by kernel_rfl) (fun _ _ _ h => h) hHeld ?_
      refine skipU (i := 14) (some 40) (by kernel_rfl) (by kernel_rfl) (by kernel_rfl) (by kernel_rfl) (by kernel_rfl) (fun _ _ _ h => h) hHeld ?_
      refine takeU (i := 15) (some 41) (.bool true) (by kernel_rfl) (by kernel_rfl) (by kernel_rfl) (by kernel_rfl) (by kernel_rfl) (fun _ => by kernel_rfl) (fun _ _ _ h => h) hHeld ?_
      refine wpAnyH_done (by kernel_rfl) ?_ _
      try simp only [Act.put, List.setIfInBounds_toArray, List.set_cons_zero, List.set_cons_succ]
      go_wp2_with fail
      go_ret
      exact ⟨by rw [hv.out] <;> rfl, hb.trans (hHeld.mono hb.size)⟩
    · have dd : (p.d == L) = false := beq_false_of_ne hdl
      by_cases hvv : V = p.s.v
      · have d2 : (V != p.s.v) = false := by rw [hvv]; simp
        have hv : Hid (codP L row p = 0) := Lib.hid (by unfold codP; rw [if_neg h7, if_pos h6, if_neg (by rw [HVe.out]; simp [hdl, hvv])])
        clear h7 h6 hdl HE hvv
        go_enter Tryz.func44, Tryz.ntmps44
        go_upto_region 1 with (fail)
        obtain ⟨wB, hwB⟩ : ∃ wB, (w.alloc (.cells #[.int .i64 L, .slice ar row.length cr] 91)).alloc (.cells #[.int .i64 p.s.n, .int .i64 p.s.k, .int .i64 p.s.v, .int .i64 p.s.c, .int .i64 p.s.d, .int .i64 p.s.rk, .int .i64 p.s.up, .int .i64 p.s.dn, .slice ad p.s.cv.length cp, .int .i64 p.d, .int .i64 p.u, .bool p.b] 88) = wB := ⟨_, rfl⟩
        have hb : Below w.heap.size w wB := by rw [← hwB]; exact ((Below.refl _ _).alloc (Nat.le_refl _) _).alloc (by simp) _
        have i0 : wB.cell? ⟨w.heap.size, 0, none⟩ = some (.int .i64 L) := by rw [← hwB]; simp [go_sem]
        have i1 : wB.cell? ⟨w.heap.size, 1, none⟩ = some (.slice ar row.length cr) := by rw [← hwB]; simp [go_sem]
        have x0 : wB.cell? ⟨w.heap.size + 1, 0, none⟩ = some (.int .i64 p.s.n) := by rw [← hwB]; simp [go_sem]
        have x1 : wB.cell? ⟨w.heap.size + 1, 1, none⟩ = some (.int .i64 p.s.k) := by rw [← hwB]; simp [go_sem]
        have x2 : wB.cell? ⟨w.heap.size + 1, 2, none⟩ = some (.int .i64 p.s.v) := by rw [← hwB]; simp [go_sem]
        have x3 : wB.cell? ⟨w.heap.size + 1, 3, none⟩ = some (.int .i64 p.s.c) := by rw [← hwB]; simp [go_sem]
        have x4 : wB.cell? ⟨w.heap.size + 1, 4, none⟩ = some (.int .i64 p.s.d) := by rw [← hwB]; simp [go_sem]
        have x5 : wB.cell? ⟨w.heap.size + 1, 5, none⟩ = some (.int .i64 p.s.rk) := by rw [← hwB]; simp [go_sem]
        have x6 : wB.cell? ⟨w.heap.size + 1, 6, none⟩ = some (.int .i64 p.s.up) := by rw [← hwB]; simp [go_sem]
        have x7 : wB.cell? ⟨w.heap.size + 1, 7, none⟩ = some (.int .i64 p.s.dn) := by rw [← hwB]; simp [go_sem]
        have x8 : wB.cell? ⟨w.heap.size + 1, 8, none⟩ = some (.slice ad p.s.cv.length cp) := by rw [← hwB]; simp [go_sem]
        have x9 : wB.cell? ⟨w.heap.size + 1, 9, none⟩ = some (.int .i64 p.d) := by rw [← hwB]; simp [go_sem]
        have x10 : wB.cell? ⟨w.heap.size + 1, 10, none⟩ = some (.int .i64 p.u) := by rw [← hwB]; simp [go_sem]
        have x11 : wB.cell? ⟨w.heap.size + 1, 11, none⟩ = some (.bool p.b) := by rw [← hwB]; simp [go_sem]
        rw [hwB]
        clear hwB
        have hzi := block_lt i0
        have hzx := block_lt x0
        go_wp2_with fail
        refine wp_region_held_drew (S := fun w' => Below wB.heap.size wB w') (by kernel_rfl) ((Below.refl _ _).drew) (fun hHeld => ?_)
        refine takeU (i := 0) (some 26) (.pointer (some ⟨w.heap.size + 1, 9, none⟩)) (by kernel_rfl) (by kernel_rfl) (by kernel_rfl) (by kernel_rfl) (by kernel_rfl) (fun _ => by kernel_rfl) (fun _ _ _ h => h) hHeld ?_
        refine wpAnyH_take (i := 1) (oi := { dst := some 27, op := Go.Op.load 3 (Go.Operand.tmp 26), type := 3, pos := "fault.go:52", after := #[{ on := 0, ground := Go.Ground.data }], guard := none }) (v := .int .i64 p.d) rfl (by kernel_rfl) (by kernel_rfl) (by kernel_rfl) (fun _ _ _ h => h) (.inl ⟨by kernel_rfl, fun w9 h9 => by
          clear hHeld
          have d0 := (h9.cell (p := ⟨w.heap.size + 1, 9, none⟩) hzx).trans x9
          clear h9
          go_simp⟩) hHeld ?_
        refine takeU (i := 2) (some 28) (.pointer (some ⟨w.heap.size, 0, none⟩)) (by kernel_rfl) (by kernel_rfl) (by kernel_rfl) (by kernel_rfl) (by kernel_rfl) (fun _ => by kernel_rfl) (fun _ _ _ h => h) hHeld ?_
        refine wpAnyH_take (i := 3) (oi := { dst := some 29, op := Go.Op.load 3 (Go.Operand.tmp 28), type := 3, pos := "fault.go:52", after := #[{ on := 2, ground := Go.Ground.data }], guard := none }) (v := .int .i64 L) rfl (by kernel_rfl) (by kernel_rfl) (by kernel_rfl) (fun _ _ _ h => h) (.inl ⟨by kernel_rfl, fun w9 h9 => by
          clear hHeld
          have d0 := (h9.cell (p := ⟨w.heap.size, 0, none⟩) hzi).trans i0
          clear h9
          go_simp⟩) hHeld ?_
        refine wpAnyH_take (i := 4) (oi := { dst := some 30, op := Go.Op.binOp Go.BinOp.eql 3 (Go.Operand.tmp 27) (Go.Operand.tmp 29) 3, type := 4, pos := "fault.go:52", after := #[{ on := 1, ground := Go.Ground.data }, { on := 3, ground := Go.Ground.data }], guard := none }) (v := .bool false) rfl (by kernel_rfl) (by kernel_rfl) (by kernel_rfl) (fun _ _ _ h => h) (.inl ⟨by kernel_rfl, fun w9 h9 => by
          clear hHeld h9
          go_simp⟩) hHeld ?_
        refine takeU (i := 5) (some 31) (.bool false) (by kernel_rfl) (by kernel_rfl) (by kernel_rfl) (by kernel_rfl) (by kernel_rfl) (fun _ => by kernel_rfl) (fun _ _ _ h => h) hHeld ?_
        refine takeU (i := 6) (some 32) (.pointer (some ⟨w.heap.size, 1, none⟩)) (by kernel_rfl) (by kernel_rfl) (by kernel_rfl) (by kernel_rfl) (by kernel_rfl) (fun _ => by kernel_rfl) (fun _ _ _ h => h) hHeld ?_
        refine wpAnyH_take (i := 7) (oi := { dst := some 33, op := Go.Op.load 68 (Go.Operand.tmp 32), type := 68, pos := "fault.go:52", after := #[{ on := 6, ground := Go.Ground.data }, { on := 5, ground := Go.Ground.guard }], guard := some (5, false) }) (v := .slice ar row.length cr) rfl (by kernel_rfl) (by kernel_rfl) (by kernel_rfl) (fun _ _ _ h => h) (.inl ⟨by kernel_rfl, fun w9 h9 => by
          clear hHeld
          have d0 := (h9.cell (p := ⟨w.heap.size, 1, none⟩) hzi).trans i1
          clear h9
          go_simp⟩) hHeld ?_
        refine takeU (i := 8) (some 34) (.pointer (some ⟨w.heap.size + 1, 9, none⟩)) (by kernel_rfl) (by kernel_rfl) (by kernel_rfl) (by kernel_rfl) (by kernel_rfl) (fun _ => by kernel_rfl) (fun _ _ _ h => h) hHeld ?_
        refine wpAnyH_take (i := 9) (oi := { dst := some 35, op := Go.Op.load 3 (Go.Operand.tmp 34), type := 3, pos := "fault.go:52", after := #[{ on := 8, ground := Go.Ground.data }, { on := 5, ground := Go.Ground.guard }], guard := some (5, false) }) (v := .int .i64 p.d) rfl (by kernel_rfl) (by kernel_rfl) (by kernel_rfl) (fun _ _ _ h => h) (.inl ⟨by kernel_rfl, fun w9 h9 => by
          clear hHeld
          have d0 := (h9.cell (p := ⟨w.heap.size + 1, 9, none⟩) hzx).trans x9
          clear h9
          go_simp⟩) hHeld ?_
        refine takeU (i := 11) (some 37) (.pointer (some ⟨w.heap.size + 1, 0, none⟩)) (by kernel_rfl) (by kernel_rfl) (by kernel_rfl) (by kernel_rfl) (by kernel_rfl) (fun _ => by kernel_rfl) (fun _ _ _ h => h) hHeld ?_
        refine takeU (i := 12) (some 38) (.pointer (some ⟨w.heap.size + 1, 2, none⟩)) (by kernel_rfl) (by kernel_rfl) (by kernel_rfl) (by kernel_rfl) (by kernel_rfl) (fun _ => by kernel_rfl) (fun _ _ _ h => h) hHeld ?_
        refine wpAnyH_take (i := 13) (oi := { dst := some 39, op := Go.Op.load 3 (Go.Operand.tmp 38), type := 3, pos := "fault.go:52", after := #[{ on := 12, ground := Go.Ground.data }, { on := 5, ground := Go.Ground.guard }], guard := some (5, false) }) (v := .int .i64 p.s.v) rfl (by kernel_rfl) (by kernel_rfl) (by kernel_rfl) (fun _ _ _ h => h) (.inl ⟨by kernel_rfl, fun w9 h9 => by
          clear hHeld
          have d0 := (h9.cell (p := ⟨w.heap.size + 1, 2, none⟩) hzx).trans x2
          clear h9
          go_simp⟩) hHeld ?_
        try simp only [Act.put, List.setIfInBounds_toArray, List.set_cons_zero, List.set_cons_succ]
        refine wpAnyH_ready (rs := [10]) (by kernel_rfl) (by simp) ?_
        refine AllReadyH.cons (o := { dst := some 36, op := Go.Op.call { callee := Go.Callee.value (Go.Operand.func 33), args := #[Go.Operand.tmp 33, Go.Operand.const (Go.Value.int Go.IntKind.i64 1), Go.Operand.tmp 35], argTypes := #[68, 3, 3] }, type := 3, pos := "fault.go:52", after := #[{ on := 7, ground := Go.Ground.data }, { on := 9, ground := Go.Ground.data }, { on := 5, ground := Go.Ground.chain }, { on := 5, ground := Go.Ground.guard }], guard := some (5, false) }) rfl (fun K hK => ?_) AllReadyH.nil
        go_simp
        go_at_call 33
        refine (HH.out _ (hb.trans (hHeld.mono hb.size))).mono ?_
        rintro e w109 ⟨rfl, hb109⟩
        refine hK.out _ _ (hHeld.trans (hb109.mono hHeld.size)) (fun hHeld => ?_)
        clear hK K hb109
        try simp only [Act.put, List.setIfInBounds_toArray, List.set_cons_zero, List.set_cons_succ]
        refine wpAnyH_take (i := 14) (oi := { dst := some 40, op := Go.Op.binOp Go.BinOp.neq 3 (Go.Operand.tmp 36) (Go.Operand.tmp 39) 3, type := 4, pos := "fault.go:52", after := #[{ on := 10, ground := Go.Ground.data }, { on := 13, ground := Go.Ground.data }, { on := 5, ground := Go.Ground.guard }], guard := some (5, false) }) (v := .bool false) rfl (by kernel_rfl) (by kernel_rfl) (by kernel_rfl) (fun _ _ _ h => h) (.inl ⟨by kernel_rfl, fun w9 h9 => by
          clear hHeld h9
          go_simp⟩) hHeld ?_
        refine takeU (i := 15) (some 41) (.bool false) (by kernel_rfl) (by kernel_rfl) (by kernel_rfl) (by kernel_rfl) (by kernel_rfl) (fun _ => by kernel_rfl) (fun _ _ _ h => h) hHeld ?_
        refine wpAnyH_done (by kernel_rfl) ?_ _
        try simp only [Act.put, List.setIfInBounds_toArray, List.set_cons_zero, List.set_cons_succ]
        go_wp2_with fail
        go_ret
        exact ⟨by rw [hv.out] <;> rfl, hb.trans (hHeld.mono hb.size)⟩
      · have d2 : (V != p.s.v) = true := by simp [hvv]
        have hv : Hid (codP L row p = 2) := Lib.hid (by unfold codP; rw [if_neg h7, if_pos h6, if_pos (.inr (by rw [HVe.out]; exact hvv))])
        clear h7 h6 hdl HE hvv
        go_enter Tryz.func44, Tryz.ntmps44
        go_upto_region 1 with (fail)
        obtain ⟨wB, hwB⟩ : ∃ wB, (w.alloc (.cells #[.int .i64 L, .slice ar row.length cr] 91)).alloc (.cells #[.int .i64 p.s.n, .int .i64 p.s.k, .int .i64 p.s.v, .int .i64 p.s.c, .int .i64 p.s.d, .int .i64 p.s.rk, .int .i64 p.s.up, .int .i64 p.s.dn, .slice ad p.s.cv.length cp, .int .i64 p.d, .int .i64 p.u, .bool p.b] 88) = wB := ⟨_, rfl⟩
        have hb : Below w.heap.size w wB := by rw [← hwB]; exact ((Below.refl _ _).alloc (Nat.le_refl _) _).alloc (by simp) _
        have i0 : wB.cell? ⟨w.heap.size, 0, none⟩ = some (.int .i64 L) := by rw [← hwB]; simp [go_sem]
        have i1 : wB.cell? ⟨w.heap.size, 1, none⟩ = some (.slice ar row.length cr) := by rw [← hwB]; simp [go_sem]
        have x0 : wB.cell? ⟨w.heap.size + 1, 0, none⟩ = some (.int .i64 p.s.n) := by rw [← hwB]; simp [go_sem]
        have x1 : wB.cell? ⟨w.heap.size + 1, 1, none⟩ = some (.int .i64 p.s.k) := by rw [← hwB]; simp [go_sem]
        have x2 : wB.cell? ⟨w.heap.size + 1, 2, none⟩ = some (.int .i64 p.s.v) := by rw [← hwB]; simp [go_sem]
        have x3 : wB.cell? ⟨w.heap.size + 1, 3, none⟩ = some (.int .i64 p.s.c) := by rw [← hwB]; simp [go_sem]
        have x4 : wB.cell? ⟨w.heap.size + 1, 4, none⟩ = some (.int .i64 p.s.d) := by rw [← hwB]; simp [go_sem]
        have x5 : wB.cell? ⟨w.heap.size + 1, 5, none⟩ = some (.int .i64 p.s.rk) := by rw [← hwB]; simp [go_sem]
        have x6 : wB.cell? ⟨w.heap.size + 1, 6, none⟩ = some (.int .i64 p.s.up) := by rw [← hwB]; simp [go_sem]
        have x7 : wB.cell? ⟨w.heap.size + 1, 7, none⟩ = some (.int .i64 p.s.dn) := by rw [← hwB]; simp [go_sem]
        have x8 : wB.cell? ⟨w.heap.size + 1, 8, none⟩ = some (.slice ad p.s.cv.length cp) := by rw [← hwB]; simp [go_sem]
        have x9 : wB.cell? ⟨w.heap.size + 1, 9, none⟩ = some (.int .i64 p.d) := by rw [← hwB]; simp [go_sem]
        have x10 : wB.cell? ⟨w.heap.size + 1, 10, none⟩ = some (.int .i64 p.u) := by rw [← hwB]; simp [go_sem]
        have x11 : wB.cell? ⟨w.heap.size + 1, 11, none⟩ = some (.bool p.b) := by rw [← hwB]; simp [go_sem]
        rw [hwB]
        clear hwB
        have hzi := block_lt i0
        have hzx := block_lt x0
        go_wp2_with fail
        refine wp_region_held_drew (S := fun w' => Below wB.heap.size wB w') (by kernel_rfl) ((Below.refl _ _).drew) (fun hHeld => ?_)
        refine takeU (i := 0) (some 26) (.pointer (some ⟨w.heap.size + 1, 9, none⟩)) (by kernel_rfl) (by kernel_rfl) (by kernel_rfl) (by kernel_rfl) (by kernel_rfl) (fun _ => by kernel_rfl) (fun _ _ _ h => h) hHeld ?_
        refine wpAnyH_take (i := 1) (oi := { dst := some 27, op := Go.Op.load 3 (Go.Operand.tmp 26), type := 3, pos := "fault.go:52", after := #[{ on := 0, ground := Go.Ground.data }], guard := none }) (v := .int .i64 p.d) rfl (by kernel_rfl) (by kernel_rfl) (by kernel_rfl) (fun _ _ _ h => h) (.inl ⟨by kernel_rfl, fun w9 h9 => by
          clear hHeld
          have d0 := (h9.cell (p := ⟨w.heap.size + 1, 9, none⟩) hzx).trans x9
          clear h9
          go_simp⟩) hHeld ?_
        refine takeU (i := 2) (some 28) (.pointer (some ⟨w.heap.size, 0, none⟩)) (by kernel_rfl) (by kernel_rfl) (by kernel_rfl) (by kernel_rfl) (by kernel_rfl) (fun _ => by kernel_rfl) (fun _ _ _ h => h) hHeld ?_
        refine wpAnyH_take (i := 3) (oi := { dst := some 29, op := Go.Op.load 3 (Go.Operand.tmp 28), type := 3, pos := "fault.go:52", after := #[{ on := 2, ground := Go.Ground.data }], guard := none }) (v := .int .i64 L) rfl (by kernel_rfl) (by kernel_rfl) (by kernel_rfl) (fun _ _ _ h => h) (.inl ⟨by kernel_rfl, fun w9 h9 => by
          clear hHeld
          have d0 := (h9.cell (p := ⟨w.heap.size, 0, none⟩) hzi).trans i0
          clear h9
          go_simp⟩) hHeld ?_
        refine wpAnyH_take (i := 4) (oi := { dst := some 30, op := Go.Op.binOp Go.BinOp.eql 3 (Go.Operand.tmp 27) (Go.Operand.tmp 29) 3, type := 4, pos := "fault.go:52", after := #[{ on := 1, ground := Go.Ground.data }, { on := 3, ground := Go.Ground.data }], guard := none }) (v := .bool false) rfl (by kernel_rfl) (by kernel_rfl) (by kernel_rfl) (fun _ _ _ h => h) (.inl ⟨by kernel_rfl, fun w9 h9 => by
          clear hHeld h9
          go_simp⟩) hHeld ?_
        refine takeU (i := 5) (some 31) (.bool false) (by kernel_rfl) (by kernel_rfl) (by kernel_rfl) (by kernel_rfl) (by kernel_rfl) (fun _ => by kernel_rfl) (fun _ _ _ h => h) hHeld ?_
        refine takeU (i := 6) (some 32) (.pointer (some ⟨w.heap.size, 1, none⟩)) (by kernel_rfl) (by kernel_rfl) (by kernel_rfl) (by kernel_rfl) (by kernel_rfl) (fun _ => by kernel_rfl) (fun _ _ _ h => h) hHeld ?_
        refine wpAnyH_take (i := 7) (oi := { dst := some 33, op := Go.Op.load 68 (Go.Operand.tmp 32), type := 68, pos := "fault.go:52", after := #[{ on := 6, ground := Go.Ground.data }, { on := 5, ground := Go.Ground.guard }], guard := some (5, false) }) (v := .slice ar row.length cr) rfl (by kernel_rfl) (by kernel_rfl) (by kernel_rfl) (fun _ _ _ h => h) (.inl ⟨by kernel_rfl, fun w9 h9 => by
          clear hHeld
          have d0 := (h9.cell (p := ⟨w.heap.size, 1, none⟩) hzi).trans i1
          clear h9
          go_simp⟩) hHeld ?_
        refine takeU (i := 8) (some 34) (.pointer (some ⟨w.heap.size + 1, 9, none⟩)) (by kernel_rfl) (by kernel_rfl) (by kernel_rfl) (by kernel_rfl) (by kernel_rfl) (fun _ => by kernel_rfl) (fun _ _ _ h => h) hHeld ?_
        refine wpAnyH_take (i := 9) (oi := { dst := some 35, op := Go.Op.load 3 (Go.Operand.tmp 34), type := 3, pos := "fault.go:52", after := #[{ on := 8, ground := Go.Ground.data }, { on := 5, ground := Go.Ground.guard }], guard := some (5, false) }) (v := .int .i64 p.d) rfl (by kernel_rfl) (by kernel_rfl) (by kernel_rfl) (fun _ _ _ h => h) (.inl ⟨by kernel_rfl, fun w9 h9 => by
          clear hHeld
          have d0 := (h9.cell (p := ⟨w.heap.size + 1, 9, none⟩) hzx).trans x9
          clear h9
          go_simp⟩) hHeld ?_
        refine takeU (i := 11) (some 37) (.pointer (some ⟨w.heap.size + 1, 0, none⟩)) (by kernel_rfl) (by kernel_rfl) (by kernel_rfl) (by kernel_rfl) (by kernel_rfl) (fun _ => by kernel_rfl) (fun _ _ _ h => h) hHeld ?_
        refine takeU (i := 12) (some 38) (.pointer (some ⟨w.heap.size + 1, 2, none⟩)) (by kernel_rfl) (by kernel_rfl) (by kernel_rfl) (by kernel_rfl) (by kernel_rfl) (fun _ => by kernel_rfl) (fun _ _ _ h => h) hHeld ?_
        refine wpAnyH_take (i := 13) (oi := { dst := some 39, op := Go.Op.load 3 (Go.Operand.tmp 38), type := 3, pos := "fault.go:52", after := #[{ on := 12, ground := Go.Ground.data }, { on := 5, ground := Go.Ground.guard }], guard := some (5, false) }) (v := .int .i64 p.s.v) rfl (by kernel_rfl) (by kernel_rfl) (by kernel_rfl) (fun _ _ _ h => h) (.inl ⟨by kernel_rfl, fun w9 h9 => by
          clear hHeld
          have d0 := (h9.cell (p := ⟨w.heap.size + 1, 2, none⟩) hzx).trans x2
          clear h9
          go_simp⟩) hHeld ?_
        try simp only [Act.put, List.setIfInBounds_toArray, List.set_cons_zero, List.set_cons_succ]
        refine wpAnyH_ready (rs := [10]) (by kernel_rfl) (by simp) ?_
        refine AllReadyH.cons (o := { dst := some 36, op := Go.Op.call { callee := Go.Callee.value (Go.Operand.func 33), args := #[Go.Operand.tmp 33, Go.Operand.const (Go.Value.int Go.IntKind.i64 1), Go.Operand.tmp 35], argTypes := #[68, 3, 3] }, type := 3, pos := "fault.go:52", after := #[{ on := 7, ground := Go.Ground.data }, { on := 9, ground := Go.Ground.data }, { on := 5, ground := Go.Ground.chain }, { on := 5, ground := Go.Ground.guard }], guard := some (5, false) }) rfl (fun K hK => ?_) AllReadyH.nil
        go_simp
        go_at_call 33
        refine (HH.out _ (hb.trans (hHeld.mono hb.size))).mono ?_
        rintro e w109 ⟨rfl, hb109⟩
        refine hK.out _ _ (hHeld.trans (hb109.mono hHeld.size)) (fun hHeld => ?_)
        clear hK K hb109
        try simp only [Act.put, List.setIfInBounds_toArray, List.set_cons_zero, List.set_cons_succ]
        refine wpAnyH_take (i := 14) (oi := { dst := some 40, op := Go.Op.binOp Go.BinOp.neq 3 (Go.Operand.tmp 36) (Go.Operand.tmp 39) 3, type := 4, pos := "fault.go:52", after := #[{ on := 10, ground := Go.Ground.data }, { on := 13, ground := Go.Ground.data }, { on := 5, ground := Go.Ground.guard }], guard := some (5, false) }) (v := .bool true) rfl (by kernel_rfl) (by kernel_rfl) (by kernel_rfl) (fun _ _ _ h => h) (.inl ⟨by kernel_rfl, fun w9 h9 => by
          clear hHeld h9
          go_simp⟩) hHeld ?_
        refine takeU (i := 15) (some 41) (.bool true) (by kernel_rfl) (by kernel_rfl) (by kernel_rfl) (by kernel_rfl) (by kernel_rfl) (fun _ => by kernel_rfl) (fun _ _ _ h => h) hHeld ?_
        refine wpAnyH_done (by kernel_rfl) ?_ _
        try simp only [Act.put, List.setIfInBounds_toArray, List.set_cons_zero, List.set_cons_succ]
        go_wp2_with fail
        go_ret
        exact ⟨by rw [hv.out] <;> rfl, hb.trans (hHeld.mono hb.size)⟩
  by_cases h2 : p.s.k = 2
  · cases eb with
    | true =>
      have hv : Hid (codP L row p = 0) := Lib.hid (by unfold codP; rw [if_neg h7, if_neg h6, if_pos (.inl h2), HEe.out, if_pos rfl])
      have k7 : (p.s.k == 7) = false := beq_false_of_ne h7
      have k6 : (p.s.k == 6) = false := beq_false_of_ne h6
      have k2 : (p.s.k == 2) = true := by rw [h2]; rfl
      clear h7 h6 h2 HH
      go_enter Tryz.func44, Tryz.ntmps44
      go_upto_region 1 with (fail)
      obtain ⟨wB, hwB⟩ : ∃ wB, (w.alloc (.cells #[.int .i64 L, .slice ar row.length cr] 91)).alloc (.cells #[.int .i64 p.s.n, .int .i64 p.s.k, .int .i64 p.s.v, .int .i64 p.s.c, .int .i64 p.s.d, .int .i64 p.s.rk, .int .i64 p.s.up, .int .i64 p.s.dn, .slice ad p.s.cv.length cp, .int .i64 p.d, .int .i64 p.u, .bool p.b] 88) = wB := ⟨_, rfl⟩
      have hb : Below w.heap.size w wB := by rw [← hwB]; exact ((Below.refl _ _).alloc (Nat.le_refl _) _).alloc (by simp) _
      have i0 : wB.cell? ⟨w.heap.size, 0, none⟩ = some (.int .i64 L) := by rw [← hwB]; simp [go_sem]
      have i1 : wB.cell? ⟨w.heap.size, 1, none⟩ = some (.slice ar row.length cr) := by rw [← hwB]; simp [go_sem]
      have x0 : wB.cell? ⟨w.heap.size + 1, 0, none⟩ = some (.int .i64 p.s.n) := by rw [← hwB]; simp [go_sem]
      have x1 : wB.cell? ⟨w.heap.size + 1, 1, none⟩ = some (.int .i64 p.s.k) := by rw [← hwB]; simp [go_sem]
      have x2 : wB.cell? ⟨w.heap.size + 1, 2, none⟩ = some (.int .i64 p.s.v) := by rw [← hwB]; simp [go_sem]
      have x3 : wB.cell? ⟨w.heap.size + 1, 3, none⟩ = some (.int .i64 p.s.c) := by rw [← hwB]; simp [go_sem]
      have x4 : wB.cell? ⟨w.heap.size + 1, 4, none⟩ = some (.int .i64 p.s.d) := by rw [← hwB]; simp [go_sem]
      have x5 : wB.cell? ⟨w.heap.size + 1, 5, none⟩ = some (.int .i64 p.s.rk) := by rw [← hwB]; simp [go_sem]
      have x6 : wB.cell? ⟨w.heap.size + 1, 6, none⟩ = some (.int .i64 p.s.up) := by rw [← hwB]; simp [go_sem]
      have x7 : wB.cell? ⟨w.heap.size + 1, 7, none⟩ = some (.int .i64 p.s.dn) := by rw [← hwB]; simp [go_sem]
      have x8 : wB.cell? ⟨w.heap.size + 1, 8, none⟩ = some (.slice ad p.s.cv.length cp) := by rw [← hwB]; simp [go_sem]
      have x9 : wB.cell? ⟨w.heap.size + 1, 9, none⟩ = some (.int .i64 p.d) := by rw [← hwB]; simp [go_sem]
      have x10 : wB.cell? ⟨w.heap.size + 1, 10, none⟩ = some (.int .i64 p.u) := by rw [← hwB]; simp [go_sem]
      have x11 : wB.cell? ⟨w.heap.size + 1, 11, none⟩ = some (.bool p.b) := by rw [← hwB]; simp [go_sem]
      rw [hwB]
      clear hwB
      go_wp2_with (go_at_call 76; refine (HE.out _ (wB.heap.size) ((hb.alloc hb.size _)) (by have := ex_ints2 wB; exact this)).mono ?_; rintro e w2 ⟨rfl, hb2⟩)
      go_ret
      exact ⟨by rw [hv.out] <;> rfl, (hb.alloc hb.size _).trans (hb2.mono (hb.alloc hb.size _).size)⟩
    | false =>
      have hv : Hid (codP L row p = 3) := Lib.hid (by unfold codP; rw [if_neg h7, if_neg h6, if_pos (.inl h2), HEe.out, if_neg (by simp)])
      have k7 : (p.s.k == 7) = false := beq_false_of_ne h7
      have k6 : (p.s.k == 6) = false := beq_false_of_ne h6
      have k2 : (p.s.k == 2) = true := by rw [h2]; rfl
      clear h7 h6 h2 HH
      go_enter Tryz.func44, Tryz.ntmps44
      go_upto_region 1 with (fail)
      obtain ⟨wB, hwB⟩ : ∃ wB, (w.alloc (.cells #[.int .i64 L, .slice ar row.length cr] 91)).alloc (.cells #[.int .i64 p.s.n, .int .i64 p.s.k, .int .i64 p.s.v, .int .i64 p.s.c, .int .i64 p.s.d, .int .i64 p.s.rk, .int .i64 p.s.up, .int .i64 p.s.dn, .slice ad p.s.cv.length cp, .int .i64 p.d, .int .i64 p.u, .bool p.b] 88) = wB := ⟨_, rfl⟩
      have hb : Below w.heap.size w wB := by rw [← hwB]; exact ((Below.refl _ _).alloc (Nat.le_refl _) _).alloc (by simp) _
      have i0 : wB.cell? ⟨w.heap.size, 0, none⟩ = some (.int .i64 L) := by rw [← hwB]; simp [go_sem]
      have i1 : wB.cell? ⟨w.heap.size, 1, none⟩ = some (.slice ar row.length cr) := by rw [← hwB]; simp [go_sem]
      have x0 : wB.cell? ⟨w.heap.size + 1, 0, none⟩ = some (.int .i64 p.s.n) := by rw [← hwB]; simp [go_sem]
      have x1 : wB.cell? ⟨w.heap.size + 1, 1, none⟩ = some (.int .i64 p.s.k) := by rw [← hwB]; simp [go_sem]
      have x2 : wB.cell? ⟨w.heap.size + 1, 2, none⟩ = some (.int .i64 p.s.v) := by rw [← hwB]; simp [go_sem]
      have x3 : wB.cell? ⟨w.heap.size + 1, 3, none⟩ = some (.int .i64 p.s.c) := by rw [← hwB]; simp [go_sem]
      have x4 : wB.cell? ⟨w.heap.size + 1, 4, none⟩ = some (.int .i64 p.s.d) := by rw [← hwB]; simp [go_sem]
      have x5 : wB.cell? ⟨w.heap.size + 1, 5, none⟩ = some (.int .i64 p.s.rk) := by rw [← hwB]; simp [go_sem]
      have x6 : wB.cell? ⟨w.heap.size + 1, 6, none⟩ = some (.int .i64 p.s.up) := by rw [← hwB]; simp [go_sem]
      have x7 : wB.cell? ⟨w.heap.size + 1, 7, none⟩ = some (.int .i64 p.s.dn) := by rw [← hwB]; simp [go_sem]
      have x8 : wB.cell? ⟨w.heap.size + 1, 8, none⟩ = some (.slice ad p.s.cv.length cp) := by rw [← hwB]; simp [go_sem]
      have x9 : wB.cell? ⟨w.heap.size + 1, 9, none⟩ = some (.int .i64 p.d) := by rw [← hwB]; simp [go_sem]
      have x10 : wB.cell? ⟨w.heap.size + 1, 10, none⟩ = some (.int .i64 p.u) := by rw [← hwB]; simp [go_sem]
      have x11 : wB.cell? ⟨w.heap.size + 1, 11, none⟩ = some (.bool p.b) := by rw [← hwB]; simp [go_sem]
      rw [hwB]
      clear hwB
      go_wp2_with (go_at_call 76; refine (HE.out _ (wB.heap.size) ((hb.alloc hb.size _)) (by have := ex_ints2 wB; exact this)).mono ?_; rintro e w2 ⟨rfl, hb2⟩)
      go_ret
      exact ⟨by rw [hv.out] <;> rfl, (hb.alloc hb.size _).trans (hb2.mono (hb.alloc hb.size _).size)⟩
  by_cases h4 : p.s.k = 4
  · cases eb with
    | true =>
      have hv : Hid (codP L row p = 0) := Lib.hid (by unfold codP; rw [if_neg h7, if_neg h6, if_pos (.inr (.inl h4)), HEe.out, if_pos rfl])
      have k7 : (p.s.k == 7) = false := beq_false_of_ne h7
      have k6 : (p.s.k == 6) = false := beq_false_of_ne h6
      have k2 : (p.s.k == 2) = false := beq_false_of_ne h2
      have k4 : (p.s.k == 4) = true := by rw [h4]; rfl
      clear h7 h6 h2 h4 HH
      go_enter Tryz.func44, Tryz.ntmps44
      go_upto_region 1 with (fail)
      obtain ⟨wB, hwB⟩ : ∃ wB, (w.alloc (.cells #[.int .i64 L, .slice ar row.length cr] 91)).alloc (.cells #[.int .i64 p.s.n, .int .i64 p.s.k, .int .i64 p.s.v, .int .i64 p.s.c, .int .i64 p.s.d, .int .i64 p.s.rk, .int .i64 p.s.up, .int .i64 p.s.dn, .slice ad p.s.cv.length cp, .int .i64 p.d, .int .i64 p.u, .bool p.b] 88) = wB := ⟨_, rfl⟩
      have hb : Below w.heap.size w wB := by rw [← hwB]; exact ((Below.refl _ _).alloc (Nat.le_refl _) _).alloc (by simp) _
      have i0 : wB.cell? ⟨w.heap.size, 0, none⟩ = some (.int .i64 L) := by rw [← hwB]; simp [go_sem]
      have i1 : wB.cell? ⟨w.heap.size, 1, none⟩ = some (.slice ar row.length cr) := by rw [← hwB]; simp [go_sem]
      have x0 : wB.cell? ⟨w.heap.size + 1, 0, none⟩ = some (.int .i64 p.s.n) := by rw [← hwB]; simp [go_sem]
      have x1 : wB.cell? ⟨w.heap.size + 1, 1, none⟩ = some (.int .i64 p.s.k) := by rw [← hwB]; simp [go_sem]
      have x2 : wB.cell? ⟨w.heap.size + 1, 2, none⟩ = some (.int .i64 p.s.v) := by rw [← hwB]; simp [go_sem]
      have x3 : wB.cell? ⟨w.heap.size + 1, 3, none⟩ = some (.int .i64 p.s.c) := by rw [← hwB]; simp [go_sem]
      have x4 : wB.cell? ⟨w.heap.size + 1, 4, none⟩ = some (.int .i64 p.s.d) := by rw [← hwB]; simp [go_sem]
      have x5 : wB.cell? ⟨w.heap.size + 1, 5, none⟩ = some (.int .i64 p.s.rk) := by rw [← hwB]; simp [go_sem]
      have x6 : wB.cell? ⟨w.heap.size + 1, 6, none⟩ = some (.int .i64 p.s.up) := by rw [← hwB]; simp [go_sem]
      have x7 : wB.cell? ⟨w.heap.size + 1, 7, none⟩ = some (.int .i64 p.s.dn) := by rw [← hwB]; simp [go_sem]
      have x8 : wB.cell? ⟨w.heap.size + 1, 8, none⟩ = some (.slice ad p.s.cv.length cp) := by rw [← hwB]; simp [go_sem]
      have x9 : wB.cell? ⟨w.heap.size + 1, 9, none⟩ = some (.int .i64 p.d) := by rw [← hwB]; simp [go_sem]
      have x10 : wB.cell? ⟨w.heap.size + 1, 10, none⟩ = some (.int .i64 p.u) := by rw [← hwB]; simp [go_sem]
      have x11 : wB.cell? ⟨w.heap.size + 1, 11, none⟩ = some (.bool p.b) := by rw [← hwB]; simp [go_sem]
      rw [hwB]
      clear hwB
      go_wp2_with (go_at_call 76; refine (HE.out _ (wB.heap.size) ((hb.alloc hb.size _)) (by have := ex_ints2 wB; exact this)).mono ?_; rintro e w2 ⟨rfl, hb2⟩)
      go_ret
      exact ⟨by rw [hv.out] <;> rfl, (hb.alloc hb.size _).trans (hb2.mono (hb.alloc hb.size _).size)⟩
    | false =>
      have hv : Hid (codP L row p = 3) := Lib.hid (by unfold codP; rw [if_neg h7, if_neg h6, if_pos (.inr (.inl h4)), HEe.out, if_neg (by simp)])
      have k7 : (p.s.k == 7) = false := beq_false_of_ne h7
      have k6 : (p.s.k == 6) = false := beq_false_of_ne h6
      have k2 : (p.s.k == 2) = false := beq_false_of_ne h2
      have k4 : (p.s.k == 4) = true := by rw [h4]; rfl
      clear h7 h6 h2 h4 HH
      go_enter Tryz.func44, Tryz.ntmps44
      go_upto_region 1 with (fail)
      obtain ⟨wB, hwB⟩ : ∃ wB, (w.alloc (.cells #[.int .i64 L, .slice ar row.length cr] 91)).alloc (.cells #[.int .i64 p.s.n, .int .i64 p.s.k, .int .i64 p.s.v, .int .i64 p.s.c, .int .i64 p.s.d, .int .i64 p.s.rk, .int .i64 p.s.up, .int .i64 p.s.dn, .slice ad p.s.cv.length cp, .int .i64 p.d, .int .i64 p.u, .bool p.b] 88) = wB := ⟨_, rfl⟩
      have hb : Below w.heap.size w wB := by rw [← hwB]; exact ((Below.refl _ _).alloc (Nat.le_refl _) _).alloc (by simp) _
      have i0 : wB.cell? ⟨w.heap.size, 0, none⟩ = some (.int .i64 L) := by rw [← hwB]; simp [go_sem]
      have i1 : wB.cell? ⟨w.heap.size, 1, none⟩ = some (.slice ar row.length cr) := by rw [← hwB]; simp [go_sem]
      have x0 : wB.cell? ⟨w.heap.size + 1, 0, none⟩ = some (.int .i64 p.s.n) := by rw [← hwB]; simp [go_sem]
      have x1 : wB.cell? ⟨w.heap.size + 1, 1, none⟩ = some (.int .i64 p.s.k) := by rw [← hwB]; simp [go_sem]
      have x2 : wB.cell? ⟨w.heap.size + 1, 2, none⟩ = some (.int .i64 p.s.v) := by rw [← hwB]; simp [go_sem]
      have x3 : wB.cell? ⟨w.heap.size + 1, 3, none⟩ = some (.int .i64 p.s.c) := by rw [← hwB]; simp [go_sem]
      have x4 : wB.cell? ⟨w.heap.size + 1, 4, none⟩ = some (.int .i64 p.s.d) := by rw [← hwB]; simp [go_sem]
      have x5 : wB.cell? ⟨w.heap.size + 1, 5, none⟩ = some (.int .i64 p.s.rk) := by rw [← hwB]; simp [go_sem]
      have x6 : wB.cell? ⟨w.heap.size + 1, 6, none⟩ = some (.int .i64 p.s.up) := by rw [← hwB]; simp [go_sem]
      have x7 : wB.cell? ⟨w.heap.size + 1, 7, none⟩ = some (.int .i64 p.s.dn) := by rw [← hwB]; simp [go_sem]
      have x8 : wB.cell? ⟨w.heap.size + 1, 8, none⟩ = some (.slice ad p.s.cv.length cp) := by rw [← hwB]; simp [go_sem]
      have x9 : wB.cell? ⟨w.heap.size + 1, 9, none⟩ = some (.int .i64 p.d) := by rw [← hwB]; simp [go_sem]
      have x10 : wB.cell? ⟨w.heap.size + 1, 10, none⟩ = some (.int .i64 p.u) := by rw [← hwB]; simp [go_sem]
      have x11 : wB.cell? ⟨w.heap.size + 1, 11, none⟩ = some (.bool p.b) := by rw [← hwB]; simp [go_sem]
      rw [hwB]
      clear hwB
      go_wp2_with (go_at_call 76; refine (HE.out _ (wB.heap.size) ((hb.alloc hb.size _)) (by have := ex_ints2 wB; exact this)).mono ?_; rintro e w2 ⟨rfl, hb2⟩)
      go_ret
      exact ⟨by rw [hv.out] <;> rfl, (hb.alloc hb.size _).trans (hb2.mono (hb.alloc hb.size _).size)⟩
  by_cases h5 : p.s.k = 5
  · cases eb with
    | true =>
      have hv : Hid (codP L row p = 0) := Lib.hid (by unfold codP; rw [if_neg h7, if_neg h6, if_pos (.inr (.inr h5)), HEe.out, if_pos rfl])
      have k7 : (p.s.k == 7) = false := beq_false_of_ne h7
      have k6 : (p.s.k == 6) = false := beq_false_of_ne h6
      have k2 : (p.s.k == 2) = false := beq_false_of_ne h2
      have k4 : (p.s.k == 4) = false := beq_false_of_ne h4
      have k5 : (p.s.k == 5) = true := by rw [h5]; rfl
      clear h7 h6 h2 h4 h5 HH
      go_enter Tryz.func44, Tryz.ntmps44
      go_upto_region 1 with (fail)
      obtain ⟨wB, hwB⟩ : ∃ wB, (w.alloc (.cells #[.int .i64 L, .slice ar row.length cr] 91)).alloc (.cells #[.int .i64 p.s.n, .int .i64 p.s.k, .int .i64 p.s.v, .int .i64 p.s.c, .int .i64 p.s.d, .int .i64 p.s.rk, .int .i64 p.s.up, .int .i64 p.s.dn, .slice ad p.s.cv.length cp, .int .i64 p.d, .int .i64 p.u, .bool p.b] 88) = wB := ⟨_, rfl⟩
      have hb : Below w.heap.size w wB := by rw [← hwB]; exact ((Below.refl _ _).alloc (Nat.le_refl _) _).alloc (by simp) _
      have i0 : wB.cell? ⟨w.heap.size, 0, none⟩ = some (.int .i64 L) := by rw [← hwB]; simp [go_sem]
      have i1 : wB.cell? ⟨w.heap.size, 1, none⟩ = some (.slice ar row.length cr) := by rw [← hwB]; simp [go_sem]
      have x0 : wB.cell? ⟨w.heap.size + 1, 0, none⟩ = some (.int .i64 p.s.n) := by rw [← hwB]; simp [go_sem]
      have x1 : wB.cell? ⟨w.heap.size + 1, 1, none⟩ = some (.int .i64 p.s.k) := by rw [← hwB]; simp [go_sem]
      have x2 : wB.cell? ⟨w.heap.size + 1, 2, none⟩ = some (.int .i64 p.s.v) := by rw [← hwB]; simp [go_sem]
      have x3 : wB.cell? ⟨w.heap.size + 1, 3, none⟩ = some (.int .i64 p.s.c) := by rw [← hwB]; simp [go_sem]
      have x4 : wB.cell? ⟨w.heap.size + 1, 4, none⟩ = some (.int .i64 p.s.d) := by rw [← hwB]; simp [go_sem]
      have x5 : wB.cell? ⟨w.heap.size + 1, 5, none⟩ = some (.int .i64 p.s.rk) := by rw [← hwB]; simp [go_sem]
      have x6 : wB.cell? ⟨w.heap.size + 1, 6, none⟩ = some (.int .i64 p.s.up) := by rw [← hwB]; simp [go_sem]
      have x7 : wB.cell? ⟨w.heap.size + 1, 7, none⟩ = some (.int .i64 p.s.dn) := by rw [← hwB]; simp [go_sem]
      have x8 : wB.cell? ⟨w.heap.size + 1, 8, none⟩ = some (.slice ad p.s.cv.length cp) := by rw [← hwB]; simp [go_sem]
      have x9 : wB.cell? ⟨w.heap.size + 1, 9, none⟩ = some (.int .i64 p.d) := by rw [← hwB]; simp [go_sem]
      have x10 : wB.cell? ⟨w.heap.size + 1, 10, none⟩ = some (.int .i64 p.u) := by rw [← hwB]; simp [go_sem]
      have x11 : wB.cell? ⟨w.heap.size + 1, 11, none⟩ = some (.bool p.b) := by rw [← hwB]; simp [go_sem]
      rw [hwB]
      clear hwB
      go_wp2_with (go_at_call 76; refine (HE.out _ (wB.heap.size) ((hb.alloc hb.size _)) (by have := ex_ints2 wB; exact this)).mono ?_; rintro e w2 ⟨rfl, hb2⟩)
      go_ret
      exact ⟨by rw [hv.out] <;> rfl, (hb.alloc hb.size _).trans (hb2.mono (hb.alloc hb.size _).size)⟩
    | false =>
      have hv : Hid (codP L row p = 3) := Lib.hid (by unfold codP; rw [if_neg h7, if_neg h6, if_pos (.inr (.inr h5)), HEe.out, if_neg (by simp)])
      have k7 : (p.s.k == 7) = false := beq_false_of_ne h7
      have k6 : (p.s.k == 6) = false := beq_false_of_ne h6
      have k2 : (p.s.k == 2) = false := beq_false_of_ne h2
      have k4 : (p.s.k == 4) = false := beq_false_of_ne h4
      have k5 : (p.s.k == 5) = true := by rw [h5]; rfl
      clear h7 h6 h2 h4 h5 HH
      go_enter Tryz.func44, Tryz.ntmps44
      go_upto_region 1 with (fail)
      obtain ⟨wB, hwB⟩ : ∃ wB, (w.alloc (.cells #[.int .i64 L, .slice ar row.length cr] 91)).alloc (.cells #[.int .i64 p.s.n, .int .i64 p.s.k, .int .i64 p.s.v, .int .i64 p.s.c, .int .i64 p.s.d, .int .i64 p.s.rk, .int .i64 p.s.up, .int .i64 p.s.dn, .slice ad p.s.cv.length cp, .int .i64 p.d, .int .i64 p.u, .bool p.b] 88) = wB := ⟨_, rfl⟩
      have hb : Below w.heap.size w wB := by rw [← hwB]; exact ((Below.refl _ _).alloc (Nat.le_refl _) _).alloc (by simp) _
      have i0 : wB.cell? ⟨w.heap.size, 0, none⟩ = some (.int .i64 L) := by rw [← hwB]; simp [go_sem]
      have i1 : wB.cell? ⟨w.heap.size, 1, none⟩ = some (.slice ar row.length cr) := by rw [← hwB]; simp [go_sem]
      have x0 : wB.cell? ⟨w.heap.size + 1, 0, none⟩ = some (.int .i64 p.s.n) := by rw [← hwB]; simp [go_sem]
      have x1 : wB.cell? ⟨w.heap.size + 1, 1, none⟩ = some (.int .i64 p.s.k) := by rw [← hwB]; simp [go_sem]
      have x2 : wB.cell? ⟨w.heap.size + 1, 2, none⟩ = some (.int .i64 p.s.v) := by rw [← hwB]; simp [go_sem]
      have x3 : wB.cell? ⟨w.heap.size + 1, 3, none⟩ = some (.int .i64 p.s.c) := by rw [← hwB]; simp [go_sem]
      have x4 : wB.cell? ⟨w.heap.size + 1, 4, none⟩ = some (.int .i64 p.s.d) := by rw [← hwB]; simp [go_sem]
      have x5 : wB.cell? ⟨w.heap.size + 1, 5, none⟩ = some (.int .i64 p.s.rk) := by rw [← hwB]; simp [go_sem]
      have x6 : wB.cell? ⟨w.heap.size + 1, 6, none⟩ = some (.int .i64 p.s.up) := by rw [← hwB]; simp [go_sem]
      have x7 : wB.cell? ⟨w.heap.size + 1, 7, none⟩ = some (.int .i64 p.s.dn) := by rw [← hwB]; simp [go_sem]
      have x8 : wB.cell? ⟨w.heap.size + 1, 8, none⟩ = some (.slice ad p.s.cv.length cp) := by rw [← hwB]; simp [go_sem]
      have x9 : wB.cell? ⟨w.heap.size + 1, 9, none⟩ = some (.int .i64 p.d) := by rw [← hwB]; simp [go_sem]
      have x10 : wB.cell? ⟨w.heap.size + 1, 10, none⟩ = some (.int .i64 p.u) := by rw [← hwB]; simp [go_sem]
      have x11 : wB.cell? ⟨w.heap.size + 1, 11, none⟩ = some (.bool p.b) := by rw [← hwB]; simp [go_sem]
      rw [hwB]
      clear hwB
      go_wp2_with (go_at_call 76; refine (HE.out _ (wB.heap.size) ((hb.alloc hb.size _)) (by have := ex_ints2 wB; exact this)).mono ?_; rintro e w2 ⟨rfl, hb2⟩)
      go_ret
      exact ⟨by rw [hv.out] <;> rfl, (hb.alloc hb.size _).trans (hb2.mono (hb.alloc hb.size _).size)⟩
  by_cases h1 : p.s.k = 1
  · have k7 : (p.s.k == 7) = false := beq_false_of_ne h7
    have k6 : (p.s.k == 6) = false := beq_false_of_ne h6
    have k2 : (p.s.k == 2) = false := beq_false_of_ne h2
    have k4 : (p.s.k == 4) = false := beq_false_of_ne h4
    have k5 : (p.s.k == 5) = false := beq_false_of_ne h5
    have k1 : (p.s.k == 1) = true := by rw [h1]; rfl
    by_cases hdl : p.d = L
    · have hv : Hid (codP L row p = 4) := Lib.hid (by unfold codP; rw [if_neg h7, if_neg h6, if_neg (by omega), if_pos (.inl h1), if_pos hdl])
      have dd : (p.d == L) = true := by rw [hdl]; simp
      clear hdl HH HE h7 h6 h2 h4 h5 h1
      go_enter Tryz.func44, Tryz.ntmps44
      go_upto_region 1 with (fail)
      obtain ⟨wB, hwB⟩ : ∃ wB, (w.alloc (.cells #[.int .i64 L, .slice ar row.length cr] 91)).alloc (.cells #[.int .i64 p.s.n, .int .i64 p.s.k, .int .i64 p.s.v, .int .i64 p.s.c, .int .i64 p.s.d, .int .i64 p.s.rk, .int .i64 p.s.up, .int .i64 p.s.dn, .slice ad p.s.cv.length cp, .int .i64 p.d, .int .i64 p.u, .bool p.b] 88) = wB := ⟨_, rfl⟩
      have hb : Below w.heap.size w wB := by rw [← hwB]; exact ((Below.refl _ _).alloc (Nat.le_refl _) _).alloc (by simp) _
      have i0 : wB.cell? ⟨w.heap.size, 0, none⟩ = some (.int .i64 L) := by rw [← hwB]; simp [go_sem]
      have i1 : wB.cell? ⟨w.heap.size, 1, none⟩ = some (.slice ar row.length cr) := by rw [← hwB]; simp [go_sem]
      have x0 : wB.cell? ⟨w.heap.size + 1, 0, none⟩ = some (.int .i64 p.s.n) := by rw [← hwB]; simp [go_sem]
      have x1 : wB.cell? ⟨w.heap.size + 1, 1, none⟩ = some (.int .i64 p.s.k) := by rw [← hwB]; simp [go_sem]
      have x2 : wB.cell? ⟨w.heap.size + 1, 2, none⟩ = some (.int .i64 p.s.v) := by rw [← hwB]; simp [go_sem]
      have x3 : wB.cell? ⟨w.heap.size + 1, 3, none⟩ = some (.int .i64 p.s.c) := by rw [← hwB]; simp [go_sem]
      have x4 : wB.cell? ⟨w.heap.size + 1, 4, none⟩ = some (.int .i64 p.s.d) := by rw [← hwB]; simp [go_sem]
      have x5 : wB.cell? ⟨w.heap.size + 1, 5, none⟩ = some (.int .i64 p.s.rk) := by rw [← hwB]; simp [go_sem]
      have x6 : wB.cell? ⟨w.heap.size + 1, 6, none⟩ = some (.int .i64 p.s.up) := by rw [← hwB]; simp [go_sem]
      have x7 : wB.cell? ⟨w.heap.size + 1, 7, none⟩ = some (.int .i64 p.s.dn) := by rw [← hwB]; simp [go_sem]
      have x8 : wB.cell? ⟨w.heap.size + 1, 8, none⟩ = some (.slice ad p.s.cv.length cp) := by rw [← hwB]; simp [go_sem]
      have x9 : wB.cell? ⟨w.heap.size + 1, 9, none⟩ = some (.int .i64 p.d) := by rw [← hwB]; simp [go_sem]
      have x10 : wB.cell? ⟨w.heap.size + 1, 10, none⟩ = some (.int .i64 p.u) := by rw [← hwB]; simp [go_sem]
      have x11 : wB.cell? ⟨w.heap.size + 1, 11, none⟩ = some (.bool p.b) := by rw [← hwB]; simp [go_sem]
      rw [hwB]
      clear hwB
      go_wp2_with fail
      go_ret
      exact ⟨by rw [hv.out] <;> rfl, hb⟩
    · have hv : Hid (codP L row p = 0) := Lib.hid (by unfold codP; rw [if_neg h7, if_neg h6, if_neg (by omega), if_pos (.inl h1), if_neg hdl])
      have dd : (p.d == L) = false := beq_false_of_ne hdl
      clear hdl HH HE h7 h6 h2 h4 h5 h1
      go_enter Tryz.func44, Tryz.ntmps44
      go_upto_region 1 with (fail)
      obtain ⟨wB, hwB⟩ : ∃ wB, (w.alloc (.cells #[.int .i64 L, .slice ar row.length cr] 91)).alloc (.cells #[.int .i64 p.s.n, .int .i64 p.s.k, .int .i64 p.s.v, .int .i64 p.s.c, .int .i64 p.s.d, .int .i64 p.s.rk, .int .i64 p.s.up, .int .i64 p.s.dn, .slice ad p.s.cv.length cp, .int .i64 p.d, .int .i64 p.u, .bool p.b] 88) = wB := ⟨_, rfl⟩
      have hb : Below w.heap.size w wB := by rw [← hwB]; exact ((Below.refl _ _).alloc (Nat.le_refl _) _).alloc (by simp) _
      have i0 : wB.cell? ⟨w.heap.size, 0, none⟩ = some (.int .i64 L) := by rw [← hwB]; simp [go_sem]
      have i1 : wB.cell? ⟨w.heap.size, 1, none⟩ = some (.slice ar row.length cr) := by rw [← hwB]; simp [go_sem]
      have x0 : wB.cell? ⟨w.heap.size + 1, 0, none⟩ = some (.int .i64 p.s.n) := by rw [← hwB]; simp [go_sem]
      have x1 : wB.cell? ⟨w.heap.size + 1, 1, none⟩ = some (.int .i64 p.s.k) := by rw [← hwB]; simp [go_sem]
      have x2 : wB.cell? ⟨w.heap.size + 1, 2, none⟩ = some (.int .i64 p.s.v) := by rw [← hwB]; simp [go_sem]
      have x3 : wB.cell? ⟨w.heap.size + 1, 3, none⟩ = some (.int .i64 p.s.c) := by rw [← hwB]; simp [go_sem]
      have x4 : wB.cell? ⟨w.heap.size + 1, 4, none⟩ = some (.int .i64 p.s.d) := by rw [← hwB]; simp [go_sem]
      have x5 : wB.cell? ⟨w.heap.size + 1, 5, none⟩ = some (.int .i64 p.s.rk) := by rw [← hwB]; simp [go_sem]
      have x6 : wB.cell? ⟨w.heap.size + 1, 6, none⟩ = some (.int .i64 p.s.up) := by rw [← hwB]; simp [go_sem]
      have x7 : wB.cell? ⟨w.heap.size + 1, 7, none⟩ = some (.int .i64 p.s.dn) := by rw [← hwB]; simp [go_sem]
      have x8 : wB.cell? ⟨w.heap.size + 1, 8, none⟩ = some (.slice ad p.s.cv.length cp) := by rw [← hwB]; simp [go_sem]
      have x9 : wB.cell? ⟨w.heap.size + 1, 9, none⟩ = some (.int .i64 p.d) := by rw [← hwB]; simp [go_sem]
      have x10 : wB.cell? ⟨w.heap.size + 1, 10, none⟩ = some (.int .i64 p.u) := by rw [← hwB]; simp [go_sem]
      have x11 : wB.cell? ⟨w.heap.size + 1, 11, none⟩ = some (.bool p.b) := by rw [← hwB]; simp [go_sem]
      rw [hwB]
      clear hwB
      go_wp2_with fail
      go_ret
      exact ⟨by rw [hv.out] <;> rfl, hb⟩
  by_cases h3 : p.s.k = 3
  · have k7 : (p.s.k == 7) = false := beq_false_of_ne h7
    have k6 : (p.s.k == 6) = false := beq_false_of_ne h6
    have k2 : (p.s.k == 2) = false := beq_false_of_ne h2
    have k4 : (p.s.k == 4) = false := beq_false_of_ne h4
    have k5 : (p.s.k == 5) = false := beq_false_of_ne h5
    have k1 : (p.s.k == 1) = false := beq_false_of_ne h1
    have k3 : (p.s.k == 3) = true := by rw [h3]; rfl
    by_cases hdl : p.d = L
    · have hv : Hid (codP L row p = 4) := Lib.hid (by unfold codP; rw [if_neg h7, if_neg h6, if_neg (by omega), if_pos (.inr h3), if_pos hdl])
      have dd : (p.d == L) = true := by rw [hdl]; simp
      clear hdl HH HE h7 h6 h2 h4 h5 h1 h3
      go_enter Tryz.func44, Tryz.ntmps44
      go_upto_region 1 with (fail)
      obtain ⟨wB, hwB⟩ : ∃ wB, (w.alloc (.cells #[.int .i64 L, .slice ar row.length cr] 91)).alloc (.cells #[.int .i64 p.s.n, .int .i64 p.s.k, .int .i64 p.s.v, .int .i64 p.s.c, .int .i64 p.s.d, .int .i64 p.s.rk, .int .i64 p.s.up, .int .i64 p.s.dn, .slice ad p.s.cv.length cp, .int .i64 p.d, .int .i64 p.u, .bool p.b] 88) = wB := ⟨_, rfl⟩
      have hb : Below w.heap.size w wB := by rw [← hwB]; exact ((Below.refl _ _).alloc (Nat.le_refl _) _).alloc (by simp) _
      have i0 : wB.cell? ⟨w.heap.size, 0, none⟩ = some (.int .i64 L) := by rw [← hwB]; simp [go_sem]
      have i1 : wB.cell? ⟨w.heap.size, 1, none⟩ = some (.slice ar row.length cr) := by rw [← hwB]; simp [go_sem]
      have x0 : wB.cell? ⟨w.heap.size + 1, 0, none⟩ = some (.int .i64 p.s.n) := by rw [← hwB]; simp [go_sem]
      have x1 : wB.cell? ⟨w.heap.size + 1, 1, none⟩ = some (.int .i64 p.s.k) := by rw [← hwB]; simp [go_sem]
      have x2 : wB.cell? ⟨w.heap.size + 1, 2, none⟩ = some (.int .i64 p.s.v) := by rw [← hwB]; simp [go_sem]
      have x3 : wB.cell? ⟨w.heap.size + 1, 3, none⟩ = some (.int .i64 p.s.c) := by rw [← hwB]; simp [go_sem]
      have x4 : wB.cell? ⟨w.heap.size + 1, 4, none⟩ = some (.int .i64 p.s.d) := by rw [← hwB]; simp [go_sem]
      have x5 : wB.cell? ⟨w.heap.size + 1, 5, none⟩ = some (.int .i64 p.s.rk) := by rw [← hwB]; simp [go_sem]
      have x6 : wB.cell? ⟨w.heap.size + 1, 6, none⟩ = some (.int .i64 p.s.up) := by rw [← hwB]; simp [go_sem]
      have x7 : wB.cell? ⟨w.heap.size + 1, 7, none⟩ = some (.int .i64 p.s.dn) := by rw [← hwB]; simp [go_sem]
      have x8 : wB.cell? ⟨w.heap.size + 1, 8, none⟩ = some (.slice ad p.s.cv.length cp) := by rw [← hwB]; simp [go_sem]
      have x9 : wB.cell? ⟨w.heap.size + 1, 9, none⟩ = some (.int .i64 p.d) := by rw [← hwB]; simp [go_sem]
      have x10 : wB.cell? ⟨w.heap.size + 1, 10, none⟩ = some (.int .i64 p.u) := by rw [← hwB]; simp [go_sem]
      have x11 : wB.cell? ⟨w.heap.size + 1, 11, none⟩ = some (.bool p.b) := by rw [← hwB]; simp [go_sem]
      rw [hwB]
      clear hwB
      go_wp2_with fail
      go_ret
      exact ⟨by rw [hv.out] <;> rfl, hb⟩
    · have hv : Hid (codP L row p = 0) := Lib.hid (by unfold codP; rw [if_neg h7, if_neg h6, if_neg (by omega), if_pos (.inr h3), if_neg hdl])
      have dd : (p.d == L) = false := beq_false_of_ne hdl
      clear hdl HH HE h7 h6 h2 h4 h5 h1 h3
      go_enter Tryz.func44, Tryz.ntmps44
      go_upto_region 1 with (fail)
      obtain ⟨wB, hwB⟩ : ∃ wB, (w.alloc (.cells #[.int .i64 L, .slice ar row.length cr] 91)).alloc (.cells #[.int .i64 p.s.n, .int .i64 p.s.k, .int .i64 p.s.v, .int .i64 p.s.c, .int .i64 p.s.d, .int .i64 p.s.rk, .int .i64 p.s.up, .int .i64 p.s.dn, .slice ad p.s.cv.length cp, .int .i64 p.d, .int .i64 p.u, .bool p.b] 88) = wB := ⟨_, rfl⟩
      have hb : Below w.heap.size w wB := by rw [← hwB]; exact ((Below.refl _ _).alloc (Nat.le_refl _) _).alloc (by simp) _
      have i0 : wB.cell? ⟨w.heap.size, 0, none⟩ = some (.int .i64 L) := by rw [← hwB]; simp [go_sem]
      have i1 : wB.cell? ⟨w.heap.size, 1, none⟩ = some (.slice ar row.length cr) := by rw [← hwB]; simp [go_sem]
      have x0 : wB.cell? ⟨w.heap.size + 1, 0, none⟩ = some (.int .i64 p.s.n) := by rw [← hwB]; simp [go_sem]
      have x1 : wB.cell? ⟨w.heap.size + 1, 1, none⟩ = some (.int .i64 p.s.k) := by rw [← hwB]; simp [go_sem]
      have x2 : wB.cell? ⟨w.heap.size + 1, 2, none⟩ = some (.int .i64 p.s.v) := by rw [← hwB]; simp [go_sem]
      have x3 : wB.cell? ⟨w.heap.size + 1, 3, none⟩ = some (.int .i64 p.s.c) := by rw [← hwB]; simp [go_sem]
      have x4 : wB.cell? ⟨w.heap.size + 1, 4, none⟩ = some (.int .i64 p.s.d) := by rw [← hwB]; simp [go_sem]
      have x5 : wB.cell? ⟨w.heap.size + 1, 5, none⟩ = some (.int .i64 p.s.rk) := by rw [← hwB]; simp [go_sem]
      have x6 : wB.cell? ⟨w.heap.size + 1, 6, none⟩ = some (.int .i64 p.s.up) := by rw [← hwB]; simp [go_sem]
      have x7 : wB.cell? ⟨w.heap.size + 1, 7, none⟩ = some (.int .i64 p.s.dn) := by rw [← hwB]; simp [go_sem]
      have x8 : wB.cell? ⟨w.heap.size + 1, 8, none⟩ = some (.slice ad p.s.cv.length cp) := by rw [← hwB]; simp [go_sem]
      have x9 : wB.cell? ⟨w.heap.size + 1, 9, none⟩ = some (.int .i64 p.d) := by rw [← hwB]; simp [go_sem]
      have x10 : wB.cell? ⟨w.heap.size + 1, 10, none⟩ = some (.int .i64 p.u) := by rw [← hwB]; simp [go_sem]
      have x11 : wB.cell? ⟨w.heap.size + 1, 11, none⟩ = some (.bool p.b) := by rw [← hwB]; simp [go_sem]
      rw [hwB]
      clear hwB
      go_wp2_with fail
      go_ret
      exact ⟨by rw [hv.out] <;> rfl, hb⟩
  have hv : Hid (codP L row p = 0) := Lib.hid (by unfold codP; rw [if_neg h7, if_neg h6, if_neg (by omega), if_neg (by omega)])
  have k7 : (p.s.k == 7) = false := beq_false_of_ne h7
  have k6 : (p.s.k == 6) = false := beq_false_of_ne h6
  have k2 : (p.s.k == 2) = false := beq_false_of_ne h2
  have k4 : (p.s.k == 4) = false := beq_false_of_ne h4
  have k5 : (p.s.k == 5) = false := beq_false_of_ne h5
  have k1 : (p.s.k == 1) = false := beq_false_of_ne h1
  have k3 : (p.s.k == 3) = false := beq_false_of_ne h3
  clear h7 h6 h2 h4 h5 h1 h3 HH HE
  go_enter Tryz.func44, Tryz.ntmps44
  go_upto_region 1 with (fail)
  obtain ⟨wB, hwB⟩ : ∃ wB, (w.alloc (.cells #[.int .i64 L, .slice ar row.length cr] 91)).alloc (.cells #[.int .i64 p.s.n, .int .i64 p.s.k, .int .i64 p.s.v, .int .i64 p.s.c, .int .i64 p.s.d, .int .i64 p.s.rk, .int .i64 p.s.up, .int .i64 p.s.dn, .slice ad p.s.cv.length cp, .int .i64 p.d, .int .i64 p.u, .bool p.b] 88) = wB := ⟨_, rfl⟩
  have hb : Below w.heap.size w wB := by rw [← hwB]; exact ((Below.refl _ _).alloc (Nat.le_refl _) _).alloc (by simp) _
  have i0 : wB.cell? ⟨w.heap.size, 0, none⟩ = some (.int .i64 L) := by rw [← hwB]; simp [go_sem]
  have i1 : wB.cell? ⟨w.heap.size, 1, none⟩ = some (.slice ar row.length cr) := by rw [← hwB]; simp [go_sem]
  have x0 : wB.cell? ⟨w.heap.size + 1, 0, none⟩ = some (.int .i64 p.s.n) := by rw [← hwB]; simp [go_sem]
  have x1 : wB.cell? ⟨w.heap.size + 1, 1, none⟩ = some (.int .i64 p.s.k) := by rw [← hwB]; simp [go_sem]
  have x2 : wB.cell? ⟨w.heap.size + 1, 2, none⟩ = some (.int .i64 p.s.v) := by rw [← hwB]; simp [go_sem]
  have x3 : wB.cell? ⟨w.heap.size + 1, 3, none⟩ = some (.int .i64 p.s.c) := by rw [← hwB]; simp [go_sem]
  have x4 : wB.cell? ⟨w.heap.size + 1, 4, none⟩ = some (.int .i64 p.s.d) := by rw [← hwB]; simp [go_sem]
  have x5 : wB.cell? ⟨w.heap.size + 1, 5, none⟩ = some (.int .i64 p.s.rk) := by rw [← hwB]; simp [go_sem]
  have x6 : wB.cell? ⟨w.heap.size + 1, 6, none⟩ = some (.int .i64 p.s.up) := by rw [← hwB]; simp [go_sem]
  have x7 : wB.cell? ⟨w.heap.size + 1, 7, none⟩ = some (.int .i64 p.s.dn) := by rw [← hwB]; simp [go_sem]
  have x8 : wB.cell? ⟨w.heap.size + 1, 8, none⟩ = some (.slice ad p.s.cv.length cp) := by rw [← hwB]; simp [go_sem]
  have x9 : wB.cell? ⟨w.heap.size + 1, 9, none⟩ = some (.int .i64 p.d) := by rw [← hwB]; simp [go_sem]
  have x10 : wB.cell? ⟨w.heap.size + 1, 10, none⟩ = some (.int .i64 p.u) := by rw [← hwB]; simp [go_sem]
  have x11 : wB.cell? ⟨w.heap.size + 1, 11, none⟩ = some (.bool p.b) := by rw [← hwB]; simp [go_sem]
  rw [hwB]
  clear hwB
  go_wp2_with fail
  go_ret
  exact ⟨by rw [hv.out] <;> rfl, hb⟩
end Go.Proofs.YtjoffnbpaebgjaaGreat

namespace Go.Proofs
open Go.Shelf
def Tryz.laysSortF_ren : Go.Shelf.Ren := ⟨fun | 6 => 45 | 15 => 78 | 14 => 77 | 28 => 116 | 29 => 117 | 20 => 108 | 21 => 109 | 22 => 110 | 23 => 111 | 24 => 112 | 25 => 113 | 26 => 114 | 27 => 115 | 46 => 136 | 47 => 137 | 48 => 138 | 49 => 139 | 50 => 140 | 57 => 153 | n => n, fun | 22 => 51 | 24 => 96 | 25 => 97 | 3 => 3 | 39 => 44 | 0 => 0 | 53 => 43 | 55 => 155 | 4 => 4 | 46 => 147 | 45 => 146 | 50 => 151 | 5 => 5 | 9 => 9 | 66 => 167 | 70 => 171 | 76 => 180 | 77 => 181 | n => n, fun | n => n⟩
theorem Tryz.laysSortF : Go.Proofs.SlLaysF0.n6 Tryz.prog Tryz.laysSortF_ren := {
  mixed := by kernel_rfl
  f6 := ⟨Tryz.f45.name, by decide, Tryz.func45.trans (congrArg some (by kernel_rfl))⟩
  f14 := ⟨Tryz.f77.name, by decide, Tryz.func77.trans (congrArg some (by kernel_rfl))⟩
  f15 := Tryz.func78.trans (congrArg some (by kernel_rfl))
  f20 := ⟨Tryz.f108.name, by decide, Tryz.func108.trans (congrArg some (by kernel_rfl))⟩
  f21 := ⟨Tryz.f109.name, by decide, Tryz.func109.trans (congrArg some (by kernel_rfl))⟩
  f22 := ⟨Tryz.f110.name, by decide, Tryz.func110.trans (congrArg some (by kernel_rfl))⟩
  f23 := ⟨Tryz.f111.name, by decide, Tryz.func111.trans (congrArg some (by kernel_rfl))⟩
  f24 := ⟨Tryz.f112.name, by decide, Tryz.func112.trans (congrArg some (by kernel_rfl))⟩
  f25 := ⟨Tryz.f113.name, by decide, Tryz.func113.trans (congrArg some (by kernel_rfl))⟩
  f26 := ⟨Tryz.f114.name, by decide, Tryz.func114.trans (congrArg some (by kernel_rfl))⟩
  f27 := ⟨Tryz.f115.name, by decide, Tryz.func115.trans (congrArg some (by kernel_rfl))⟩
  f28 := Tryz.func116.trans (congrArg some (by kernel_rfl))
  f29 := Tryz.func117.trans (congrArg some (by kernel_rfl))
  f46 := ⟨Tryz.f136.name, by decide, Tryz.func136.trans (congrArg some (by kernel_rfl))⟩
  f47 := Tryz.func137.trans (congrArg some (by kernel_rfl))
  f48 := Tryz.func138.trans (congrArg some (by kernel_rfl))
  f49 := ⟨Tryz.f139.name, by decide, Tryz.func139.trans (congrArg some (by kernel_rfl))⟩
  f50 := ⟨Tryz.f140.name, by decide, Tryz.func140.trans (congrArg some (by kernel_rfl))⟩
  f57 := ⟨Tryz.f153.name, by decide, Tryz.func153.trans (congrArg some (by kernel_rfl))⟩
  t0 := Tryz.underlying0
  a0 := Tryz.isAgg0
  z0 := Tryz.sizeOf0
  v0 := Tryz.zeroValue0
  t3 := Tryz.underlying3
  a3 := Tryz.isAgg3
  z3 := Tryz.sizeOf3
  v3 := Tryz.zeroValue3
  t4 := Tryz.underlying4
  a4 := Tryz.isAgg4
  z4 := Tryz.sizeOf4
  v4 := Tryz.zeroValue4
  t5 := Tryz.underlying5
  a5 := Tryz.isAgg5
  z5 := Tryz.sizeOf5
  v5 := Tryz.zeroValue5
  t9 := Tryz.underlying9
  a9 := Tryz.isAgg9
  z9 := Tryz.sizeOf9
  v9 := Tryz.zeroValue9
  t22 := Tryz.underlying51
  a22 := Tryz.isAgg51
  z22 := Tryz.sizeOf51
  v22 := Tryz.zeroValue51
  t25 := Tryz.underlying97
  a25 := Tryz.isAgg97
  z25 := Tryz.sizeOf97
  v25 := Tryz.zeroValue97
  t39 := Tryz.underlying44
  a39 := Tryz.isAgg44
  z39 := Tryz.sizeOf44
  v39 := Tryz.zeroValue44
  t45 := Tryz.underlying146
  a45 := Tryz.isAgg146
  z45 := Tryz.sizeOf146
  v45 := Tryz.zeroValue146
  t46 := Tryz.underlying147
  a46 := Tryz.isAgg147
  z46 := Tryz.sizeOf147
  v46 := Tryz.zeroValue147
  t50 := Tryz.underlying151
  a50 := Tryz.isAgg151
  z50 := Tryz.sizeOf151
  v50 := Tryz.zeroValue151
  t53 := Tryz.underlying43
  a53 := Tryz.isAgg43
  z53 := Tryz.sizeOf43
  v53 := Tryz.zeroValue43
  t55 := Tryz.underlying155
  a55 := Tryz.isAgg155
  z55 := Tryz.sizeOf155
  v55 := Tryz.zeroValue155
  t66 := Tryz.underlying167
  a66 := Tryz.isAgg167
  z66 := Tryz.sizeOf167
  v66 := Tryz.zeroValue167
  t70 := Tryz.underlying171
  a70 := Tryz.isAgg171
  z70 := Tryz.sizeOf171
  v70 := Tryz.zeroValue171
  t76 := Tryz.underlying180
  a76 := Tryz.isAgg180
  z76 := Tryz.sizeOf180
  v76 := Tryz.zeroValue180
  t77 := Tryz.underlying181
  a77 := Tryz.isAgg181
  z77 := Tryz.sizeOf181
  v77 := Tryz.zeroValue181 }
end Go.Proofs
