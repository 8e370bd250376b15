/-
  The law's right. By an AI agent.; The reference's Compare. By an AI agent.; The law RuleCompares. By an AI agent.; Arguments, opened: lists of ints and of pairs, tables, scenes, structs of them, arrays. By an AI agent.; The arguments of package rule's laws, opened. By an AI agent.
-/
import Derived.Test.YtlpdjinhkmgbgaaGreatDoorMgRuleCW0
import Derived.Test.YtlpdjinhkmgbgaaGreatDoorMgRuleCW2
import Derived.Test.YtlpdjinhkmgbgaaGreatDoorMgRuleCW8
import Derived.Test.YtlpdjinhkmgbgaaGreatDoorMgRuleCW13
import Derived.Test.YtlpdjinhkmgbgaaGreatDoorMgRuleCW15
import Derived.Deep.RegionHeld3
import Derived.Deep.DeepCutAuto
import Derived.BigQuiet
import Derived.BigRegion
import Derived.StillTailTactics
import Derived.Deep.AppendLies
import Derived.Lib.SmallJoins
import Derived.Deep.Slices
import Derived.OpenShut

namespace Go.Proofs.YtlpdjinhkmgbgaaGreatDoor
set_option linter.unusedVariables false
set_option linter.unusedSimpArgs false
open Go.RowKit

/-- right says whether an ask has valid parts. -/
def RgtE (L : Int) (js : List Int) (l : List Sgn) (q : List Edc) (q0 q1 q2 : Int) (w : World) (e : Ending) (w' : World) : Prop :=
  ∃ b : Bool, (b = true → lstE L js l q = 0 ∧ L ≤ 200 ∧ btw q0 0 10000000 = true ∧ dirB q1 = true ∧ topB q2 = true) ∧ e = .returned (.bool b) ∧ Below w.heap.size w w'
theorem lst_zero {L : Int} {js : List Int} {l : List Sgn} {q : List Edc} (h1 : sgnsB L js l = true) (h2 : edcsB L js q = true) : lstE L js l q = 0 := by
  unfold lstE
  rw [sgns_line h1, h1, h2]
  rfl
/-- The metre of an ask, within its line. -/
theorem metre_u (L q3 : Int) (h1 : 1 ≤ L) (h2 : L ≤ 200) : ∃ U M : Int, IntKind.u64.wrap q3 = U ∧ U.tmod L = M ∧ 0 ≤ M ∧ M < L ∧ IntKind.u64.wrap L = L ∧ wrap64 M = M ∧ btw M 0 (L - 1) = true := by
  have hw : ∀ x : Int, IntKind.u64.wrap x = x % 18446744073709551616 := fun x => by
    unfold IntKind.wrap
    simp [IntKind.signed, IntKind.bits]
  have hU : 0 ≤ IntKind.u64.wrap q3 := by rw [hw]; exact Int.emod_nonneg _ (by decide)
  have hM0 : 0 ≤ (IntKind.u64.wrap q3).tmod L := Int.tmod_nonneg _ hU
  have hM1 : (IntKind.u64.wrap q3).tmod L < L := Int.tmod_lt_of_pos _ (by omega)
  refine ⟨_, _, rfl, rfl, hM0, hM1, by rw [hw]; omega, ?_, ?_⟩
  · unfold wrap64; omega
  · unfold btw; rw [decide_eq_true hM0, decide_eq_true (by omega)]; rfl
set_option linter.unnecessarySimpa false
set_option maxRecDepth 100000 in
set_option maxHeartbeats 4000000 in
theorem right_r (L : Int) (a : Option Addr) (js : List Int) (ca : Nat) (aa : Option Addr) (l : List Sgn) (cl : Nat) (ae : Option Addr) (q : List Edc) (cq : Nat) (q0 q1 q2 q3 : Int) (w : World) (hI : IntsS w a js) (hA : SgnS w aa l) (hE : EdS w ae q) : Calls Tryz.prog 17 #[.agg #[.int .i64 L, .slice a js.length ca, .slice aa l.length cl, .slice ae q.length cq, .int .i64 q0, .int .i64 q1, .int .i64 q2, .int .i64 q3]] w (RgtE L js l q q0 q1 q2 w) := by
  have HH := Lib.hid (fun W (hW : Below w.heap.size w W) => Heavy_any L a js ca aa l cl ae q cq q0 q1 q2 q3 W (hI.below hW) (hA.below hW) (hE.below hW))
  have HS := Lib.hid (fun W (hW : Below w.heap.size w W) => refValidSigns_r L a js ca aa l cl W (hI.below hW) (hA.below hW))
  have HE := Lib.hid (fun W (hW : Below w.heap.size w W) => refValidEdicts_r L a js ca ae q cq W (hI.below hW) (hE.below hW))
  have K0 := Lib.hid (fun W => hour_r q0 W)
  have K1 := Lib.hid (fun W => way_r q1 W)
  have K2 := Lib.hid (fun W => topic_r q2 W)
  clear hI hA hE
  obtain ⟨s1, h⟩ : ∃ s1, sgnsB L js l = s1 := ⟨_, rfl⟩
  rw [h] at HS
  have HS1 := Lib.hid h
  clear h
  obtain ⟨s2, h⟩ : ∃ s2, edcsB L js q = s2 := ⟨_, rfl⟩
  rw [h] at HE
  have HS2 := Lib.hid h
  clear h
  obtain ⟨s3, h⟩ : ∃ s3, btw q0 0 10000000 = s3 := ⟨_, rfl⟩
  rw [h] at K0
  have HS3 := Lib.hid h
  clear h
  obtain ⟨s4, h⟩ : ∃ s4, dirB q1 = s4 := ⟨_, rfl⟩
  rw [h] at K1
  have HS4 := Lib.hid h
  clear h
  obtain ⟨s5, h⟩ : ∃ s5, topB q2 = s5 := ⟨_, rfl⟩
  rw [h] at K2
  have HS5 := Lib.hid h
  clear h
  go_enter Tryz.func17, Tryz.ntmps17
  go_wp2_with fail
  obtain ⟨wB, hwB⟩ : ∃ wB, w.alloc (.cells #[.int .i64 L, .slice a js.length ca, .slice aa l.length cl, .slice ae q.length cq, .int .i64 q0, .int .i64 q1, .int .i64 q2, .int .i64 q3] 28) = wB := ⟨_, rfl⟩
  have hb : Below w.heap.size w wB := by rw [← hwB]; exact (Below.refl _ _).alloc (Nat.le_refl _) _
  have p0 : wB.cell? ⟨w.heap.size, 0, none⟩ = some (.int .i64 L) := by rw [← hwB]; simp [go_sem]
  have p1 : wB.cell? ⟨w.heap.size, 1, none⟩ = some (.slice a js.length ca) := by rw [← hwB]; simp [go_sem]
  have p2 : wB.cell? ⟨w.heap.size, 2, none⟩ = some (.slice aa l.length cl) := by rw [← hwB]; simp [go_sem]
  have p3 : wB.cell? ⟨w.heap.size, 3, none⟩ = some (.slice ae q.length cq) := by rw [← hwB]; simp [go_sem]
  have p4 : wB.cell? ⟨w.heap.size, 4, none⟩ = some (.int .i64 q0) := by rw [← hwB]; simp [go_sem]
  have p5 : wB.cell? ⟨w.heap.size, 5, none⟩ = some (.int .i64 q1) := by rw [← hwB]; simp [go_sem]
  have p6 : wB.cell? ⟨w.heap.size, 6, none⟩ = some (.int .i64 q2) := by rw [← hwB]; simp [go_sem]
  have p7 : wB.cell? ⟨w.heap.size, 7, none⟩ = some (.int .i64 q3) := by rw [← hwB]; simp [go_sem]
  rw [hwB]
  clear hwB
  refine (HH.out _ hb).mono ?_
  rintro e wX ⟨bv, hHv, rfl, hb1⟩
  replace p0 := cell_below p0 hb1
  replace p1 := cell_below p1 hb1
  replace p2 := cell_below p2 hb1
  replace p3 := cell_below p3 hb1
  replace p4 := cell_below p4 hb1
  replace p5 := cell_below p5 hb1
  replace p6 := cell_below p6 hb1
  replace p7 := cell_below p7 hb1
  have hbw := hb.trans (hb1.mono hb.size)
  clear HH hb1 hHv
  cases bv with
  | true =>
    go_wp2_with fail
    go_ret
    exact ⟨false, (fun h => by cases h), rfl, hbw⟩
  | false =>
    cases s1 with
    | false =>
      go_wp2_with (first | (go_at_call 34; refine (HS.out _ hbw).mono ?_; rintro e w9 ⟨rfl, hb9⟩; replace hbw := hbw.trans (hb9.mono hbw.size); replace p0 := cell_below p0 hb9; replace p1 := cell_below p1 hb9; replace p2 := cell_below p2 hb9; replace p3 := cell_below p3 hb9; replace p4 := cell_below p4 hb9; replace p5 := cell_below p5 hb9; replace p6 := cell_below p6 hb9; replace p7 := cell_below p7 hb9; clear hb9) | (go_at_call 35; refine (HE.out _ hbw).mono ?_; rintro e w9 ⟨rfl, hb9⟩; replace hbw := hbw.trans (hb9.mono hbw.size); replace p0 := cell_below p0 hb9; replace p1 := cell_below p1 hb9; replace p2 := cell_below p2 hb9; replace p3 := cell_below p3 hb9; replace p4 := cell_below p4 hb9; replace p5 := cell_below p5 hb9; replace p6 := cell_below p6 hb9; replace p7 := cell_below p7 hb9; clear hb9) | (go_at_call 11; refine (K0.out _).mono ?_; rintro e w9 ⟨rfl, rfl⟩) | (go_at_call 43; refine (K1.out _).mono ?_; rintro e w9 ⟨rfl, rfl⟩) | (go_at_call 44; refine (K2.out _).mono ?_; rintro e w9 ⟨rfl, rfl⟩))
      go_ret
      exact ⟨false, (fun h => by cases h), rfl, hbw⟩
    | true =>
      cases s2 with
      | false =>
        go_wp2_with (first | (go_at_call 34; refine (HS.out _ hbw).mono ?_; rintro e w9 ⟨rfl, hb9⟩; replace hbw := hbw.trans (hb9.mono hbw.size); replace p0 := cell_below p0 hb9; replace p1 := cell_below p1 hb9; replace p2 := cell_below p2 hb9; replace p3 := cell_below p3 hb9; replace p4 := cell_below p4 hb9; replace p5 := cell_below p5 hb9; replace p6 := cell_below p6 hb9; replace p7 := cell_below p7 hb9; clear hb9) | (go_at_call 35; refine (HE.out _ hbw).mono ?_; rintro e w9 ⟨rfl, hb9⟩; replace hbw := hbw.trans (hb9.mono hbw.size); replace p0 := cell_below p0 hb9; replace p1 := cell_below p1 hb9; replace p2 := cell_below p2 hb9; replace p3 := cell_below p3 hb9; replace p4 := cell_below p4 hb9; replace p5 := cell_below p5 hb9; replace p6 := cell_below p6 hb9; replace p7 := cell_below p7 hb9; clear hb9) | (go_at_call 11; refine (K0.out _).mono ?_; rintro e w9 ⟨rfl, rfl⟩) | (go_at_call 43; refine (K1.out _).mono ?_; rintro e w9 ⟨rfl, rfl⟩) | (go_at_call 44; refine (K2.out _).mono ?_; rintro e w9 ⟨rfl, rfl⟩))
        go_ret
        exact ⟨false, (fun h => by cases h), rfl, hbw⟩
      | true =>
        by_cases h2 : L ≤ 200
        · have d2 : decide (L ≤ 200) = true := decide_eq_true h2
          cases s3 with
          | false =>
            go_wp2_with (first | (go_at_call 34; refine (HS.out _ hbw).mono ?_; rintro e w9 ⟨rfl, hb9⟩; replace hbw := hbw.trans (hb9.mono hbw.size); replace p0 := cell_below p0 hb9; replace p1 := cell_below p1 hb9; replace p2 := cell_below p2 hb9; replace p3 := cell_below p3 hb9; replace p4 := cell_below p4 hb9; replace p5 := cell_below p5 hb9; replace p6 := cell_below p6 hb9; replace p7 := cell_below p7 hb9; clear hb9) | (go_at_call 35; refine (HE.out _ hbw).mono ?_; rintro e w9 ⟨rfl, hb9⟩; replace hbw := hbw.trans (hb9.mono hbw.size); replace p0 := cell_below p0 hb9; replace p1 := cell_below p1 hb9; replace p2 := cell_below p2 hb9; replace p3 := cell_below p3 hb9; replace p4 := cell_below p4 hb9; replace p5 := cell_below p5 hb9; replace p6 := cell_below p6 hb9; replace p7 := cell_below p7 hb9; clear hb9) | (go_at_call 11; refine (K0.out _).mono ?_; rintro e w9 ⟨rfl, rfl⟩) | (go_at_call 43; refine (K1.out _).mono ?_; rintro e w9 ⟨rfl, rfl⟩) | (go_at_call 44; refine (K2.out _).mono ?_; rintro e w9 ⟨rfl, rfl⟩))
            go_ret
            exact ⟨false, (fun h => by cases h), rfl, hbw⟩
          | true =>
            cases s4 with
            | false =>
              go_wp2_with (first | (go_at_call 34; refine (HS.out _ hbw).mono ?_; rintro e w9 ⟨rfl, hb9⟩; replace hbw := hbw.trans (hb9.mono hbw.size); replace p0 := cell_below p0 hb9; replace p1 := cell_below p1 hb9; replace p2 := cell_below p2 hb9; replace p3 := cell_below p3 hb9; replace p4 := cell_below p4 hb9; replace p5 := cell_below p5 hb9; replace p6 := cell_below p6 hb9; replace p7 := cell_below p7 hb9; clear hb9) | (go_at_call 35; refine (HE.out _ hbw).mono ?_; rintro e w9 ⟨rfl, hb9⟩; replace hbw := hbw.trans (hb9.mono hbw.size); replace p0 := cell_below p0 hb9; replace p1 := cell_below p1 hb9; replace p2 := cell_below p2 hb9; replace p3 := cell_below p3 hb9; replace p4 := cell_below p4 hb9; replace p5 := cell_below p5 hb9; replace p6 := cell_below p6 hb9; replace p7 := cell_below p7 hb9; clear hb9) | (go_at_call 11; refine (K0.out _).mono ?_; rintro e w9 ⟨rfl, rfl⟩) | (go_at_call 43; refine (K1.out _).mono ?_; rintro e w9 ⟨rfl, rfl⟩) | (go_at_call 44; refine (K2.out _).mono ?_; rintro e w9 ⟨rfl, rfl⟩))
              go_ret
              exact ⟨false, (fun h => by cases h), rfl, hbw⟩
            | true =>
              cases s5 with
              | false =>
                go_wp2_with (first | (go_at_call 34; refine (HS.out _ hbw).mono ?_; rintro e w9 ⟨rfl, hb9⟩; replace hbw := hbw.trans (hb9.mono hbw.size); replace p0 := cell_below p0 hb9; replace p1 := cell_below p1 hb9; replace p2 := cell_below p2 hb9; replace p3 := cell_below p3 hb9; replace p4 := cell_below p4 hb9; replace p5 := cell_below p5 hb9; replace p6 := cell_below p6 hb9; replace p7 := cell_below p7 hb9; clear hb9) | (go_at_call 35; refine (HE.out _ hbw).mono ?_; rintro e w9 ⟨rfl, hb9⟩; replace hbw := hbw.trans (hb9.mono hbw.size); replace p0 := cell_below p0 hb9; replace p1 := cell_below p1 hb9; replace p2 := cell_below p2 hb9; replace p3 := cell_below p3 hb9; replace p4 := cell_below p4 hb9; replace p5 := cell_below p5 hb9; replace p6 := cell_below p6 hb9; replace p7 := cell_below p7 hb9; clear hb9) | (go_at_call 11; refine (K0.out _).mono ?_; rintro e w9 ⟨rfl, rfl⟩) | (go_at_call 43; refine (K1.out _).mono ?_; rintro e w9 ⟨rfl, rfl⟩) | (go_at_call 44; refine (K2.out _).mono ?_; rintro e w9 ⟨rfl, rfl⟩))
                go_ret
                exact ⟨false, (fun h => by cases h), rfl, hbw⟩
              | true =>
                go_wp2_with (first | (go_at_call 34; refine (HS.out _ hbw).mono ?_; rintro e w9 ⟨rfl, hb9⟩; replace hbw := hbw.trans (hb9.mono hbw.size); replace p0 := cell_below p0 hb9; replace p1 := cell_below p1 hb9; replace p2 := cell_below p2 hb9; replace p3 := cell_below p3 hb9; replace p4 := cell_below p4 hb9; replace p5 := cell_below p5 hb9; replace p6 := cell_below p6 hb9; replace p7 := cell_below p7 hb9; clear hb9) | (go_at_call 35; refine (HE.out _ hbw).mono ?_; rintro e w9 ⟨rfl, hb9⟩; replace hbw := hbw.trans (hb9.mono hbw.size); replace p0 := cell_below p0 hb9; replace p1 := cell_below p1 hb9; replace p2 := cell_below p2 hb9; replace p3 := cell_below p3 hb9; replace p4 := cell_below p4 hb9; replace p5 := cell_below p5 hb9; replace p6 := cell_below p6 hb9; replace p7 := cell_below p7 hb9; clear hb9) | (go_at_call 11; refine (K0.out _).mono ?_; rintro e w9 ⟨rfl, rfl⟩) | (go_at_call 43; refine (K1.out _).mono ?_; rintro e w9 ⟨rfl, rfl⟩) | (go_at_call 44; refine (K2.out _).mono ?_; rintro e w9 ⟨rfl, rfl⟩))
                go_ret
                exact ⟨true, fun _ => ⟨lst_zero HS1.out HS2.out, h2, HS3.out, HS4.out, HS5.out⟩, rfl, hbw⟩
        · have d2 : decide (L ≤ 200) = false := decide_eq_false h2
          go_wp2_with (first | (go_at_call 34; refine (HS.out _ hbw).mono ?_; rintro e w9 ⟨rfl, hb9⟩; replace hbw := hbw.trans (hb9.mono hbw.size); replace p0 := cell_below p0 hb9; replace p1 := cell_below p1 hb9; replace p2 := cell_below p2 hb9; replace p3 := cell_below p3 hb9; replace p4 := cell_below p4 hb9; replace p5 := cell_below p5 hb9; replace p6 := cell_below p6 hb9; replace p7 := cell_below p7 hb9; clear hb9) | (go_at_call 35; refine (HE.out _ hbw).mono ?_; rintro e w9 ⟨rfl, hb9⟩; replace hbw := hbw.trans (hb9.mono hbw.size); replace p0 := cell_below p0 hb9; replace p1 := cell_below p1 hb9; replace p2 := cell_below p2 hb9; replace p3 := cell_below p3 hb9; replace p4 := cell_below p4 hb9; replace p5 := cell_below p5 hb9; replace p6 := cell_below p6 hb9; replace p7 := cell_below p7 hb9; clear hb9) | (go_at_call 11; refine (K0.out _).mono ?_; rintro e w9 ⟨rfl, rfl⟩) | (go_at_call 43; refine (K1.out _).mono ?_; rintro e w9 ⟨rfl, rfl⟩) | (go_at_call 44; refine (K2.out _).mono ?_; rintro e w9 ⟨rfl, rfl⟩))
          go_ret
          exact ⟨false, (fun h => by cases h), rfl, hbw⟩
end Go.Proofs.YtlpdjinhkmgbgaaGreatDoor

namespace Go.Proofs.YtlpdjinhkmgbgaaGreatDoor
set_option linter.unusedVariables false
set_option linter.unusedSimpArgs false
open Go.RowKit

theorem gapK_mem {L : Int} {js : List Int} {l : List Sgn} {q : List Edc} {h : Int} {p : Gp6} : ∀ {k}, p ∈ gapK L js l q h k → ∃ i, i < k ∧ p.1 = tpK i ∧ p.2.1 = drK i
  | 0, hp => by cases hp
  | k + 1, hp => by
    rw [gapK, List.mem_append] at hp
    rcases hp with hp | hp
    · obtain ⟨i, hi, e⟩ := gapK_mem hp
      exact ⟨i, by omega, e⟩
    · unfold gapW at hp
      obtain ⟨x, -, rfl⟩ := List.mem_map.1 hp
      exact ⟨k, by omega, rfl, rfl⟩
theorem way_ne {i k : Nat} (hi : i < k) (hk : k < 4) (h1 : tpK i = tpK k) (h2 : drK i = drK k) : False := by
  unfold tpK drK at *
  rcases (by omega : k = 1 ∨ k = 2 ∨ k = 3) with rfl | rfl | rfl
  · obtain rfl : i = 0 := by omega
    simp at h2
  · rcases (by omega : i = 0 ∨ i = 1) with rfl | rfl
    · simp at h1
    · simp at h1
  · rcases (by omega : i = 0 ∨ i = 1 ∨ i = 2) with rfl | rfl | rfl
    · simp at h1
    · simp at h1
    · simp at h2
/-- Does a gap go on at a metre? -/
def onB (T D : Int) (p : Gp6) (m : Int) (v : Int × Int) : Bool := (p.1 == T) && ((p.2.1 == D) && ((p.2.2.2.1 == m) && ((p.2.2.2.2.1 == v.1) && (p.2.2.2.2.2 == v.2))))
/-- One metre more with a gap. -/
def stp6 (T D : Int) (out : List Gp6) (m : Int) (v : Int × Int) : List Gp6 :=
  if 0 < out.length ∧ onB T D (gg6 out (out.length - 1)) m v = true then out.set (out.length - 1) ((gg6 out (out.length - 1)).1, (gg6 out (out.length - 1)).2.1, (gg6 out (out.length - 1)).2.2.1, m + 1, (gg6 out (out.length - 1)).2.2.2.2.1, (gg6 out (out.length - 1)).2.2.2.2.2) else out ++ [(T, D, m, m + 1, v.1, v.2)]
theorem gg6_snoc (pre : List Gp6) (p : Gp6) : gg6 (pre ++ [p]) ((pre ++ [p]).length - 1) = p := by unfold gg6; simp
theorem gg6_mem {l : List Gp6} (h : 0 < l.length) : gg6 l (l.length - 1) ∈ l := by
  unfold gg6
  rw [List.getD_eq_getElem?_getD, List.getElem?_eq_getElem (by omega)]
  exact List.getElem_mem _
theorem stp6_map {T D : Int} {G0 : List Gp6} (hG : ∀ p, p ∈ G0 → ¬ (p.1 = T ∧ p.2.1 = D)) (acc : List Qud) (m : Int) (v : Int × Int) (hv : skG v = false) :
    stp6 T D (G0 ++ acc.map fun p => ((T, D, p) : Gp6)) m v = G0 ++ (st1V skG acc m v).map fun p => ((T, D, p) : Gp6) := by
  unfold st1V
  rw [if_neg (by rw [hv]; simp)]
  rcases List.eq_nil_or_concat acc with rfl | ⟨pre, x, rfl⟩
  · unfold stp6
    rw [if_neg]
    · rw [if_neg (by simp)]
      simp
    · rintro ⟨h1, h2⟩
      simp only [List.map_nil, List.append_nil] at h1 h2
      unfold onB at h2
      simp only [Bool.and_eq_true, beq_iff_eq] at h2
      exact hG _ (gg6_mem h1) ⟨h2.1, h2.2.1⟩
  · rw [List.concat_eq_append, gtV_snoc, set_snoc, List.map_append, ← List.append_assoc]
    simp only [List.map_cons, List.map_nil]
    unfold stp6
    rw [gg6_snoc, set_snoc]
    obtain ⟨x0, y0, a0, b0⟩ := x
    by_cases hh : y0 = m ∧ (a0, b0) = v
    · obtain ⟨rfl, rfl⟩ := hh
      rw [if_pos ⟨by simp; omega, by unfold onB; simp⟩, if_pos ⟨by simp, rfl, rfl⟩]
      simp
    · rw [if_neg, if_neg]
      · simp
      · rintro ⟨-, h1, h2⟩
        exact hh ⟨h1, h2⟩
      · rintro ⟨-, h2⟩
        unfold onB at h2
        simp only [Bool.and_eq_true, beq_iff_eq] at h2
        exact hh ⟨h2.2.2.1, Prod.ext h2.2.2.2.1 h2.2.2.2.2⟩
theorem cl6_set : ∀ (s : List Gp6) (i : Nat) (b : Int), i < s.length → (cl6 s).set (i * 6 + 3) (.int .i64 b) = cl6 (s.set i ((gg6 s i).1, (gg6 s i).2.1, (gg6 s i).2.2.1, b, (gg6 s i).2.2.2.2.1, (gg6 s i).2.2.2.2.2))
  | [], i, b, hi => by simp at hi
  | p :: s, 0, b, hi => by simp [cl6, gg6]
  | p :: s, i + 1, b, hi => by
    have ih := cl6_set s i b (by simpa using hi)
    unfold cl6 gg6 at *
    rw [List.flatMap_cons, List.set_append_right _ _ (by simp; omega), show (i + 1) * 6 + 3 - [Value.int .i64 p.1, .int .i64 p.2.1, .int .i64 p.2.2.1, .int .i64 p.2.2.2.1, .int .i64 p.2.2.2.2.1, .int .i64 p.2.2.2.2.2].length = i * 6 + 3 from by simp; omega, ih]
    rfl
theorem stp6_len (T D : Int) (out : List Gp6) (m : Int) (v : Int × Int) : (stp6 T D out m v).length ≤ out.length + 1 := by
  unfold stp6; split
  · simp
  · simp
theorem heap_set6 {w : World} {B : Nat} {T : TypeId} {z0 z1 z2 z3 z4 z5 : Value} (h : w.heap[B]? = some (.cells #[z0, z1, z2, z3, z4, z5] T)) (v0 v1 v2 v3 v4 v5 : Value) :
    (((((((w.setCell ⟨B, 0, none⟩ v0).setCell ⟨B, 1, none⟩ v1).setCell ⟨B, 2, none⟩ v2).setCell ⟨B, 3, none⟩ v3).setCell ⟨B, 4, none⟩ v4).setCell ⟨B, 5, none⟩ v5)).heap[B]? = some (.cells #[v0, v1, v2, v3, v4, v5] T) := by
  have e0 := heap_setCell_same w B 0 _ T v0 h
  have e1 := heap_setCell_same _ B 1 _ T v1 e0
  have e2 := heap_setCell_same _ B 2 _ T v2 e1
  have e3 := heap_setCell_same _ B 3 _ T v3 e2
  have e4 := heap_setCell_same _ B 4 _ T v4 e3
  exact heap_setCell_same _ B 5 _ T v5 e4
set_option maxRecDepth 100000 in
set_option maxHeartbeats 4000000 in
theorem refCompare_r (N : Nat) (a : Option Addr) (js : List Int) (ca : Nat) (aa : Option Addr) (l : List Sgn) (cl : Nat) (ae : Option Addr) (q : List Edc) (cq : Nat) (h : Int) (hV : lstE N js l q = 0) (hN5 : N ≤ 500) (w : World) (hI : IntsS w a js) (hA : SgnS w aa l) (hE : EdS w ae q) :
    Calls Tryz.prog 13 #[.agg #[.int .i64 N, .slice a js.length ca], .slice aa l.length cl, .slice ae q.length cq, .int .i64 h] w fun e w' => ∃ b c, e = .returned (.slice b (gapK N js l q h 4).length c) ∧ GapS w' b (gapK N js l q h 4) ∧ Below w.heap.size w w' := by
  have hV1 : lstE N js l [] = 0 := (lst_iff N js l).2 (lst_sgns hV)
  have hV2 : lstE N js [] q = 0 := lst_zero (by rw [sgns_nil]; exact edcs_line (lst_edcs hV)) (lst_edcs hV)
  have HAl0 := Lib.hid (fun T D W (hT : topB T = true) (hW : Below w.heap.size w W) => refAllO_r N a js ca aa l cl h D T hV1 hT W (hI.below hW) (hA.below hW))
  have HMu0 := Lib.hid (fun T D W (hW : Below w.heap.size w W) => refMustsO_r N a js ca ae q cq h D T hV2 W (hE.below hW))
  have HGk : Hid (∀ (k : Nat) (p : Gp6), p ∈ gapK N js l q h k → ∃ i, i < k ∧ p.1 = tpK i ∧ p.2.1 = drK i) := Lib.hid fun k p hp => gapK_mem hp
  obtain ⟨n0, hi, hz0, hz1, hz2⟩ := info_parts gapInfo
  clear hI hA hE hV hV1 hV2
  go_enter Tryz.func13, Tryz.ntmps13
  go_upto_region 1 with (fail)
  obtain ⟨wB, hwB⟩ : ∃ wB, w.alloc (.cells #[.int .i64 N, .slice a js.length ca] 24) = wB := ⟨_, rfl⟩
  have hb : Below w.heap.size w wB := by rw [← hwB]; exact (Below.refl _ _).alloc (Nat.le_refl _) _
  have l0 : wB.cell? ⟨w.heap.size, 0, none⟩ = some (.int .i64 N) := by rw [← hwB]; simp [go_sem]
  have l1 : wB.cell? ⟨w.heap.size, 1, none⟩ = some (.slice a js.length ca) := by rw [← hwB]; simp [go_sem]
  rw [hwB]
  clear hwB
  have L0 := Lib.hid l0
  have L1 := Lib.hid l1
  have HB := Lib.hid hb
  clear l0 l1 hb
  have HKL : Hid (∀ k, (gapK N js l q h k).length ≤ 500 * k) := Lib.hid fun k => by
    induction k with
    | zero => simp [gapK]
    | succ k ih =>
      rw [gapK, List.length_append]
      have : (gapW N js l q h (tpK k) (drK k)).length ≤ 500 := by
        unfold gapW
        rw [List.length_map]
        have hs : ∀ n : Nat, (strV skG (bothF N js l q h (tpK k) (drK k)) n).length ≤ n := fun n => by
          induction n with
          | zero => simp [strV]
          | succ n ih =>
            rw [strV]
            unfold st1V
            split
            · omega
            · split
              · simp; omega
              · simp; omega
        have := hs (N : Int).toNat
        omega
      omega
  go_wp2_with fail
  go_loopw [9, 10] (fun v i wr => ∃ (t : Nat) (av : Option Addr) (cv : Nat), t ≤ 2 ∧ i = .int .i64 ((t : Int) + 1) ∧ v = .slice av (gapK N js l q h (2 * t)).length cv ∧ Hid (wr.ownsRow wB.heap.size 52 6 (.slice av (gapK N js l q h (2 * t)).length cv) (gapK N js l q h (2 * t)).length (cl6 (gapK N js l q h (2 * t)))) ∧ Below wB.heap.size wB wr) (fun _ i _ => (4 - intOf i).toNat)
  case atStart => exact ⟨0, none, 0, by omega, by congr 1, rfl, Lib.hid (World.ownsRow_nil _ _ _ _), Below.refl _ _⟩
  case round =>
    obtain ⟨t, av0, cv0, ht, rfl, rfl, HRow0, hbr0⟩ := hrel
    by_cases htl : t < 2
    · obtain ⟨T, hT⟩ : ∃ T : Int, (t : Int) + 1 = T := ⟨_, rfl⟩
      have hTb : 1 ≤ T ∧ T ≤ 2 := by omega
      have HT := Lib.hid hT
      have HTB : Hid (topB T = true) := Lib.hid (by
        rcases (by omega : T = 1 ∨ T = 2) with e | e
        · rw [e]; rfl
        · rw [e]; rfl)
      have HAl1 := Lib.hid (fun D W (hW : Below w.heap.size w W) => HAl0.out T D W HTB.out hW)
      have HMu1 := Lib.hid (fun D W (hW : Below w.heap.size w W) => HMu0.out T D W hW)
      rw [hT]
      clear hT
      go_wp2_with fail
      go_loopw [9, 11] (fun v i wr => ∃ (d : Nat) (av : Option Addr) (cv : Nat), d ≤ 2 ∧ i = .int .i64 (1 - 2 * (d : Int)) ∧ v = .slice av (gapK N js l q h (2 * t + d)).length cv ∧ Hid (wr.ownsRow wB.heap.size 52 6 (.slice av (gapK N js l q h (2 * t + d)).length cv) (gapK N js l q h (2 * t + d)).length (cl6 (gapK N js l q h (2 * t + d)))) ∧ Below wB.heap.size wB wr) (fun _ i _ => (intOf i + 4).toNat)
      case atStart => exact ⟨0, av0, cv0, by omega, by congr 1, rfl, HRow0, hbr0⟩
      case round =>
        obtain ⟨d, av1, cv1, hd, rfl, rfl, HRow1, hbr1⟩ := hrel
        by_cases hdl : d < 2
        · obtain ⟨D, hD⟩ : ∃ D : Int, 1 - 2 * (d : Int) = D := ⟨_, rfl⟩
          have hDb : -1 ≤ D ∧ D ≤ 1 := by omega
          have HD := Lib.hid hD
          rw [hD]
          have HTD : Hid (tpK (2 * t + d) = T ∧ drK (2 * t + d) = D) := Lib.hid (by
            have h1 := HT.out
            unfold tpK drK
            rcases (by omega : t = 0 ∨ t = 1) with rfl | rfl
            · rcases (by omega : d = 0 ∨ d = 1) with rfl | rfl
              · exact ⟨by rw [if_pos (by omega)]; omega, by rw [if_pos (by omega)]; omega⟩
              · exact ⟨by rw [if_pos (by omega)]; omega, by rw [if_neg (by omega)]; omega⟩
            · rcases (by omega : d = 0 ∨ d = 1) with rfl | rfl
              · exact ⟨by rw [if_neg (by omega)]; omega, by rw [if_pos (by omega)]; omega⟩
              · exact ⟨by rw [if_neg (by omega)]; omega, by rw [if_neg (by omega)]; omega⟩)
          have HG0 : Hid (∀ p, p ∈ gapK N js l q h (2 * t + d) → ¬ (p.1 = T ∧ p.2.1 = D)) := Lib.hid fun p hp e => by
            obtain ⟨i, hi9, e1, e2⟩ := HGk.out _ _ hp
            exact way_ne hi9 (by omega) (by rw [← e1, e.1, HTD.out.1]) (by rw [← e2, e.2, HTD.out.2])
          have HSt : Hid (gapK N js l q h (2 * t + (d + 1)) = gapK N js l q h (2 * t + d) ++ (strV skG (bothF N js l q h T D) N).map (fun p => ((T, D, p) : Gp6))) := Lib.hid (by
            rw [← Nat.add_assoc, gapK, HTD.out.1, HTD.out.2]
            unfold gapW
            rw [Int.toNat_natCast])
          have hg0 := HKL.out (2 * t + d)
          have HAl := Lib.hid (fun W (hW : Below w.heap.size w W) => HAl1.out D W hW)
          have HMu := Lib.hid (fun W (hW : Below w.heap.size w W) => HMu1.out D W hW)
          obtain ⟨G0, hG0⟩ : ∃ G0, gapK N js l q h (2 * t + d) = G0 := ⟨_, rfl⟩
          rw [hG0] at HG0 HSt hg0 HRow1 ⊢
          have hG5 : G0.length ≤ 2000 := by omega
          clear hG0 hD HAl0 HMu0 HAl1 HMu1 HGk HTD HTB hg0
          have l0 := cell_below L0.out hbr1
          have l1 := cell_below L1.out hbr1
          have hzl := block_lt l0
          have hbw := HB.out.trans (hbr1.mono HB.out.size)
          go_upto_region 8 with (fail)
          refine wp_region_held_drew (S := fun w' => Below wr.heap.size wr w') (by kernel_rfl) ((Below.refl _ _).drew) (fun hHeld => ?_)
          refine wpAnyH_take (i := 0) (oi := { dst := some 25, op := Go.Op.load 24 (Go.Operand.tmp 4), type := 24, pos := "ref.go:251", after := #[], guard := none }) (v := .agg #[.int .i64 N, .slice a js.length ca]) rfl (by kernel_rfl) (by kernel_rfl) (by kernel_rfl) (fun _ _ _ h => h) (.inl ⟨by kernel_rfl, fun w9 h9 => by
            clear hHeld
            have d0 := (h9.cell (p := ⟨w.heap.size, 0, none⟩) hzl).trans l0
            have d1 := (h9.cell (p := ⟨w.heap.size, 1, none⟩) hzl).trans l1
            clear h9
            go_simp⟩) hHeld ?_
          refine takeU (i := 1) (some 26) (.slice aa l.length cl) (by kernel_rfl) (by kernel_rfl) (by kernel_rfl) (by kernel_rfl) (by kernel_rfl) (fun _ => by kernel_rfl) (fun _ _ _ h => h) hHeld ?_
          refine takeU (i := 2) (some 27) (.int .i64 h) (by kernel_rfl) (by kernel_rfl) (by kernel_rfl) (by kernel_rfl) (by kernel_rfl) (fun _ => by kernel_rfl) (fun _ _ _ h => h) hHeld ?_
          refine takeU (i := 3) (some 28) (.int .i64 D) (by kernel_rfl) (by kernel_rfl) (by kernel_rfl) (by kernel_rfl) (by kernel_rfl) (fun _ => by kernel_rfl) (fun _ _ _ h => h) hHeld ?_
          refine takeU (i := 4) (some 29) (.int .i64 T) (by kernel_rfl) (by kernel_rfl) (by kernel_rfl) (by kernel_rfl) (by kernel_rfl) (fun _ => by kernel_rfl) (fun _ _ _ h => h) hHeld ?_
          refine wpAnyH_take (i := 6) (oi := { dst := some 31, op := Go.Op.load 24 (Go.Operand.tmp 4), type := 24, pos := "ref.go:251", after := #[], guard := none }) (v := .agg #[.int .i64 N, .slice a js.length ca]) rfl (by kernel_rfl) (by kernel_rfl) (by kernel_rfl) (fun _ _ _ h => h) (.inl ⟨by kernel_rfl, fun w9 h9 => by
            clear hHeld
            have d0 := (h9.cell (p := ⟨w.heap.size, 0, none⟩) hzl).trans l0
            have d1 := (h9.cell (p := ⟨w.heap.size, 1, none⟩) hzl).trans l1
            clear h9
            go_simp⟩) hHeld ?_
          refine takeU (i := 7) (some 32) (.slice ae q.length cq) (by kernel_rfl) (by kernel_rfl) (by kernel_rfl) (by kernel_rfl) (by kernel_rfl) (fun _ => by kernel_rfl) (fun _ _ _ h => h) hHeld ?_
          refine takeU (i := 8) (some 33) (.int .i64 h) (by kernel_rfl) (by kernel_rfl) (by kernel_rfl) (by kernel_rfl) (by kernel_rfl) (fun _ => by kernel_rfl) (fun _ _ _ h => h) hHeld ?_
          refine takeU (i := 9) (some 34) (.int .i64 D) (by kernel_rfl) (by kernel_rfl) (by kernel_rfl) (by kernel_rfl) (by kernel_rfl) (fun _ => by kernel_rfl) (fun _ _ _ h => h) hHeld ?_
          refine takeU (i := 10) (some 35) (.int .i64 T) (by kernel_rfl) (by kernel_rfl) (by kernel_rfl) (by kernel_rfl) (by kernel_rfl) (fun _ => by kernel_rfl) (fun _ _ _ h => h) hHeld ?_
          try simp only [Act.put, List.setIfInBounds_toArray, List.set_cons_zero, List.set_cons_succ]
          refine wpAnyH_ready (rs := [5]) (by kernel_rfl) (by simp) ?_
          refine AllReadyH.cons (o := { dst := some 30, op := Go.Op.call { callee := Go.Callee.value (Go.Operand.func 36), args := #[Go.Operand.tmp 25, Go.Operand.tmp 26, Go.Operand.tmp 27, Go.Operand.tmp 28, Go.Operand.tmp 29], argTypes := #[24, 25, 3, 3, 3] }, type := 22, pos := "ref.go:251", after := #[{ on := 0, ground := Go.Ground.data }, { on := 1, ground := Go.Ground.data }, { on := 2, ground := Go.Ground.data }, { on := 3, ground := Go.Ground.data }, { on := 4, ground := Go.Ground.data }], guard := none }) rfl (fun K hK => ?_) AllReadyH.nil
          go_simp
          go_at_call 36
          refine (HAl.out _ (hbw.trans (hHeld.mono hbw.size))).mono ?_
          rintro e w59 ⟨ah, ch, rfl, hIh, hOh, hb59⟩
          have HIh := Lib.hid hIh
          have HOh : Hid (∀ x, ah = some x → wr.heap.size ≤ x.block) := Lib.hid fun x hx9 => Nat.le_trans hHeld.size (hOh x hx9)
          clear hIh hOh
          refine hK.out _ _ (hHeld.trans (hb59.mono hHeld.size)) (fun hHeld => ?_)
          clear hK K hb59
          try simp only [Act.put, List.setIfInBounds_toArray, List.set_cons_zero, List.set_cons_succ]
          try simp only [Act.put, List.setIfInBounds_toArray, List.set_cons_zero, List.set_cons_succ]
          refine wpAnyH_ready (rs := [11]) (by kernel_rfl) (by simp) ?_
          refine AllReadyH.cons (o := { dst := some 36, op := Go.Op.call { callee := Go.Callee.value (Go.Operand.func 37), args := #[Go.Operand.tmp 31, Go.Operand.tmp 32, Go.Operand.tmp 33, Go.Operand.tmp 34, Go.Operand.tmp 35], argTypes := #[24, 26, 3, 3, 3] }, type := 22, pos := "ref.go:251", after := #[{ on := 6, ground := Go.Ground.data }, { on := 7, ground := Go.Ground.data }, { on := 8, ground := Go.Ground.data }, { on := 9, ground := Go.Ground.data }, { on := 10, ground := Go.Ground.data }, { on := 5, ground := Go.Ground.chain }], guard := none }) rfl (fun K hK => ?_) AllReadyH.nil
          go_simp
          go_at_call 37
          refine (HMu.out _ (hbw.trans (hHeld.mono hbw.size))).mono ?_
          rintro e w119 ⟨as8, cs8, rfl, hIs, hOs, hb119⟩
          have HIs := Lib.hid hIs
          replace HIh := Lib.hid (HIh.out.below hb119)
          have HOs : Hid (∀ x, as8 = some x → wr.heap.size ≤ x.block) := Lib.hid fun x hx9 => Nat.le_trans hHeld.size (hOs x hx9)
          clear hIs hOs
          refine hK.out _ _ (hHeld.trans (hb119.mono hHeld.size)) (fun hHeld => ?_)
          clear hK K hb119
          try simp only [Act.put, List.setIfInBounds_toArray, List.set_cons_zero, List.set_cons_succ]
          refine takeU (i := 12) (some 12) (.slice ah N ch) (by kernel_rfl) (by kernel_rfl) (by kernel_rfl) (by kernel_rfl) (by kernel_rfl) (fun _ => by kernel_rfl) (fun _ _ _ h => h) hHeld ?_
          refine takeU (i := 13) (some 13) (.slice as8 N cs8) (by kernel_rfl) (by kernel_rfl) (by kernel_rfl) (by kernel_rfl) (by kernel_rfl) (fun _ => by kernel_rfl) (fun _ _ _ h => h) hHeld ?_
          refine wpAnyH_done (by kernel_rfl) ?_ _
          try simp only [Act.put, List.setIfInBounds_toArray, List.set_cons_zero, List.set_cons_succ]
          obtain ⟨wo, rfl⟩ : ∃ wx : World, wx = w119 := ⟨_, rfl⟩
          have HRow2 := Lib.hid (owns_belowI HRow1.out hHeld)
          have HBo := Lib.hid (hbr1.trans (hHeld.mono hbr1.size))
          have HL0 := Lib.hid (cell_below l0 hHeld)
          obtain ⟨-, -, ab, ao, hah, hac⟩ := HIh.out
          obtain ⟨-, -, sb, so, hash, hasc⟩ := HIs.out
          have HCh : Hid (∀ k, k < N → ah = some ⟨ab, ao, none⟩ ∧ wo.cell? ⟨ab, ao + k, none⟩ = some (.int .i64 (bothF N js l q h T D k).1) ∧ as8 = some ⟨sb, so, none⟩ ∧ wo.cell? ⟨sb, so + k, none⟩ = some (.int .i64 (bothF N js l q h T D k).2)) := Lib.hid fun k hk => by
            have e1 : ah = some ⟨ab, ao, none⟩ := hah (fun e => by have := congrArg List.length e; rw [valK_len] at this; simp at this; omega)
            have e2 : as8 = some ⟨sb, so, none⟩ := hash (fun e => by have := congrArg List.length e; rw [valK_len] at this; simp at this; omega)
            have e3 := hac k (by rw [valK_len]; exact hk)
            have e4 := hasc k (by rw [valK_len]; exact hk)
            rw [valK_get _ hk] at e3 e4
            exact ⟨e1, e3, e2, e4⟩
          have HAV : Hid (∀ x, av1 = some x → x.block < wr.heap.size) := Lib.hid fun x hx9 => (own_lt HRow1.out x hx9).2.2
          have HabF : Hid (∀ k, k < N → (∀ x, av1 = some x → x.block ≠ ab) ∧ (∀ x, av1 = some x → x.block ≠ sb)) := Lib.hid fun k hk => by
            obtain ⟨e1, -, e3, -⟩ := HCh.out k hk
            have f1 := HOh.out _ e1
            have f2 := HOs.out _ e3
            refine ⟨fun x hx9 e => ?_, fun x hx9 e => ?_⟩
            · have := HAV.out x hx9
              have f1 : wr.heap.size ≤ ab := f1
              omega
            · have := HAV.out x hx9
              have f2 : wr.heap.size ≤ sb := f2
              omega
          have HMap0 : Hid (G0 ++ (strV skG (bothF N js l q h T D) 0).map (fun p => ((T, D, p) : Gp6)) = G0) := Lib.hid (by simp [strV])
          have HLn : Hid (∀ k, k ≤ N → (G0 ++ (strV skG (bothF N js l q h T D) k).map (fun p => ((T, D, p) : Gp6))).length ≤ 2500) := Lib.hid fun k hk => by
            have hs : ∀ n : Nat, (strV skG (bothF N js l q h T D) n).length ≤ n := fun n => by
              induction n with
              | zero => simp [strV]
              | succ n ih =>
                rw [strV]
                unfold st1V
                split
                · omega
                · split
                  · simp; omega
                  · simp; omega
            have := hs k
            rw [List.length_append, List.length_map]
            omega
          clear HIh HIs HOh HOs hah hac hash hasc hHeld l0 l1 hzl hbw HRow1 hbr1 HAl HMu HAV HKL
          go_wp2_with fail
          go_loopw [9, 14] (fun v i wr => ∃ (k : Nat) (av : Option Addr) (cv : Nat), k ≤ N ∧ i = .int .i64 k ∧ v = .slice av (G0 ++ (strV skG (bothF N js l q h T D) k).map (fun p => ((T, D, p) : Gp6))).length cv ∧ Hid (wr.ownsRow wB.heap.size 52 6 (.slice av (G0 ++ (strV skG (bothF N js l q h T D) k).map (fun p => ((T, D, p) : Gp6))).length cv) (G0 ++ (strV skG (bothF N js l q h T D) k).map (fun p => ((T, D, p) : Gp6))).length (cl6 (G0 ++ (strV skG (bothF N js l q h T D) k).map (fun p => ((T, D, p) : Gp6))))) ∧ Hid (∀ B, B < wo.heap.size → (∀ x, av1 = some x → x.block ≠ B) → wr.heap[B]? = wo.heap[B]?) ∧ Hid (∀ x, av = some x → wo.heap.size ≤ x.block ∨ ∃ y, av1 = some y ∧ y.block = x.block) ∧ wo.heap.size ≤ wr.heap.size ∧ Below wB.heap.size wB wr) (fun _ i _ => N - (intOf i).toNat)
          case atStart => exact ⟨0, av1, cv1, Nat.zero_le _, rfl, by rw [HMap0.out], Lib.hid (by rw [HMap0.out]; exact HRow2.out), Lib.hid (fun B _ _ => rfl), Lib.hid (fun x hx9 => .inr ⟨x, hx9, rfl⟩), Nat.le_refl _, HBo.out⟩
          case round =>
            obtain ⟨k, av, cv, hk, rfl, rfl, HRow, HKe, HAp, hwo, hbB⟩ := hrel
            obtain ⟨wr, rfl⟩ : ∃ wx : World, wx = wr := ⟨_, rfl⟩
            have l0 := cell_below L0.out hbB
            have hMl := HLn.out k hk
            by_cases hkl : k < N
            · obtain ⟨rfl, cx, rfl, cy⟩ := HCh.out k hkl
              obtain ⟨f1, f2⟩ := HabF.out k hkl
              have hka := HKe.out ab (block_lt cx) f1
              have hkb := HKe.out sb (block_lt cy) f2
              have cx := (World.cell?_of_block (w := wo) (w' := wr) (a := ⟨ab, ao + k, none⟩) hka).trans cx
              have cy := (World.cell?_of_block (w := wo) (w' := wr) (a := ⟨sb, so + k, none⟩) hkb).trans cy
              have hki : (k : Int) < (N : Int) := by omega
              have HNx : Hid (G0 ++ (strV skG (bothF N js l q h T D) (k + 1)).map (fun p => ((T, D, p) : Gp6)) = G0 ++ (st1V skG (strV skG (bothF N js l q h T D) k) k (bothF N js l q h T D k)).map (fun p => ((T, D, p) : Gp6))) := Lib.hid rfl
              have HSp := Lib.hid (fun v hv => stp6_map HG0.out (strV skG (bothF N js l q h T D) k) k v hv)
              clear hka hkb f1 f2 HCh HabF HSt HMap0 HLn HG0 HRow2 HBo HL0
              obtain ⟨V, hVx⟩ : ∃ V, bothF N js l q h T D k = V := ⟨_, rfl⟩
              rw [hVx] at cx cy HNx
              clear hVx
              obtain ⟨x, y⟩ := V
              have cx : wr.cell? ⟨ab, ao + k, none⟩ = some (.int .i64 x) := cx
              have cy : wr.cell? ⟨sb, so + k, none⟩ = some (.int .i64 y) := cy
              by_cases hxy : x = y
              · have HNn : Hid (G0 ++ (strV skG (bothF N js l q h T D) (k + 1)).map (fun p => ((T, D, p) : Gp6)) = G0 ++ (strV skG (bothF N js l q h T D) k).map (fun p => ((T, D, p) : Gp6))) := Lib.hid (by
                  rw [HNx.out]
                  unfold st1V
                  rw [if_pos (by unfold skG; simpa using hxy)])
                have hb0 : (x == y) = true := by simpa using hxy
                clear hxy HNx HSp
                go_wp2_with fail
                go_quiet (fail)
                go_wp2_with fail
                go_roundw
                case rel => exact ⟨k + 1, av, cv, by omega, by go_num, by rw [HNn.out] <;> simp, Lib.hid (by rw [HNn.out]; exact owns_belowI HRow.out (below_drewN (Below.refl wr.heap.size wr) nq)), HKe, HAp, by simpa using hwo, below_drewN hbB nq⟩
                case measure => simp [intOf]; omega
              · have hb0 : (x == y) = false := beq_false_of_ne hxy
                have HNn : Hid (G0 ++ (strV skG (bothF N js l q h T D) (k + 1)).map (fun p => ((T, D, p) : Gp6)) = stp6 T D (G0 ++ (strV skG (bothF N js l q h T D) k).map (fun p => ((T, D, p) : Gp6))) k (x, y)) := Lib.hid (by rw [HNx.out, HSp.out (x, y) hb0])
                clear hxy HNx HSp
                obtain ⟨M, hM⟩ : ∃ M, G0 ++ (strV skG (bothF N js l q h T D) k).map (fun p => ((T, D, p) : Gp6)) = M := ⟨_, rfl⟩
                rw [hM] at HNn HRow hMl ⊢
                clear hM
                go_wp2_with fail
                go_quiet (fail)
                have hdr := below_drewN (Below.refl wr.heap.size wr) nq
                have HRow := Lib.hid (owns_belowI HRow.out hdr)
                have hbB := below_drewN hbB nq
                have cx := cell_below cx hdr
                have cy := cell_below cy hdr
                have HKe : Hid (∀ B, B < wo.heap.size → (∀ x, av1 = some x → x.block ≠ B) → (wr.drewN nq).heap[B]? = wo.heap[B]?) := HKe
                have hwo : wo.heap.size ≤ (wr.drewN nq).heap.size := by simpa using hwo
                clear l0 hdr
                obtain ⟨wz, hwz⟩ : ∃ wz, wr.drewN nq = wz := ⟨_, rfl⟩
                rw [hwz] at HRow hbB cx cy HKe hwo ⊢
                clear hwz
                have hzx := block_lt cx
                have hzy := block_lt cy
                have hwr : IntKind.i64.wrap ((k : Int) + 1) = (k : Int) + 1 := IntWalk.i64_in _ (by omega)
                go_wp2_with fail
                refine wp_region_held_drew (S := fun w' => Below wz.heap.size wz w') (by kernel_rfl) ((Below.refl _ _).drew) (fun hHeld => ?_)
                refine takeU (i := 0) (some 52) (.int .i64 T) (by kernel_rfl) (by kernel_rfl) (by kernel_rfl) (by kernel_rfl) (by kernel_rfl) (fun _ => by kernel_rfl) (fun _ _ _ h => h) hHeld ?_
                refine takeU (i := 1) (some 53) (.int .i64 D) (by kernel_rfl) (by kernel_rfl) (by kernel_rfl) (by kernel_rfl) (by kernel_rfl) (fun _ => by kernel_rfl) (fun _ _ _ h => h) hHeld ?_
                refine takeU (i := 2) (some 54) (.int .i64 k) (by kernel_rfl) (by kernel_rfl) (by kernel_rfl) (by kernel_rfl) (by kernel_rfl) (fun _ => by kernel_rfl) (fun _ _ _ h => h) hHeld ?_
                refine takeU (i := 3) (some 55) (.int .i64 k) (by kernel_rfl) (by kernel_rfl) (by kernel_rfl) (by kernel_rfl) (by kernel_rfl) (fun _ => by kernel_rfl) (fun _ _ _ h => h) hHeld ?_
                refine wpAnyH_take (i := 4) (oi := { dst := some 56, op := Go.Op.binOp Go.BinOp.add 3 (Go.Operand.tmp 55) (Go.Operand.const (Go.Value.int Go.IntKind.i64 1)) 3, type := 3, pos := "ref.go:256", after := #[{ on := 3, ground := Go.Ground.data }], guard := none }) (v := .int .i64 ((k : Int) + 1)) rfl (by kernel_rfl) (by kernel_rfl) (by kernel_rfl) (fun _ _ _ h => h) (.inl ⟨by kernel_rfl, fun w9 h9 => by
                  clear hHeld h9
                  go_simp⟩) hHeld ?_
                refine takeU (i := 5) (some 57) (.slice (some ⟨ab, ao, none⟩) N ch) (by kernel_rfl) (by kernel_rfl) (by kernel_rfl) (by kernel_rfl) (by kernel_rfl) (fun _ => by kernel_rfl) (fun _ _ _ h => h) hHeld ?_
                refine takeU (i := 6) (some 58) (.int .i64 k) (by kernel_rfl) (by kernel_rfl) (by kernel_rfl) (by kernel_rfl) (by kernel_rfl) (fun _ => by kernel_rfl) (fun _ _ _ h => h) hHeld ?_
                refine wpAnyH_take (i := 7) (oi := { dst := some 59, op := Go.Op.indexAddr 22 (Go.Operand.tmp 57) (Go.Operand.tmp 58), type := 0, pos := "ref.go:256", after := #[{ on := 5, ground := Go.Ground.data }, { on := 6, ground := Go.Ground.data }], guard := none }) (v := .pointer (some ⟨ab, ao + k, none⟩)) rfl (by kernel_rfl) (by kernel_rfl) (by kernel_rfl) (fun _ _ _ h => h) (.inl ⟨by kernel_rfl, fun w9 h9 => by
                  clear hHeld h9
                  go_simp⟩) hHeld ?_
                refine wpAnyH_take (i := 8) (oi := { dst := some 60, op := Go.Op.load 3 (Go.Operand.tmp 59), type := 3, pos := "ref.go:256", after := #[{ on := 7, ground := Go.Ground.data }], guard := none }) (v := .int .i64 x) rfl (by kernel_rfl) (by kernel_rfl) (by kernel_rfl) (fun _ _ _ h => h) (.inl ⟨by kernel_rfl, fun w9 h9 => by
                  clear hHeld
                  have d0 := (h9.cell (p := ⟨ab, ao + k, none⟩) hzx).trans cx
                  clear h9
                  go_simp⟩) hHeld ?_
                refine takeU (i := 9) (some 61) (.slice (some ⟨sb, so, none⟩) N cs8) (by kernel_rfl) (by kernel_rfl) (by kernel_rfl) (by kernel_rfl) (by kernel_rfl) (fun _ => by kernel_rfl) (fun _ _ _ h => h) hHeld ?_
                refine takeU (i := 10) (some 62) (.int .i64 k) (by kernel_rfl) (by kernel_rfl) (by kernel_rfl) (by kernel_rfl) (by kernel_rfl) (fun _ => by kernel_rfl) (fun _ _ _ h => h) hHeld ?_
                refine wpAnyH_take (i := 11) (oi := { dst := some 63, op := Go.Op.indexAddr 22 (Go.Operand.tmp 61) (Go.Operand.tmp 62), type := 0, pos := "ref.go:256", after := #[{ on := 9, ground := Go.Ground.data }, { on := 10, ground := Go.Ground.data }], guard := none }) (v := .pointer (some ⟨sb, so + k, none⟩)) rfl (by kernel_rfl) (by kernel_rfl) (by kernel_rfl) (fun _ _ _ h => h) (.inl ⟨by kernel_rfl, fun w9 h9 => by
                  clear hHeld h9
                  go_simp⟩) hHeld ?_
                refine wpAnyH_take (i := 12) (oi := { dst := some 64, op := Go.Op.load 3 (Go.Operand.tmp 63), type := 3, pos := "ref.go:256", after := #[{ on := 11, ground := Go.Ground.data }], guard := none }) (v := .int .i64 y) rfl (by kernel_rfl) (by kernel_rfl) (by kernel_rfl) (fun _ _ _ h => h) (.inl ⟨by kernel_rfl, fun w9 h9 => by
                  clear hHeld
                  have d0 := (h9.cell (p := ⟨sb, so + k, none⟩) hzy).trans cy
                  clear h9
                  go_simp⟩) hHeld ?_
                refine takeU (i := 13) (some 65) (.agg #[.int .i64 T, .int .i64 D, .int .i64 k, .int .i64 ((k : Int) + 1), .int .i64 x, .int .i64 y]) (by kernel_rfl) (by kernel_rfl) (by kernel_rfl) (by kernel_rfl) (by kernel_rfl) (fun _ => by kernel_rfl) (fun _ _ _ h => h) hHeld ?_
                try simp only [Act.put, List.setIfInBounds_toArray, List.set_cons_zero, List.set_cons_succ]
                refine wpAnyH_ready (rs := [14]) (by kernel_rfl) (by simp) ?_
                refine AllReadyH.cons (o := { dst := some 15, op := Go.Op.alloc 52, type := 0, pos := "ref.go:256", after := #[], guard := none }) rfl (fun K hK => ?_) AllReadyH.nil
                go_simp
                have hA0 := hHeld
                refine hK.out _ _ (hHeld.alloc hHeld.size _) (fun hHeld => ?_)
                clear hK K
                try simp only [Act.put, List.setIfInBounds_toArray, List.set_cons_zero, List.set_cons_succ]
                have hx14 : ((wz.alloc (.cells #[.int .i64 0, .int .i64 0, .int .i64 0, .int .i64 0, .int .i64 0, .int .i64 0] 52)).drew).heap[wz.heap.size]? = some (.cells #[.int .i64 0, .int .i64 0, .int .i64 0, .int .i64 0, .int .i64 0, .int .i64 0] 52 (0, 0)) := heap_alloc_new wz _
                try simp only [Act.put, List.setIfInBounds_toArray, List.set_cons_zero, List.set_cons_succ]
                refine wpAnyH_ready (rs := [15]) (by kernel_rfl) (by simp) ?_
                refine AllReadyH.cons (o := { dst := none, op := Go.Op.store 52 (Go.Operand.tmp 15) (Go.Operand.tmp 65), type := 0, pos := "ref.go:256", after := #[{ on := 14, ground := Go.Ground.data }, { on := 13, ground := Go.Ground.data }, { on := 0, ground := Go.Ground.phase }, { on := 1, ground := Go.Ground.phase }, { on := 2, ground := Go.Ground.phase }, { on := 3, ground := Go.Ground.phase }, { on := 4, ground := Go.Ground.phase }, { on := 5, ground := Go.Ground.phase }, { on := 6, ground := Go.Ground.phase }, { on := 7, ground := Go.Ground.phase }, { on := 8, ground := Go.Ground.phase }, { on := 9, ground := Go.Ground.phase }, { on := 10, ground := Go.Ground.phase }, { on := 11, ground := Go.Ground.phase }, { on := 12, ground := Go.Ground.phase }, { on := 13, ground := Go.Ground.phase }, { on := 14, ground := Go.Ground.phase }], guard := none }) rfl (fun K hK => ?_) AllReadyH.nil
                obtain ⟨wS, hwS⟩ : ∃ wS, (wz.alloc (.cells #[.int .i64 0, .int .i64 0, .int .i64 0, .int .i64 0, .int .i64 0, .int .i64 0] 52)).drew = wS := ⟨_, rfl⟩
                rw [hwS] at hHeld hx14 ⊢
                have hsS : wz.heap.size < wS.heap.size := (Array.getElem?_eq_some_iff.1 hx14).1
                clear hwS
                have y0 := heapc hx14 (i := 0) (v := .int .i64 0) rfl
                have g0 : wS.frozen? ⟨wz.heap.size, 0, none⟩ = false := by simp [World.frozen?, hx14]
                have y1 := heapc hx14 (i := 1) (v := .int .i64 0) rfl
                have g1 : wS.frozen? ⟨wz.heap.size, 1, none⟩ = false := by simp [World.frozen?, hx14]
                have y2 := heapc hx14 (i := 2) (v := .int .i64 0) rfl
                have g2 : wS.frozen? ⟨wz.heap.size, 2, none⟩ = false := by simp [World.frozen?, hx14]
                have y3 := heapc hx14 (i := 3) (v := .int .i64 0) rfl
                have g3 : wS.frozen? ⟨wz.heap.size, 3, none⟩ = false := by simp [World.frozen?, hx14]
                have y4 := heapc hx14 (i := 4) (v := .int .i64 0) rfl
                have g4 : wS.frozen? ⟨wz.heap.size, 4, none⟩ = false := by simp [World.frozen?, hx14]
                have y5 := heapc hx14 (i := 5) (v := .int .i64 0) rfl
                have g5 : wS.frozen? ⟨wz.heap.size, 5, none⟩ = false := by simp [World.frozen?, hx14]
                go_simp
                have hset := Lib.hid (heap_set6 hx14 (.int .i64 T) (.int .i64 D) (.int .i64 k) (.int .i64 ((k : Int) + 1)) (.int .i64 x) (.int .i64 y))
                refine hK.out _ _ (((((((hHeld.setCell (p := ⟨wz.heap.size, 0, none⟩) (Nat.le_refl _) _).setCell (p := ⟨wz.heap.size, 1, none⟩) (Nat.le_refl _) _).setCell (p := ⟨wz.heap.size, 2, none⟩) (Nat.le_refl _) _).setCell (p := ⟨wz.heap.size, 3, none⟩) (Nat.le_refl _) _).setCell (p := ⟨wz.heap.size, 4, none⟩) (Nat.le_refl _) _).setCell (p := ⟨wz.heap.size, 5, none⟩) (Nat.le_refl _) _)) (fun hHeld => ?_)
                clear hK K
                try simp only [Act.put, List.setIfInBounds_toArray, List.set_cons_zero, List.set_cons_succ]
                refine wpAnyH_done (by kernel_rfl) ?_ _
                try simp only [Act.put, List.setIfInBounds_toArray, List.set_cons_zero, List.set_cons_succ]
                obtain ⟨wA, hwA⟩ : ∃ wA, (((((wS.setCell ⟨wz.heap.size, 0, none⟩ (.int .i64 T)).setCell ⟨wz.heap.size, 1, none⟩ (.int .i64 D)).setCell ⟨wz.heap.size, 2, none⟩ (.int .i64 k)).setCell ⟨wz.heap.size, 3, none⟩ (.int .i64 ((k : Int) + 1))).setCell ⟨wz.heap.size, 4, none⟩ (.int .i64 x)).setCell ⟨wz.heap.size, 5, none⟩ (.int .i64 y) = wA := ⟨_, rfl⟩
                rw [hwA] at hHeld hset ⊢
                clear hwA y0 y1 y2 y3 y4 y5 g0 g1 g2 g3 g4 g5 hx14
                have z0 := heapc hset.out (i := 0) rfl
                have z1 := heapc hset.out (i := 1) rfl
                have z2 := heapc hset.out (i := 2) rfl
                have z3 := heapc hset.out (i := 3) rfl
                have z4 := heapc hset.out (i := 4) rfl
                have z5 := heapc hset.out (i := 5) rfl
                have HRow := Lib.hid (owns_belowI HRow.out hHeld)
                have hbA := hbB.trans (hHeld.mono hbB.size)
                have HKe : Hid (∀ B, B < wo.heap.size → (∀ x, av1 = some x → x.block ≠ B) → wA.heap[B]? = wo.heap[B]?) := Lib.hid fun B hB hne => (hHeld.block B (by omega)).trans (HKe.out B hB hne)
                have hwo : wo.heap.size ≤ wA.heap.size := Nat.le_trans hwo hHeld.size
                clear hHeld hset cx cy hzx hzy hsS hbB
                obtain ⟨gb, hgb⟩ : ∃ gb, wz.heap.size = gb := ⟨_, rfl⟩
                rw [hgb] at z0 z1 z2 z3 z4 z5 ⊢
                clear hgb
                obtain ⟨ON, hON⟩ : ∃ ON : Bool, (decide (0 < M.length) && onB T D (gg6 M (M.length - 1)) k (x, y)) = ON := ⟨_, rfl⟩
                have HON := Lib.hid hON
                clear hON
                go_upto_region 15 with (fail)
                go_cut [121] (fun v wx => v = .bool ON ∧ Below wA.heap.size wA wx)
                case first =>
                  by_cases h0 : M.length = 0
                  · have HOn : Hid (ON = false) := Lib.hid (by rw [← HON.out, h0]; rfl)
                    have hm0 : ¬ (0 < (M.length : Int)) := by omega
                    have hm1 : decide (0 < (M.length : Int)) = false := decide_eq_false hm0
                    have hm2 : ¬ (0 < M.length) := by omega
                    have hm3 : decide (0 < M.length) = false := decide_eq_false hm2
                    clear h0 HNn HRow
                    go_wp2_with fail
                    go_quiet (fail)
                    go_wp2_with fail
                    go_meet
                    exact ⟨by rw [HOn.out], below_drewN (Below.refl _ _) _⟩
                  · obtain ⟨u, hu⟩ : ∃ u, M.length = u + 1 := ⟨M.length - 1, by omega⟩
                    have hui : (M.length : Int) - 1 = (u : Int) := by omega
                    have hu0 : (0 : Int) ≤ (u : Int) := by omega
                    have hu2 : (u : Int) < (M.length : Int) := by omega
                    have hu4 : u < M.length := by omega
                    have hu3 : 0 < M.length := by omega
                    have hu5 : decide (0 < (M.length : Int)) = true := decide_eq_true (by omega)
                    have huw : IntKind.i64.wrap ((M.length : Int) - 1) = (u : Int) := by rw [hui]; exact IntWalk.i64_in _ (by omega)
                    obtain ⟨gj, hgj⟩ : ∃ gj, av = some ⟨gj, 0, none⟩ := by
                      rcases HRow.out.2 with ⟨h1, h2⟩ | ⟨g2, c2, cur, h1, _⟩
                      · omega
                      · exact ⟨g2, by simpa using (Value.slice.inj h1).1⟩
                    subst hgj
                    have HOn0 : Hid (ON = onB T D (gg6 M u) k (x, y)) := Lib.hid (by rw [← HON.out, decide_eq_true hu3, Bool.true_and, show M.length - 1 = u by omega])
                    have d0 := World.ownsRow.cellAt HRow.out (u * 6) (by omega)
                    have d1 := World.ownsRow.cellAt HRow.out (u * 6 + 1) (by omega)
                    have d3 := World.ownsRow.cellAt HRow.out (u * 6 + 3) (by omega)
                    have d4 := World.ownsRow.cellAt HRow.out (u * 6 + 4) (by omega)
                    have d5 := World.ownsRow.cellAt HRow.out (u * 6 + 5) (by omega)
                    have hcc := cl6_c M u (by omega)
                    rw [hcc.1] at d0
                    rw [hcc.2.1] at d1
                    rw [hcc.2.2.2.1] at d3
                    rw [hcc.2.2.2.2.1] at d4
                    rw [hcc.2.2.2.2.2] at d5
                    have HOn : Hid (ON = (((gg6 M u).1 == T) && (((gg6 M u).2.1 == D) && (((gg6 M u).2.2.2.1 == (k : Int)) && (((gg6 M u).2.2.2.2.1 == x) && ((gg6 M u).2.2.2.2.2 == y)))))) := Lib.hid (by rw [HOn0.out]; rfl)
                    clear hcc HOn0 HON HNn HRow hu hui
                    generalize (gg6 M u).1 = p0 at *
                    generalize (gg6 M u).2.1 = p1 at *
                    generalize (gg6 M u).2.2.2.1 = p3 at *
                    generalize (gg6 M u).2.2.2.2.1 = p4 at *
                    generalize (gg6 M u).2.2.2.2.2 = p5 at *
                    by_cases t0 : p0 = T
                    · have e0 : (p0 == T) = true := by simpa using t0
                      clear t0
                      by_cases t1 : p1 = D
                      · have e1 : (p1 == D) = true := by simpa using t1
                        clear t1
                        by_cases t2 : p3 = (k : Int)
                        · have e2 : (p3 == (k : Int)) = true := by simpa using t2
                          clear t2
                          by_cases t3 : p4 = x
                          · have e3 : (p4 == x) = true := by simpa using t3
                            clear t3
                            by_cases t4 : p5 = y
                            · have e4 : (p5 == y) = true := by simpa using t4
                              clear t4
                              go_wp2_with fail
                              go_quiet (fail)
                              go_wp2_with fail
                              go_meet
                              exact ⟨by rw [HOn.out]; simp [e0, e1, e2, e3, e4], below_drewN (Below.refl _ _) _⟩
                            · have e4 : (p5 == y) = false := beq_false_of_ne t4
                              clear t4
                              go_wp2_with fail
                              go_quiet (fail)
                              go_wp2_with fail
                              go_meet
                              exact ⟨by rw [HOn.out]; simp [e0, e1, e2, e3, e4], below_drewN (Below.refl _ _) _⟩
                          · have e3 : (p4 == x) = false := beq_false_of_ne t3
                            clear t3
                            go_wp2_with fail
                            go_quiet (fail)
                            go_wp2_with fail
                            go_meet
                            exact ⟨by rw [HOn.out]; simp [e0, e1, e2, e3], below_drewN (Below.refl _ _) _⟩
                        · have e2 : (p3 == (k : Int)) = false := beq_false_of_ne t2
                          clear t2
                          go_wp2_with fail
                          go_quiet (fail)
                          go_wp2_with fail
                          go_meet
                          exact ⟨by rw [HOn.out]; simp [e0, e1, e2], below_drewN (Below.refl _ _) _⟩
                      · have e1 : (p1 == D) = false := beq_false_of_ne t1
                        clear t1
                        go_wp2_with fail
                        go_quiet (fail)
                        go_wp2_with fail
                        go_meet
                        exact ⟨by rw [HOn.out]; simp [e0, e1], below_drewN (Below.refl _ _) _⟩
                    · have e0 : (p0 == T) = false := beq_false_of_ne t0
                      clear t0
                      go_wp2_with fail
                      go_quiet (fail)
                      go_wp2_with fail
                      go_meet
                      exact ⟨by rw [HOn.out]; simp [e0], below_drewN (Below.refl _ _) _⟩
                case rest =>
                  obtain ⟨rfl, hbc⟩ := hcut
                  obtain ⟨wA2, rfl⟩ : ∃ wx : World, wx = wc := ⟨_, rfl⟩
                  have HRow := Lib.hid (owns_belowI HRow.out hbc)
                  have hbA := hbA.trans (hbc.mono hbA.size)
                  have HKe : Hid (∀ B, B < wo.heap.size → (∀ x, av1 = some x → x.block ≠ B) → wA2.heap[B]? = wo.heap[B]?) := Lib.hid fun B hB hne => (hbc.block B (by omega)).trans (HKe.out B hB hne)
                  have hwo : wo.heap.size ≤ wA2.heap.size := Nat.le_trans hwo hbc.size
                  have z0 := cell_below z0 hbc
                  have z1 := cell_below z1 hbc
                  have z2 := cell_below z2 hbc
                  have z3 := cell_below z3 hbc
                  have z4 := cell_below z4 hbc
                  have z5 := cell_below z5 hbc
                  obtain ⟨wA, rfl⟩ : ∃ wx : World, wx = wA2 := ⟨_, rfl⟩
                  rcases Bool.eq_false_or_eq_true ON with hON | hON
                  · have hO := HON.out
                    rw [hON, Bool.and_eq_true, decide_eq_true_eq] at hO
                    obtain ⟨hO1, hO2⟩ := hO
                    obtain ⟨u, hu⟩ : ∃ u, M.length = u + 1 := ⟨M.length - 1, by omega⟩
                    have hue : M.length - 1 = u := by omega
                    rw [hue] at hO2
                    have hO3 := hO2
                    unfold onB at hO3
                    simp only [Bool.and_eq_true, beq_iff_eq] at hO3
                    have HNe : Hid (G0 ++ (strV skG (bothF N js l q h T D) (k + 1)).map (fun p => ((T, D, p) : Gp6)) = M.set u ((gg6 M u).1, (gg6 M u).2.1, (gg6 M u).2.2.1, (k : Int) + 1, (gg6 M u).2.2.2.2.1, (gg6 M u).2.2.2.2.2)) := Lib.hid (by
                      rw [HNn.out]
                      unfold stp6
                      rw [hue, if_pos ⟨hO1, hO2⟩])
                    have hui : (M.length : Int) - 1 = (u : Int) := by omega
                    have hu0 : (0 : Int) ≤ (u : Int) := by omega
                    have hu2 : (u : Int) < (M.length : Int) := by omega
                    have hu4 : u < M.length := by omega
                    have huw : IntKind.i64.wrap ((M.length : Int) - 1) = (u : Int) := by rw [hui]; exact IntWalk.i64_in _ (by omega)
                    obtain ⟨gj, hgj⟩ : ∃ gj, av = some ⟨gj, 0, none⟩ := by
                      rcases HRow.out.2 with ⟨h1, h2⟩ | ⟨g2, c2, cur, h1, _⟩
                      · omega
                      · exact ⟨g2, by simpa using (Value.slice.inj h1).1⟩
                    subst hgj
                    have d3 := World.ownsRow.cellAt HRow.out (u * 6 + 3) (by omega)
                    rw [(cl6_c M u (by omega)).2.2.2.1, hO3.2.2.1] at d3
                    have fx := World.ownsRow.frozenAt HRow.out (u * 6 + 3)
                    have hgl : wB.heap.size ≤ gj := (own_lt HRow.out _ rfl).2.1
                    have HSE := Lib.hid (cl6_set M u ((k : Int) + 1) (by omega))
                    have HST : Hid (∀ W : World, W.ownsRow wB.heap.size 52 6 (.slice (some ⟨gj, 0, none⟩) M.length cv) M.length (cl6 M) → (W.setCell ⟨gj, u * 6 + 3, none⟩ (.int .i64 ((k : Int) + 1))).ownsRow wB.heap.size 52 6 (.slice (some ⟨gj, 0, none⟩) (G0 ++ (strV skG (bothF N js l q h T D) (k + 1)).map (fun p => ((T, D, p) : Gp6))).length cv) (G0 ++ (strV skG (bothF N js l q h T D) (k + 1)).map (fun p => ((T, D, p) : Gp6))).length (cl6 (G0 ++ (strV skG (bothF N js l q h T D) (k + 1)).map (fun p => ((T, D, p) : Gp6))))) := Lib.hid fun W h => by
                      rw [HNe.out, List.length_set, ← HSE.out]
                      exact (World.ownsRow.stored h (u * 6 + 3) (.int .i64 ((k : Int) + 1))).1
                    have HLe : Hid ((G0 ++ (strV skG (bothF N js l q h T D) (k + 1)).map (fun p => ((T, D, p) : Gp6))).length = M.length) := Lib.hid (by rw [HNe.out, List.length_set])
                    have HK2 : Hid (∀ B, B < wo.heap.size → (∀ x, av1 = some x → x.block ≠ B) → (wA.setCell ⟨gj, u * 6 + 3, none⟩ (.int .i64 ((k : Int) + 1))).heap[B]? = wo.heap[B]?) := Lib.hid fun B hB hne => (heap_setCell_other wA ⟨gj, u * 6 + 3, none⟩ B _ (fun e => by
                      rcases HAp.out _ rfl with h9 | ⟨y, hy, hy2⟩
                      · have h9 : wo.heap.size ≤ gj := h9
                        have e : B = gj := e
                        omega
                      · have hy2 : y.block = gj := hy2
                        have e : B = gj := e
                        exact hne y hy (by omega))).trans (HKe.out B hB hne)
                    rw [hON]
                    clear hON hO1 hO2 hO3 hu hui hue HNn HNe HSE HON z0 z1 z2 z3 z4 z5 HKe
                    go_wp2_with fail
                    go_roundw
                    case rel => exact ⟨k + 1, _, cv, by omega, by go_num, by rw [HLe.out], Lib.hid (by have := HST.out _ HRow.out; rwa [HLe.out] at this ⊢), HK2, HAp, by simpa using hwo, hbA.setCell (p := ⟨gj, u * 6 + 3, none⟩) hgl _⟩
                    case measure => simp [intOf]; omega
                  · have HNe : Hid (G0 ++ (strV skG (bothF N js l q h T D) (k + 1)).map (fun p => ((T, D, p) : Gp6)) = M ++ [(T, D, (k : Int), (k : Int) + 1, x, y)]) := Lib.hid (by
                      rw [HNn.out]
                      unfold stp6
                      rw [if_neg]
                      rintro ⟨h1, h2⟩
                      have hO := HON.out
                      rw [decide_eq_true h1, Bool.true_and, h2] at hO
                      rw [hON] at hO
                      cases hO)
                    have HAP : Hid (M.length + 1 = (G0 ++ (strV skG (bothF N js l q h T D) (k + 1)).map (fun p => ((T, D, p) : Gp6))).length ∧ cl6 M ++ [.int .i64 T, .int .i64 D, .int .i64 k, .int .i64 ((k : Int) + 1), .int .i64 x, .int .i64 y] = cl6 (G0 ++ (strV skG (bothF N js l q h T D) (k + 1)).map (fun p => ((T, D, p) : Gp6)))) := Lib.hid (by rw [HNe.out, cl6_app]; exact ⟨by simp, rfl⟩)
                    rw [hON]
                    clear hON HNe HNn HON
                    have hown := Lib.hid (HRow.out.alloc (.cells #[.int .i64 T, .int .i64 D, .int .i64 k, .int .i64 ((k : Int) + 1), .int .i64 x, .int .i64 y] 52))
                    have hbs := hbA.size
                    go_wp2_with (first | (at_builtin; go_loud (refine wpList_append_lies _ rfl _ _ 31 rfl wB.heap.size 52 n0 _ 6 48 Tryz.underlying31 hi hz0 hz1 hz2 rfl (by decide) (.slice _ M.length cv) M.length _ (by rfl) hown.out ⟨wA.heap.size, 0, none⟩ 1 1 [.int .i64 T, .int .i64 D, .int .i64 k, .int .i64 ((k : Int) + 1), .int .i64 x, .int .i64 y] (by rfl) (by rfl) ?d1 ?d2 (by decide) ?d3 ?d4 ?d5 _ rfl ?_)))
                    case d1 =>
                      refine World.news_of_block (cs := #[.int .i64 T, .int .i64 D, .int .i64 k, .int .i64 ((k : Int) + 1), .int .i64 x, .int .i64 y]) (t := 52) (fr := (0, 0)) ?_
                      exact heap_alloc_new _ _
                    case d2 => simp [Value.oneCell']
                    case d3 => unfold maxLen; omega
                    case d4 => omega
                    case d5 => first | (simp; omega) | simp | omega
                    intro g6 c6 w6 hown6 hgrow6 hat6 hlt6
                    have hb6 : Below wB.heap.size wB w6 := ((hbA.alloc hbs _).grown hgrow6 (by first | (simp; omega) | simp | omega) (fun z hz => owns_blockI hown.out hz))
                    have hKP := kp_grown (W := wA) hgrow6 hat6 (by simp)
                    have HK6 : Hid (∀ B, B < wo.heap.size → (∀ x, av1 = some x → x.block ≠ B) → w6.heap[B]? = wo.heap[B]?) := Lib.hid fun B hB hne => ((hKP B (by omega) (fun x hx9 e => by
                      rcases HAp.out x hx9 with h9 | ⟨y, hy, hy2⟩
                      · omega
                      · exact hne y hy (by omega))).1).trans (HKe.out B hB hne)
                    have HA6 : Hid (∀ x, some (⟨g6, 0, none⟩ : Addr) = some x → wo.heap.size ≤ x.block ∨ ∃ y, av1 = some y ∧ y.block = x.block) := Lib.hid fun x hx9 => by
                      cases hx9
                      rcases hat6 with h9 | h9
                      · cases hav : av with
                        | none => rw [hav] at h9; simp [Value.ownBlock] at h9
                        | some y =>
                          rw [hav] at h9
                          simp [Value.ownBlock] at h9
                          have := HAp.out y hav
                          rw [h9] at this
                          exact this
                      · left
                        try simp at h9
                        show wo.heap.size ≤ g6
                        omega
                    have hw6 : wo.heap.size ≤ w6.heap.size := by
                      have h9 := hgrow6.size
                      try simp at h9
                      omega
                    go_wp2_with fail
                    go_roundw
                    case rel => exact ⟨k + 1, some ⟨g6, 0, none⟩, c6, by omega, by go_num, by rw [← HAP.out.1], Lib.hid (by rw [← HAP.out.1, ← HAP.out.2]; exact hown6), HK6, HA6, hw6, hb6⟩
                    case measure => simp [intOf]; omega
            · obtain rfl : k = N := by omega
              have HFi : Hid (G0 ++ (strV skG (bothF k js l q h T D) k).map (fun p => ((T, D, p) : Gp6)) = gapK k js l q h (2 * t + (d + 1))) := Lib.hid HSt.out.symm
              have HDs : Hid (1 - 2 * ((d + 1 : Nat) : Int) = D - 2) := Lib.hid (by have := HD.out; omega)
              have hki : ¬ ((k : Int) < (k : Int)) := by omega
              clear HCh HabF HLn HG0 HSt
              go_wp2_with fail
              go_roundw
              case rel => exact ⟨d + 1, av, cv, by omega, by rw [HDs.out], by rw [← HFi.out], Lib.hid (by rw [← HFi.out]; exact HRow.out), hbB⟩
              case measure => simp [intOf]; omega
        · obtain rfl : d = 2 := by omega
          have HTs : Hid (((t + 1 : Nat) : Int) + 1 = T + 1) := Lib.hid (by have := HT.out; omega)
          have HRe : Hid (2 * (t + 1) = 2 * t + 2) := Lib.hid (by omega)
          clear HAl0 HMu0 HGk HKL
          go_wp2_with fail
          go_roundw
          case rel => exact ⟨t + 1, av1, cv1, by omega, by rw [HTs.out], by rw [HRe.out], Lib.hid (by rw [HRe.out]; exact HRow1.out), hbr1⟩
          case measure => simp [intOf]; omega
    · obtain rfl : t = 2 := by omega
      have hkl := HKL.out 4
      have hbw := HB.out.trans (hbr0.mono HB.out.size)
      have HEnd : Hid (∃ b c, (Ending.returned (.slice av0 (gapK N js l q h 4).length cv0)) = .returned (.slice b (gapK N js l q h 4).length c) ∧ GapS wr b (gapK N js l q h 4) ∧ Below w.heap.size w wr) := Lib.hid ⟨av0, cv0, rfl, gap_own HRow0.out (by omega), hbw⟩
      clear HRow0 HAl0 HMu0 HGk HKL
      go_wp2_with fail
      go_ret
      exact HEnd.out
end Go.Proofs.YtlpdjinhkmgbgaaGreatDoor

namespace Go.Proofs.YtlpdjinhkmgbgaaGreatDoor
set_option linter.unusedVariables false
set_option linter.unusedSimpArgs false
open Go.RowKit

set_option linter.unnecessarySimpa false
set_option maxRecDepth 100000 in
set_option maxHeartbeats 4000000 in
theorem ruleCompares_any (L : Int) (a : Option Addr) (js : List Int) (ca : Nat) (aa : Option Addr) (l : List Sgn) (cl : Nat) (ae : Option Addr) (q : List Edc) (cq : Nat) (q0 q1 q2 q3 : Int) (w : World) (hI : IntsS w a js) (hA : SgnS w aa l) (hE : EdS w ae q) (hG : WayTab w) : Calls Tryz.prog 3 #[.agg #[.int .i64 L, .slice a js.length ca, .slice aa l.length cl, .slice ae q.length cq, .int .i64 q0, .int .i64 q1, .int .i64 q2, .int .i64 q3]] w fun e w' => e = .returned (.bool true) ∧ Below w.heap.size w w' := by
  have HH := Lib.hid (fun W (hW : Below w.heap.size w W) => Heavy_any L a js ca aa l cl ae q cq q0 q1 q2 q3 W (hI.below hW) (hA.below hW) (hE.below hW))
  have HP := Lib.hid (fun W (hW : Below w.heap.size w W) => Compare_any L a js ca aa l cl ae q cq q0 W (hG.below hW) (hI.below hW) (hA.below hW) (hE.below hW))
  have HW := Lib.hid (fun W (hW : Below w.heap.size w W) r => why_r L a js ca aa l cl ae q cq q0 q1 q2 q3 true true r W (hI.below hW) (hA.below hW) (hE.below hW))
  have HR : Hid (whyK (lineB L js) true (sgnsB L js l) true (edcsB L js q) (btw q0 0 10000000) = 0 → (lineB L js = true → L ≤ 500) → ∀ W, Below w.heap.size w W → Calls Tryz.prog 13 #[.agg #[.int .i64 L, .slice a js.length ca], .slice aa l.length cl, .slice ae q.length cq, .int .i64 q0] W (fun e w' => ∃ b c, e = .returned (.slice b (gapK L js l q q0 4).length c) ∧ GapS w' b (gapK L js l q q0 4) ∧ Below W.heap.size W w')) := Lib.hid fun h h5 W hW => by
    by_cases hV : lstE L js l q = 0
    · have hIW := hI.below hW
      have hAW := hA.below hW
      have hEW := hE.below hW
      obtain ⟨hl0, hl1, hl2⟩ := lst_line hV
      have hl5 := h5 hl0
      obtain ⟨N, hN⟩ : ∃ N : Nat, L = N := ⟨L.toNat, by omega⟩
      subst hN
      exact refCompare_r N a js ca aa l cl ae q cq q0 hV (by omega) W hIW hAW hEW
    · rw [(lst_se L js l q _).1 hV] at h; exact absurd h hV
  have HH1 := Lib.hid (fun W => hour_r q0 W)
  generalize btw q0 0 10000000 = bh at *
  have HW2 := Lib.hid (fun W (hW : Below w.heap.size w W) => HW.out W hW bh)
  clear HW hG
  generalize whyK (lineB L js) true (sgnsB L js l) true (edcsB L js q) bh = E at *
  generalize gapK L js l q q0 4 = VR at *
  obtain ⟨X, hX⟩ : ∃ X, (if E = 0 then VR else []) = X := ⟨_, rfl⟩
  rw [hX] at HP
  have HX := Lib.hid hX
  clear hX
  clear hI hA hE
  go_enter Tryz.func3, Tryz.ntmps3
  go_wp2_with fail
  obtain ⟨wB, hwB⟩ : ∃ wB, w.alloc (.cells #[.int .i64 L, .slice a js.length ca, .slice aa l.length cl, .slice ae q.length cq, .int .i64 q0, .int .i64 q1, .int .i64 q2, .int .i64 q3] 28) = wB := ⟨_, rfl⟩
  have hb : Below w.heap.size w wB := by rw [← hwB]; exact (Below.refl _ _).alloc (Nat.le_refl _) _
  have p0 : wB.cell? ⟨w.heap.size, 0, none⟩ = some (.int .i64 L) := by rw [← hwB]; simp [go_sem]
  have p1 : wB.cell? ⟨w.heap.size, 1, none⟩ = some (.slice a js.length ca) := by rw [← hwB]; simp [go_sem]
  have p2 : wB.cell? ⟨w.heap.size, 2, none⟩ = some (.slice aa l.length cl) := by rw [← hwB]; simp [go_sem]
  have p3 : wB.cell? ⟨w.heap.size, 3, none⟩ = some (.slice ae q.length cq) := by rw [← hwB]; simp [go_sem]
  have p4 : wB.cell? ⟨w.heap.size, 4, none⟩ = some (.int .i64 q0) := by rw [← hwB]; simp [go_sem]
  have p5 : wB.cell? ⟨w.heap.size, 5, none⟩ = some (.int .i64 q1) := by rw [← hwB]; simp [go_sem]
  have p6 : wB.cell? ⟨w.heap.size, 6, none⟩ = some (.int .i64 q2) := by rw [← hwB]; simp [go_sem]
  have p7 : wB.cell? ⟨w.heap.size, 7, none⟩ = some (.int .i64 q3) := by rw [← hwB]; simp [go_sem]
  rw [hwB]
  clear hwB
  refine (HH.out _ hb).mono ?_
  rintro e wX ⟨bv, hHv, rfl, hb1⟩
  replace p0 := cell_below p0 hb1
  replace p1 := cell_below p1 hb1
  replace p2 := cell_below p2 hb1
  replace p3 := cell_below p3 hb1
  replace p4 := cell_below p4 hb1
  replace p5 := cell_below p5 hb1
  replace p6 := cell_below p6 hb1
  replace p7 := cell_below p7 hb1
  have hbw := hb.trans (hb1.mono hb.size)
  clear HH hb1
  cases bv with
  | true =>
    clear HP HW2 HR HH1 HX X hHv
    go_wp2_with (go_at_call 8; refine (first_any _).mono ?_; rintro e w9 ⟨rfl, hb9⟩)
    go_ret
    exact ⟨rfl, hbw.trans (hb9.mono hbw.size)⟩
  | false =>
    have HHv := Lib.hid (hHv rfl)
    have hz := block_lt p0
    have Z0 := Lib.hid p0
    have Z1 := Lib.hid p1
    have Z2 := Lib.hid p2
    have Z3 := Lib.hid p3
    have Z4 := Lib.hid p4
    have Z5 := Lib.hid p5
    have Z6 := Lib.hid p6
    have Z7 := Lib.hid p7
    have HBW := Lib.hid hbw
    clear p0 p1 p2 p3 p4 p5 p6 p7 hb hbw hHv
    have hbw := HBW.out
    have HR := Lib.hid (fun h => HR.out h HHv.out.2.2.2)
    clear HHv
    have p0 := Z0.out
    have p1 := Z1.out
    have p2 := Z2.out
    have p3 := Z3.out
    have p4 := Z4.out
    have p5 := Z5.out
    have p6 := Z6.out
    have p7 := Z7.out
    clear Z0 Z1 Z2 Z3 Z4 Z5 Z6 Z7
    go_upto_region 4 with (go_at_call 9; refine (HP.out _ hbw).mono ?_; rintro e w9 ⟨b1, c1, rfl, hT1, hb9⟩; have HT1 := Lib.hid hT1; clear hT1; replace hbw := hbw.trans (hb9.mono hbw.size); replace p0 := cell_below p0 hb9; replace p1 := cell_below p1 hb9; replace p2 := cell_below p2 hb9; replace p3 := cell_below p3 hb9; replace p4 := cell_below p4 hb9; replace p5 := cell_below p5 hb9; replace p6 := cell_below p6 hb9; replace p7 := cell_below p7 hb9; clear hb9)
    obtain ⟨wY, rfl⟩ : ∃ wY : World, wY = w9 := ⟨_, rfl⟩
    clear HP
    have hzz := block_lt p0
    have Y0 := Lib.hid p0
    have Y1 := Lib.hid p1
    have Y2 := Lib.hid p2
    have Y3 := Lib.hid p3
    have Y4 := Lib.hid p4
    have Y5 := Lib.hid p5
    have Y6 := Lib.hid p6
    have Y7 := Lib.hid p7
    have HBY := Lib.hid hbw
    have HWX := Lib.hid (fun W (hW : Below wY.heap.size wY W) => HW2.out W (HBY.out.trans (hW.mono HBY.out.size)))
    clear HW2 hbw
    have hB : Below wY.heap.size wY wY := Below.refl _ _
    go_region_held3 (fun w' => w'.cell? ⟨w.heap.size, 0, none⟩ = some (.int .i64 L) ∧ w'.cell? ⟨w.heap.size, 1, none⟩ = some (.slice a js.length ca) ∧ w'.cell? ⟨w.heap.size, 2, none⟩ = some (.slice aa l.length cl) ∧ w'.cell? ⟨w.heap.size, 3, none⟩ = some (.slice ae q.length cq) ∧ w'.cell? ⟨w.heap.size, 4, none⟩ = some (.int .i64 q0) ∧ w'.cell? ⟨w.heap.size, 5, none⟩ = some (.int .i64 q1) ∧ w'.cell? ⟨w.heap.size, 6, none⟩ = some (.int .i64 q2) ∧ w'.cell? ⟨w.heap.size, 7, none⟩ = some (.int .i64 q3)) (go_keep)
      (first
        | (go_at_call 11
           refine (HH1.out _).mono ?_
           rintro e w9 ⟨rfl, rfl⟩
           skip)
        | (go_at_call 10
           refine (HWX.out _ (show Below wY.heap.size wY _ by first | exact hB | exact hB.drew)).mono ?_
           rintro e w9 ⟨rfl, hb9⟩
           replace hB : Below wY.heap.size wY w9 := (show Below wY.heap.size wY _ by first | exact hB | exact hB.drew).trans (hb9.mono (by have := hB.size; first | exact this | (simp; exact this)))
           have p0 := (hB.cell (p := ⟨w.heap.size, 0, none⟩) hzz).trans Y0.out
           have p1 := (hB.cell (p := ⟨w.heap.size, 1, none⟩) hzz).trans Y1.out
           have p2 := (hB.cell (p := ⟨w.heap.size, 2, none⟩) hzz).trans Y2.out
           have p3 := (hB.cell (p := ⟨w.heap.size, 3, none⟩) hzz).trans Y3.out
           have p4 := (hB.cell (p := ⟨w.heap.size, 4, none⟩) hzz).trans Y4.out
           have p5 := (hB.cell (p := ⟨w.heap.size, 5, none⟩) hzz).trans Y5.out
           have p6 := (hB.cell (p := ⟨w.heap.size, 6, none⟩) hzz).trans Y6.out
           have p7 := (hB.cell (p := ⟨w.heap.size, 7, none⟩) hzz).trans Y7.out
           skip))
    all_goals
      have hbw := HBY.out.trans (hB.mono HBY.out.size)
      replace HT1 := Lib.hid (HT1.out.below hB)
      by_cases hE : E = 0
      · obtain rfl : X = VR := by rw [← HX.out, if_pos hE]
        subst hE
        clear HX
        go_wp2_with (first | (go_at_call 13; refine (HR.out (by trivial) _ hbw).mono ?_; rintro e w9 ⟨b3, c3, rfl, hT3, hb9⟩; have HT3 := Lib.hid hT3; clear hT3; replace hbw := hbw.trans (hb9.mono hbw.size); replace HT1 := Lib.hid (HT1.out.below hb9); clear hb9) | (go_at_call 12; refine (sameGaps_r _ _ _ _ _ _ HT1.out HT3.out).mono ?_; rintro e w9 ⟨rfl, hb9⟩; replace hbw := hbw.trans (hb9.mono hbw.size); clear hb9) | (go_at_call 8; refine (first_any _).mono ?_; rintro e w9 ⟨rfl, hb9⟩))
        go_ret
        exact ⟨rfl, hbw.trans (hb9.mono hbw.size)⟩
      · obtain rfl : X = [] := by rw [← HX.out, if_neg hE]
        have d1 : (E != 0) = true := by simp [hE]
        have d2 : (E == E) = true := by simp
        clear HX hE HT1
        go_wp2_with (go_at_call 8; refine (first_any _).mono ?_; rintro e w9 ⟨rfl, hb9⟩)
        go_ret
        exact ⟨rfl, hbw.trans (hb9.mono hbw.size)⟩
end Go.Proofs.YtlpdjinhkmgbgaaGreatDoor

namespace Go.Proofs.YtlpdjinhkmgbgaaGreatDoor
set_option linter.unusedVariables false
set_option linter.unusedSimpArgs false
open Go.RowKit Go.ChangeShapes Go.WideShapes Go.ChangeAt
set_option maxRecDepth 100000

theorem cInt : Tryz.prog.cellsOf 3 = 1 := by kernel_rfl
theorem cInts : Tryz.prog.cellsOf 22 = 1 := by kernel_rfl
section
variable {H : Type} {enc : TypeId × Value → H} {W : World} {base : Nat} {sp : Nat → Bool} {held : Bool}

/-- A cell that reads as an int. -/
theorem part_int {n : Nat} {c : Value} {o : Option (DataW H × List MemPlace)} {y : DataW H × List MemPlace} (ho : o = some y) (h : DataW.trod enc Tryz.prog W base sp held n 3 [c] = o) : ∃ z : Int, c = .int .i64 z ∧ I64 z := by
  obtain ⟨z, e, _, hw⟩ := DataW.trod_int Tryz.underlying3 (h.trans ho)
  exact ⟨z, by simpa using e, bounds_i64 hw⟩
theorem add_at {a : Addr} (h : a.spot = none) (n : Nat) : a.add n = ⟨a.block, a.off + n, none⟩ := by
  unfold Addr.add
  split
  · rename_i h0; subst h0; cases a; simp only at h; subst h; rfl
  · rfl
theorem add_zero (a : Addr) : a.add 0 = a := by unfold Addr.add; simp
theorem spot_none {w : World} {a : Addr} {v : Value} (h : w.cell? a = some v) : a.spot = none := by
  unfold World.cell? at h
  split at h
  · split at h
    · cases h
    · rename_i hs; simpa using hs
  · cases h
theorem addr_of {a : Addr} (h : a.spot = none) : a = ⟨a.block, a.off, none⟩ := by cases a; simp only at h; subst h; rfl
theorem gi_map (f : Nat → Int) {n i : Nat} (h : i < n) : gi ((List.range n).map f) i = f i := by
  unfold gi; rw [List.getD_eq_getElem?_getD, List.getElem?_map, List.getElem?_range h]; rfl
theorem gp_map (f : Nat → Int × Int) {n i : Nat} (h : i < n) : gp ((List.range n).map f) i = f i := by
  unfold gp; rw [List.getD_eq_getElem?_getD, List.getElem?_map, List.getElem?_range h]; rfl
theorem gr_map (f : Nat → List Int) {n i : Nat} (h : i < n) : gr ((List.range n).map f) i = f i := by
  unfold gr; rw [List.getD_eq_getElem?_getD, List.getElem?_map, List.getElem?_range h]; rfl
theorem ne_pos {α : Type} {f : Nat → α} {n : Nat} (h : (List.range n).map f ≠ []) : 0 < n := by
  apply Nat.pos_of_ne_zero
  rintro rfl
  exact h rfl

theorem open_ints {fuel : Nat} {v : Value} {y : DataW H × List MemPlace} (h : DataW.trod enc Tryz.prog W base sp held fuel 22 [v] = some y) :
    ∃ (a : Option Addr) (l : List Int) (cap : Nat), v = .slice a l.length cap ∧ IntsS W a l ∧ l.length ≤ cap := by
  rcases Go.Deep.open_slice1 Tryz.underlying22 cInt h with ⟨hcs, _⟩ | ⟨a, len, cap, m, n, V, D, Pl, hcs, hb, hl, hm, hmm, hx, hi⟩
  · obtain rfl : v = .slice none 0 0 := by simpa using hcs
    exact ⟨none, [], 0, rfl, ⟨by simp, fun i hi => absurd hi (Nat.not_lt_zero _), 0, 0, (fun h => absurd rfl h), fun i hi => absurd hi (Nat.not_lt_zero _)⟩, Nat.le_refl _⟩
  · obtain rfl : v = .slice (some a) len cap := by simpa using hcs
    have hlm : len ≤ m := by rw [hmm]; split <;> omega
    have key0 : ∀ i, i < len → ∃ x : Int, W.cell? (a.add i) = some (.int .i64 x) ∧ I64 x := fun i hil => by
      obtain ⟨hc, ht⟩ := hi i (by omega)
      obtain ⟨z, hz, hb⟩ := part_int rfl ht
      exact ⟨z, by rw [hc, hz], hb⟩
    have hspot : 0 < len → a.spot = none := fun h0 => by
      obtain ⟨x, hc, _⟩ := key0 0 h0
      rw [add_zero] at hc
      exact spot_none hc
    obtain ⟨f, hf⟩ := Go.Deep.choose_lt (α := Int) (n := len) (p := fun i x => W.cell? (a.add i) = some (.int .i64 x) ∧ I64 x) key0
    refine ⟨some a, (List.range len).map f, cap, by simp, ⟨by simp; unfold maxLen at hm; omega, ?_, a.block, a.off, ?_, ?_⟩, by simpa using hl⟩
    · intro i hi
      have hi : i < len := by simpa using hi
      rw [gi_map f hi]
      exact (hf i hi).2
    · intro hne
      rw [← addr_of (hspot (ne_pos hne))]
    · intro i hi
      have hi : i < len := by simpa using hi
      rw [gi_map f hi, ← add_at (hspot (by omega))]
      exact (hf i hi).1

theorem open_rows {fuel : Nat} {v : Value} {y : DataW H × List MemPlace} (h : DataW.trod enc Tryz.prog W base sp held fuel 132 [v] = some y) :
    ∃ (a : Option Addr) (r : List (List Int)) (cap : Nat), v = .slice a r.length cap ∧ RowsS W a r := by
  rcases Go.Deep.open_slice1 Tryz.underlying132 cInts h with ⟨hcs, _⟩ | ⟨a, len, cap, m, n, V, D, Pl, hcs, hb, hl, hm, hmm, hx, hi⟩
  · obtain rfl : v = .slice none 0 0 := by simpa using hcs
    exact ⟨none, [], 0, rfl, by simp, 0, 0, fun _ => none, fun _ => 0, (fun h => absurd rfl h), fun i hi => absurd hi (Nat.not_lt_zero _)⟩
  · obtain rfl : v = .slice (some a) len cap := by simpa using hcs
    have hlm : len ≤ m := by rw [hmm]; split <;> omega
    have key0 : ∀ i, i < len → ∃ x : Option Addr × List Int × Nat, W.cell? (a.add i) = some (.slice x.1 x.2.1.length x.2.2) ∧ IntsS W x.1 x.2.1 ∧ x.2.1.length ≤ x.2.2 := fun i hil => by
      obtain ⟨hc, ht⟩ := hi i (by omega)
      obtain ⟨b, l, c, hz, hI⟩ := open_ints ht
      exact ⟨(b, l, c), by rw [hc, hz], hI⟩
    have hspot : 0 < len → a.spot = none := fun h0 => by
      obtain ⟨x, hc, _⟩ := key0 0 h0
      rw [add_zero] at hc
      exact spot_none hc
    obtain ⟨f, hf⟩ := Go.Deep.choose_lt (α := Option Addr × List Int × Nat) (n := len) (p := fun i x => W.cell? (a.add i) = some (.slice x.1 x.2.1.length x.2.2) ∧ IntsS W x.1 x.2.1 ∧ x.2.1.length ≤ x.2.2) key0
    refine ⟨some a, (List.range len).map fun i => (f i).2.1, cap, by simp, by simp; unfold maxLen at hm; omega, a.block, a.off, fun i => (f i).1, fun i => (f i).2.2, ?_, ?_⟩
    · intro hne
      rw [← addr_of (hspot (ne_pos hne))]
    · intro i hi
      have hi : i < len := by simpa using hi
      rw [gr_map (fun i => (f i).2.1) hi, ← add_at (hspot (by omega))]
      exact hf i hi

/-- A slice of structs of two ints. -/
theorem open_pairs {t e : TypeId} {f0 f1 : Field} (ht : Tryz.prog.underlying t = some (.slice e)) (he : Tryz.prog.underlying e = some (.struct #[f0, f1])) (hC : Tryz.prog.cellsOf e = 2) (o0 : f0.offset = 0) (o1 : f1.offset = 1) (t0 : f0.type = 3) (t1 : f1.type = 3)
    {fuel : Nat} {v : Value} {y : DataW H × List MemPlace} (h : DataW.trod enc Tryz.prog W base sp held fuel t [v] = some y) :
    ∃ (a : Option Addr) (l : List (Int × Int)) (cap : Nat), v = .slice a l.length cap ∧ PairsS W a l := by
  rcases Go.Deep.open_slice ht h with ⟨hcs, _⟩ | ⟨a, len, cap, m, n, D, Pl, hcs, hb, hl, hm, hmm, hx, hi⟩
  · obtain rfl : v = .slice none 0 0 := by simpa using hcs
    exact ⟨none, [], 0, rfl, by simp, fun i hi => absurd hi (Nat.not_lt_zero _), 0, 0, (fun h => absurd rfl h), fun i hi => absurd hi (Nat.not_lt_zero _)⟩
  · obtain rfl : v = .slice (some a) len cap := by simpa using hcs
    have hlm : len ≤ m := by rw [hmm]; split <;> omega
    rw [hC] at hi
    have key0 : ∀ i, i < len → ∃ x : Int × Int, (W.cell? ((a.add (i * 2)).add 0) = some (.int .i64 x.1) ∧ W.cell? ((a.add (i * 2)).add 1) = some (.int .i64 x.2)) ∧ (I64 x.1 ∧ I64 x.2) := fun i hil => by
      obtain ⟨cs, hc, htr⟩ := hi i (by omega)
      obtain ⟨hcl, _, hat⟩ := World.cells?_some hc
      match cs, hcl with
      | [c0, c1], _ =>
        obtain ⟨y0, y1, n', _, _, g0, g1⟩ := trod_struct2 he htr
        rw [o0, t0, cInt] at g0
        rw [o1, t1, cInt] at g1
        obtain ⟨z0, rfl, b0⟩ := part_int rfl g0
        obtain ⟨z1, rfl, b1⟩ := part_int rfl g1
        exact ⟨(z0, z1), ⟨hat 0 (by decide), hat 1 (by decide)⟩, b0, b1⟩
    have hspot : 0 < len → a.spot = none := fun h0 => by
      obtain ⟨x, ⟨hc, _⟩, _⟩ := key0 0 h0
      rw [show 0 * 2 = 0 from rfl, add_zero, add_zero] at hc
      exact spot_none hc
    obtain ⟨f, hf⟩ := Go.Deep.choose_lt (α := Int × Int) (n := len) (p := fun i x => (W.cell? ((a.add (i * 2)).add 0) = some (.int .i64 x.1) ∧ W.cell? ((a.add (i * 2)).add 1) = some (.int .i64 x.2)) ∧ (I64 x.1 ∧ I64 x.2)) key0
    refine ⟨some a, (List.range len).map f, cap, by simp, by simp; unfold maxLen at hm; omega, ?_, a.block, a.off, ?_, ?_⟩
    · intro i hi
      have hi : i < len := by simpa using hi
      rw [gp_map f hi]
      exact (hf i hi).2
    · intro hne
      rw [← addr_of (hspot (ne_pos hne))]
    · intro i hi
      have hi : i < len := by simpa using hi
      have hs := hspot (by omega)
      have := (hf i hi).1
      rw [add_at hs, add_zero, add_at rfl] at this
      rw [gp_map f hi]
      exact this
theorem part_ints {fuel : Nat} {c : Value} {o : Option (DataW H × List MemPlace)} {y : DataW H × List MemPlace} (ho : o = some y) (h : DataW.trod enc Tryz.prog W base sp held fuel 22 [c] = o) :
    ∃ (a : Option Addr) (l : List Int) (cap : Nat), c = .slice a l.length cap ∧ IntsS W a l ∧ l.length ≤ cap := open_ints (h.trans ho)
theorem part_rows {fuel : Nat} {c : Value} {o : Option (DataW H × List MemPlace)} {y : DataW H × List MemPlace} (ho : o = some y) (h : DataW.trod enc Tryz.prog W base sp held fuel 132 [c] = o) :
    ∃ (a : Option Addr) (r : List (List Int)) (cap : Nat), c = .slice a r.length cap ∧ RowsS W a r := open_rows (h.trans ho)

theorem cSpan : Tryz.prog.cellsOf 86 = 2 := by kernel_rfl
theorem part_two {t : TypeId} {f0 f1 : Field} (he : Tryz.prog.underlying t = some (.struct #[f0, f1])) (o0 : f0.offset = 0) (o1 : f1.offset = 1) (t0 : f0.type = 3) (t1 : f1.type = 3)
    {fuel : Nat} {c0 c1 : Value} {o : Option (DataW H × List MemPlace)} {y : DataW H × List MemPlace} (hs : o = some y) (h : DataW.trod enc Tryz.prog W base sp held fuel t [c0, c1] = o) :
    ∃ z0 z1 : Int, c0 = .int .i64 z0 ∧ c1 = .int .i64 z1 ∧ I64 z0 ∧ I64 z1 := by
  obtain ⟨y0, y1, n, _, _, g0, g1⟩ := trod_struct2 he (h.trans hs)
  rw [o0, t0, cInt] at g0
  rw [o1, t1, cInt] at g1
  obtain ⟨z0, rfl, b0⟩ := part_int rfl g0
  obtain ⟨z1, rfl, b1⟩ := part_int rfl g1
  exact ⟨z0, z1, rfl, rfl, b0, b1⟩
theorem okWide_array {r : Reach} {b0 : Nat} {t : TypeId} {n : Nat} {e : TypeId} {v : Value} (ht : Tryz.prog.underlying t = some (.array n e)) (h : Value.okWide Tryz.prog W r b0 t v) : ∃ cs : Array Value, v = .agg cs ∧ cs.size = Tryz.prog.cellsOf t := by
  simp only [Value.okWide, ht] at h
  obtain ⟨cs, h1, h2, _⟩ := h
  exact ⟨cs, h1, h2⟩

/-- Two numbers of a small kind. -/
theorem open_duo {t e : TypeId} {k : IntKind} (ht : Tryz.prog.underlying t = some (.array 2 e)) (he : Tryz.prog.underlying e = some (.int k)) (hC : Tryz.prog.cellsOf t = 2) (hE : Tryz.prog.cellsOf e = 1) {v : Value} {d : DataW H} {p : List MemPlace} (hv : Value.okWide Tryz.prog W .any base t v) (h : DataW.Trod enc Tryz.prog W 0 sp held t v d p) :
    ∃ m n : Int, v = .agg #[.int k m, .int k n] ∧ (Lit.int k m).wf = true ∧ (Lit.int k n).wf = true := by
  obtain ⟨⟨cs⟩, rfl, hsz⟩ := okWide_array ht hv
  match cs, hsz.trans hC with
  | [c0, c1], _ =>
    obtain ⟨fuel, hf⟩ := h
    obtain ⟨xs, n, _, _, _, hlen, hg⟩ := DataW.trod_array ht hf
    match xs, hlen with
    | [u0, u1], _ =>
      have g0 := hg 0 (by omega)
      have g1 := hg 1 (by omega)
      rw [hE] at g0 g1
      obtain ⟨z0, e0, _, w0⟩ := DataW.trod_int he (show DataW.trod enc Tryz.prog W 0 sp held n e [c0] = some u0 from g0)
      obtain ⟨z1, e1, _, w1⟩ := DataW.trod_int he (show DataW.trod enc Tryz.prog W 0 sp held n e [c1] = some u1 from g1)
      obtain rfl : c0 = .int k z0 := by simpa using e0
      obtain rfl : c1 = .int k z1 := by simpa using e1
      exact ⟨z0, z1, rfl, w0, w1⟩
theorem open_spans {fuel : Nat} {c : Value} {y : DataW H × List MemPlace} (h : DataW.trod enc Tryz.prog W base sp held fuel 67 [c] = some y) : ∃ (a : Option Addr) (l : List (Int × Int)) (cap : Nat), c = .slice a l.length cap ∧ PairsS W a l :=
  open_pairs Tryz.underlying67 Tryz.underlying86 cSpan rfl rfl rfl rfl h
theorem open_spansV {v : Value} {d : DataW H} {p : List MemPlace} (hv : Value.okWide Tryz.prog W .any base 67 v) (h : DataW.Trod enc Tryz.prog W 0 sp held 67 v d p) :
    ∃ (a : Option Addr) (l : List (Int × Int)) (cap : Nat), v = .slice a l.length cap ∧ PairsS W a l := by
  obtain ⟨a, n, c, rfl⟩ := okWide_slice Tryz.underlying67 hv
  obtain ⟨fuel, hf⟩ := h
  exact open_spans hf
theorem open_intsV {v : Value} {d : DataW H} {p : List MemPlace} (hv : Value.okWide Tryz.prog W .any base 22 v) (h : DataW.Trod enc Tryz.prog W 0 sp held 22 v d p) :
    ∃ (a : Option Addr) (l : List Int) (cap : Nat), v = .slice a l.length cap ∧ IntsS W a l ∧ l.length ≤ cap := by
  obtain ⟨a, n, c, rfl⟩ := okWide_slice Tryz.underlying22 hv
  obtain ⟨fuel, hf⟩ := h
  exact open_ints hf
end
end Go.Proofs.YtlpdjinhkmgbgaaGreatDoor

namespace Go.Proofs.YtlpdjinhkmgbgaaGreatDoor
set_option linter.unusedVariables false
set_option linter.unusedSimpArgs false
open Go.RowKit Go.ChangeShapes Go.WideShapes Go.ChangeAt
set_option maxRecDepth 100000

theorem choose_ltR {α : Type} {n : Nat} (d : α) {p : Nat → α → Prop} (h : ∀ i, i < n → ∃ x, p i x) : ∃ f : Nat → α, ∀ i, i < n → p i (f i) := by
  classical
  exact ⟨fun i => if hi : i < n then (h i hi).choose else d, fun i hi => by simp only [hi, dif_pos]; exact (h i hi).choose_spec⟩
theorem gs_map (f : Nat → Sgn) {n i : Nat} (h : i < n) : gs ((List.range n).map f) i = f i := by
  unfold gs; rw [List.getD_eq_getElem?_getD, List.getElem?_map, List.getElem?_range h]; rfl
theorem ge_map (f : Nat → Edc) {n i : Nat} (h : i < n) : ge ((List.range n).map f) i = f i := by
  unfold ge; rw [List.getD_eq_getElem?_getD, List.getElem?_map, List.getElem?_range h]; rfl
section
variable {H : Type} {enc : TypeId × Value → H} {W : World} {base : Nat} {sp : Nat → Bool} {held : Bool}
theorem open_signs {fuel : Nat} {v : Value} {y : DataW H × List MemPlace} (h : DataW.trod enc Tryz.prog W base sp held fuel 25 [v] = some y) :
    ∃ (a : Option Addr) (l : List Sgn) (cap : Nat), v = .slice a l.length cap ∧ SgnS W a l := by
  have hC : Tryz.prog.cellsOf 69 = 9 := by kernel_rfl
  rcases Go.Deep.open_slice Tryz.underlying25 h with ⟨hcs, _⟩ | ⟨a, len, cap, m, n, D, Pl, hcs, hb, hl, hm, hmm, hx, hi⟩
  · obtain rfl : v = .slice none 0 0 := by simpa using hcs
    exact ⟨none, [], 0, rfl, ⟨by simp, 0, 0, fun _ => none, fun _ => 0, (fun h => absurd rfl h), fun i hi => absurd hi (Nat.not_lt_zero _)⟩⟩
  · obtain rfl : v = .slice (some a) len cap := by simpa using hcs
    have hlm : len ≤ m := by rw [hmm]; split <;> omega
    rw [hC] at hi
    have key0 : ∀ i, i < len → ∃ x : Sgn × Option Addr × Nat, (W.cell? ((a.add (i * 9)).add 0) = some (.int .i64 x.1.n) ∧ W.cell? ((a.add (i * 9)).add 1) = some (.int .i64 x.1.k) ∧ W.cell? ((a.add (i * 9)).add 2) = some (.int .i64 x.1.v) ∧ W.cell? ((a.add (i * 9)).add 3) = some (.int .i64 x.1.c) ∧ W.cell? ((a.add (i * 9)).add 4) = some (.int .i64 x.1.d) ∧ W.cell? ((a.add (i * 9)).add 5) = some (.int .i64 x.1.rk) ∧ W.cell? ((a.add (i * 9)).add 6) = some (.int .i64 x.1.up) ∧ W.cell? ((a.add (i * 9)).add 7) = some (.int .i64 x.1.dn)) ∧ W.cell? ((a.add (i * 9)).add 8) = some (.slice x.2.1 x.1.cv.length x.2.2) ∧ PairsS W x.2.1 x.1.cv := fun i hil => by
      obtain ⟨cs, hc, htr⟩ := hi i (by omega)
      obtain ⟨hcl, _, hat⟩ := World.cells?_some hc
      match cs, hcl with
      | [c0, c1, c2, c3, c4, c5, c6, c7, c8], _ =>
        obtain ⟨xs, n', _, _, _, hlen, hg⟩ := DataW.trod_struct Tryz.underlying69 htr
        match xs, hlen with
        | [y0, y1, y2, y3, y4, y5, y6, y7, y8], _ =>
          obtain ⟨z0, rfl, b0⟩ := part_int rfl (show DataW.trod enc Tryz.prog W base sp held n' 3 [c0] = some y0 from hg 0 _ rfl)
          obtain ⟨z1, rfl, b1⟩ := part_int rfl (show DataW.trod enc Tryz.prog W base sp held n' 3 [c1] = some y1 from hg 1 _ rfl)
          obtain ⟨z2, rfl, b2⟩ := part_int rfl (show DataW.trod enc Tryz.prog W base sp held n' 3 [c2] = some y2 from hg 2 _ rfl)
          obtain ⟨z3, rfl, b3⟩ := part_int rfl (show DataW.trod enc Tryz.prog W base sp held n' 3 [c3] = some y3 from hg 3 _ rfl)
          obtain ⟨z4, rfl, b4⟩ := part_int rfl (show DataW.trod enc Tryz.prog W base sp held n' 3 [c4] = some y4 from hg 4 _ rfl)
          obtain ⟨z5, rfl, b5⟩ := part_int rfl (show DataW.trod enc Tryz.prog W base sp held n' 3 [c5] = some y5 from hg 5 _ rfl)
          obtain ⟨z6, rfl, b6⟩ := part_int rfl (show DataW.trod enc Tryz.prog W base sp held n' 3 [c6] = some y6 from hg 6 _ rfl)
          obtain ⟨z7, rfl, b7⟩ := part_int rfl (show DataW.trod enc Tryz.prog W base sp held n' 3 [c7] = some y7 from hg 7 _ rfl)
          obtain ⟨b8, l8, p8, rfl, hP⟩ := open_spans (show DataW.trod enc Tryz.prog W base sp held n' 67 [c8] = some y8 from hg 8 _ rfl)
          exact ⟨(⟨z0, z1, z2, z3, z4, z5, z6, z7, l8⟩, b8, p8), ⟨hat 0 (by decide), hat 1 (by decide), hat 2 (by decide), hat 3 (by decide), hat 4 (by decide), hat 5 (by decide), hat 6 (by decide), hat 7 (by decide)⟩, hat 8 (by decide), hP⟩
    have hspot : 0 < len → a.spot = none := fun h0 => by
      obtain ⟨x, ⟨hc, _⟩, _⟩ := key0 0 h0
      rw [show 0 * 9 = 0 from rfl, add_zero, add_zero] at hc
      exact spot_none hc
    obtain ⟨f, hf⟩ := choose_ltR (α := Sgn × Option Addr × Nat) (n := len) (⟨0, 0, 0, 0, 0, 0, 0, 0, []⟩, none, 0) (p := fun i x => (W.cell? ((a.add (i * 9)).add 0) = some (.int .i64 x.1.n) ∧ W.cell? ((a.add (i * 9)).add 1) = some (.int .i64 x.1.k) ∧ W.cell? ((a.add (i * 9)).add 2) = some (.int .i64 x.1.v) ∧ W.cell? ((a.add (i * 9)).add 3) = some (.int .i64 x.1.c) ∧ W.cell? ((a.add (i * 9)).add 4) = some (.int .i64 x.1.d) ∧ W.cell? ((a.add (i * 9)).add 5) = some (.int .i64 x.1.rk) ∧ W.cell? ((a.add (i * 9)).add 6) = some (.int .i64 x.1.up) ∧ W.cell? ((a.add (i * 9)).add 7) = some (.int .i64 x.1.dn)) ∧ W.cell? ((a.add (i * 9)).add 8) = some (.slice x.2.1 x.1.cv.length x.2.2) ∧ PairsS W x.2.1 x.1.cv) key0
    refine ⟨some a, (List.range len).map fun i => (f i).1, cap, by simp, ⟨by simp; unfold maxLen at hm; omega, a.block, a.off, fun i => (f i).2.1, fun i => (f i).2.2, ?_, ?_⟩⟩
    · intro hne
      have hp : 0 < len := by
        have := List.length_pos_iff.2 hne
        simpa using this
      rw [← addr_of (hspot hp)]
    · intro i hi
      have hi : i < len := by simpa using hi
      have hs := hspot (by omega)
      have := hf i hi
      rw [add_at hs, add_zero, add_at rfl, add_at rfl, add_at rfl, add_at rfl, add_at rfl, add_at rfl, add_at rfl, add_at rfl] at this
      rw [gs_map (fun i => (f i).1) hi]
      exact this
theorem open_edicts {fuel : Nat} {v : Value} {y : DataW H × List MemPlace} (h : DataW.trod enc Tryz.prog W base sp held fuel 26 [v] = some y) :
    ∃ (a : Option Addr) (l : List Edc) (cap : Nat), v = .slice a l.length cap ∧ EdS W a l := by
  have hC : Tryz.prog.cellsOf 126 = 8 := by kernel_rfl
  rcases Go.Deep.open_slice Tryz.underlying26 h with ⟨hcs, _⟩ | ⟨a, len, cap, m, n, D, Pl, hcs, hb, hl, hm, hmm, hx, hi⟩
  · obtain rfl : v = .slice none 0 0 := by simpa using hcs
    exact ⟨none, [], 0, rfl, ⟨by simp, 0, 0, (fun h => absurd rfl h), fun i hi => absurd hi (Nat.not_lt_zero _)⟩⟩
  · obtain rfl : v = .slice (some a) len cap := by simpa using hcs
    have hlm : len ≤ m := by rw [hmm]; split <;> omega
    rw [hC] at hi
    have key0 : ∀ i, i < len → ∃ x : Edc, W.cell? ((a.add (i * 8)).add 0) = some (.int .i64 x.n) ∧ W.cell? ((a.add (i * 8)).add 1) = some (.int .i64 x.tp) ∧ W.cell? ((a.add (i * 8)).add 2) = some (.int .i64 x.v) ∧ W.cell? ((a.add (i * 8)).add 3) = some (.int .i64 x.d) ∧ W.cell? ((a.add (i * 8)).add 4) = some (.int .i64 x.fr) ∧ W.cell? ((a.add (i * 8)).add 5) = some (.int .i64 x.tt) ∧ W.cell? ((a.add (i * 8)).add 6) = some (.int .i64 x.st) ∧ W.cell? ((a.add (i * 8)).add 7) = some (.int .i64 x.en) := fun i hil => by
      obtain ⟨cs, hc, htr⟩ := hi i (by omega)
      obtain ⟨hcl, _, hat⟩ := World.cells?_some hc
      match cs, hcl with
      | [c0, c1, c2, c3, c4, c5, c6, c7], _ =>
        obtain ⟨xs, n', _, _, _, hlen, hg⟩ := DataW.trod_struct Tryz.underlying126 htr
        match xs, hlen with
        | [y0, y1, y2, y3, y4, y5, y6, y7], _ =>
          obtain ⟨z0, rfl, b0⟩ := part_int rfl (show DataW.trod enc Tryz.prog W base sp held n' 3 [c0] = some y0 from hg 0 _ rfl)
          obtain ⟨z1, rfl, b1⟩ := part_int rfl (show DataW.trod enc Tryz.prog W base sp held n' 3 [c1] = some y1 from hg 1 _ rfl)
          obtain ⟨z2, rfl, b2⟩ := part_int rfl (show DataW.trod enc Tryz.prog W base sp held n' 3 [c2] = some y2 from hg 2 _ rfl)
          obtain ⟨z3, rfl, b3⟩ := part_int rfl (show DataW.trod enc Tryz.prog W base sp held n' 3 [c3] = some y3 from hg 3 _ rfl)
          obtain ⟨z4, rfl, b4⟩ := part_int rfl (show DataW.trod enc Tryz.prog W base sp held n' 3 [c4] = some y4 from hg 4 _ rfl)
          obtain ⟨z5, rfl, b5⟩ := part_int rfl (show DataW.trod enc Tryz.prog W base sp held n' 3 [c5] = some y5 from hg 5 _ rfl)
          obtain ⟨z6, rfl, b6⟩ := part_int rfl (show DataW.trod enc Tryz.prog W base sp held n' 3 [c6] = some y6 from hg 6 _ rfl)
          obtain ⟨z7, rfl, b7⟩ := part_int rfl (show DataW.trod enc Tryz.prog W base sp held n' 3 [c7] = some y7 from hg 7 _ rfl)
          exact ⟨⟨z0, z1, z2, z3, z4, z5, z6, z7⟩, hat 0 (by decide), hat 1 (by decide), hat 2 (by decide), hat 3 (by decide), hat 4 (by decide), hat 5 (by decide), hat 6 (by decide), hat 7 (by decide)⟩
    have hspot : 0 < len → a.spot = none := fun h0 => by
      obtain ⟨x, hc, _⟩ := key0 0 h0
      rw [show 0 * 8 = 0 from rfl, add_zero, add_zero] at hc
      exact spot_none hc
    obtain ⟨f, hf⟩ := choose_ltR (α := Edc) (n := len) ⟨0, 0, 0, 0, 0, 0, 0, 0⟩ (p := fun i x => W.cell? ((a.add (i * 8)).add 0) = some (.int .i64 x.n) ∧ W.cell? ((a.add (i * 8)).add 1) = some (.int .i64 x.tp) ∧ W.cell? ((a.add (i * 8)).add 2) = some (.int .i64 x.v) ∧ W.cell? ((a.add (i * 8)).add 3) = some (.int .i64 x.d) ∧ W.cell? ((a.add (i * 8)).add 4) = some (.int .i64 x.fr) ∧ W.cell? ((a.add (i * 8)).add 5) = some (.int .i64 x.tt) ∧ W.cell? ((a.add (i * 8)).add 6) = some (.int .i64 x.st) ∧ W.cell? ((a.add (i * 8)).add 7) = some (.int .i64 x.en)) key0
    refine ⟨some a, (List.range len).map f, cap, by simp, ⟨by simp; unfold maxLen at hm; omega, a.block, a.off, ?_, ?_⟩⟩
    · intro hne
      have hp : 0 < len := by
        have := List.length_pos_iff.2 hne
        simpa using this
      rw [← addr_of (hspot hp)]
    · intro i hi
      have hi : i < len := by simpa using hi
      have hs := hspot (by omega)
      have := hf i hi
      rw [add_at hs, add_zero, add_at rfl, add_at rfl, add_at rfl, add_at rfl, add_at rfl, add_at rfl, add_at rfl] at this
      rw [ge_map f hi]
      exact this
theorem open_line {n : Nat} {c0 c1 : Value} {y : DataW H × List MemPlace} (h : DataW.trod enc Tryz.prog W base sp held n 24 [c0, c1] = some y) : ∃ (L : Int) (a : Option Addr) (l : List Int) (ca : Nat), c0 = .int .i64 L ∧ c1 = .slice a l.length ca ∧ IntsS W a l ∧ I64 L := by
  obtain ⟨xs, n', _, _, _, hlen, hg⟩ := DataW.trod_struct Tryz.underlying24 h
  match xs, hlen with
  | [y0, y1], _ =>
    obtain ⟨z0, rfl, b0⟩ := part_int rfl (show DataW.trod enc Tryz.prog W base sp held n' 3 [c0] = some y0 from hg 0 _ rfl)
    obtain ⟨a, l, ca, rfl, hA, _⟩ := part_ints rfl (show DataW.trod enc Tryz.prog W base sp held n' 22 [c1] = some y1 from hg 1 _ rfl)
    exact ⟨z0, a, l, ca, rfl, rfl, hA, b0⟩
theorem open_ask {v : Value} {d : DataW H} {p : List MemPlace} (hv : Value.okWide Tryz.prog W .any base 28 v) (h : DataW.Trod enc Tryz.prog W 0 sp held 28 v d p) :
    ∃ (L : Int) (a : Option Addr) (js : List Int) (ca : Nat) (aa : Option Addr) (l : List Sgn) (cl : Nat) (ae : Option Addr) (q : List Edc) (cq : Nat) (q0 q1 q2 q3 : Int), v = .agg #[.int .i64 L, .slice a js.length ca, .slice aa l.length cl, .slice ae q.length cq, .int .i64 q0, .int .i64 q1, .int .i64 q2, .int .i64 q3] ∧ IntsS W a js ∧ SgnS W aa l ∧ EdS W ae q ∧ I64 L ∧ I64 q0 ∧ I64 q1 ∧ I64 q2 ∧ I64 q3 := by
  obtain ⟨⟨cs⟩, rfl, hsz⟩ := okWide_struct Tryz.underlying28 hv
  have hC : Tryz.prog.cellsOf 28 = 8 := by kernel_rfl
  match cs, hsz.trans hC with
  | [c0, c1, c2, c3, c4, c5, c6, c7], _ =>
    obtain ⟨fuel, hf⟩ := h
    obtain ⟨xs, n, _, _, _, hlen, hg⟩ := DataW.trod_struct Tryz.underlying28 hf
    match xs, hlen with
    | [u0, u1, u2, u3, u4, u5, u6], _ =>
      obtain ⟨L, a, js, ca, rfl, rfl, hJ, bL⟩ := open_line (show DataW.trod enc Tryz.prog W 0 sp held n 24 [c0, c1] = some u0 from hg 0 _ rfl)
      obtain ⟨aa, l, cl, rfl, hA⟩ := open_signs (show DataW.trod enc Tryz.prog W 0 sp held n 25 [c2] = some u1 from hg 1 _ rfl)
      obtain ⟨ae, q, cq, rfl, hE⟩ := open_edicts (show DataW.trod enc Tryz.prog W 0 sp held n 26 [c3] = some u2 from hg 2 _ rfl)
      obtain ⟨q0, rfl, b0⟩ := part_int rfl (show DataW.trod enc Tryz.prog W 0 sp held n 3 [c4] = some u3 from hg 3 _ rfl)
      obtain ⟨q1, rfl, b1⟩ := part_int rfl (show DataW.trod enc Tryz.prog W 0 sp held n 3 [c5] = some u4 from hg 4 _ rfl)
      obtain ⟨q2, rfl, b2⟩ := part_int rfl (show DataW.trod enc Tryz.prog W 0 sp held n 3 [c6] = some u5 from hg 5 _ rfl)
      obtain ⟨q3, rfl, b3⟩ := part_int rfl (show DataW.trod enc Tryz.prog W 0 sp held n 3 [c7] = some u6 from hg 6 _ rfl)
      exact ⟨L, a, js, ca, aa, l, cl, ae, q, cq, q0, q1, q2, q3, rfl, hJ, hA, hE, bL, b0, b1, b2, b3⟩
end
end Go.Proofs.YtlpdjinhkmgbgaaGreatDoor
