/-
  The sanity check of the laws of package rule. By an AI agent.; Heavy of package rule's laws. By an AI agent.; The law RuleHolds. By an AI agent.; The law's right. By an AI agent.; The law RuleWays. By an AI agent.
-/
import Derived.Test.YtlpdjinhkmgbgaaGreatDoorMgRuleWays1
import Derived.Test.YtlpdjinhkmgbgaaGreatDoorMgRuleWays2
import Derived.Test.YtlpdjinhkmgbgaaGreatDoorMgRuleWays8
import Derived.Test.YtlpdjinhkmgbgaaGreatDoorMgRuleWays9
import Derived.Test.YtlpdjinhkmgbgaaGreatDoorMgRuleWays10
import Derived.Test.YtlpdjinhkmgbgaaGreatDoorMgRuleWays14
import Derived.Test.YtlpdjinhkmgbgaaGreatDoorMgRuleWays15
import Derived.Test.YtlpdjinhkmgbgaaGreatDoorMgRuleWays16
import Derived.BigQuiet
import Derived.BigRegion
import Derived.Deep.RegionHeld3
import Derived.Deep.DeepCutAuto
import Derived.StillTailTactics
import Derived.Deep.AppendLies

namespace Go.Proofs.YtlpdjinhkmgbgaaGreatDoor
set_option linter.unusedVariables false
set_option linter.unusedSimpArgs false
open Go.RowKit

def exS : Sgn := ⟨1, 1, 70, 200, 1, 1, 0, 9, []⟩
theorem ex_srt : srt [0, 1000, 200, 600] = [0, 200, 600, 1000] := by simp [srt, List.mergeSort]
theorem ex_srt1 : srt [1] = [1] := by simp [srt]
theorem ex_lst : lstE 1000 [600] [exS] [] = 0 := by
  have e1 : nosK [exS] [exS].length = [1] := rfl
  have e2 : nosE [] ([] : List Edc).length = [] := rfl
  have e3 : srt ([] : List Int) = [] := by simp [srt]
  unfold lstE sgnsB edcsB numB
  rw [e1, e2, e3, ex_srt1]
  decide
theorem ex_held (row : List Pst) (h : RowL 1000 [600] 1 3 [exS] row) : hldM 1000 1 1 row = [(200, 600, 70)] := by
  obtain ⟨ad, cp, l1, hp, -, rfl⟩ := h
  have e : rowK 1000 [600] 1 3 [exS] ad cp [exS].length = [(mkP 1000 [600] 1 exS, ad 0, cp 0)] := rfl
  rw [e] at hp
  obtain rfl := List.perm_singleton.1 hp
  have e2 : (finP [(mkP 1000 [600] 1 exS, ad 0, cp 0)] ([(mkP 1000 [600] 1 exS, ad 0, cp 0)].length - 1)).map (·.1) = [mkP 1000 [600] 1 exS] := rfl
  rw [e2]
  have e3 : cutsK 1000 1 [mkP 1000 [600] 1 exS] [mkP 1000 [600] 1 exS].length = [0, 1000, 200, 600] := by decide
  unfold hldM ascL
  rw [e3, ex_srt]
  decide
theorem pairs_nilR (w : World) : PairsS w none [] := ⟨by decide, fun i hi => absurd hi (Nat.not_lt_zero i), 0, 0, fun h => (h rfl).elim, fun i hi => absurd hi (Nat.not_lt_zero i)⟩
theorem ex_ints {w : World} {b : Nat} (h : w.cell? ⟨b, 0, none⟩ = some (.int .i64 600)) : IntsS w (some ⟨b, 0, none⟩) [600] := ⟨by decide, fun i hi => by
  have hi : i < 1 := hi
  obtain rfl : i = 0 := by omega
  exact ⟨by decide, by decide⟩, b, 0, fun _ => rfl, fun i hi => by
  have hi : i < 1 := hi
  obtain rfl : i = 0 := by omega
  exact h⟩
theorem ex_sgn {w : World} {b : Nat} (h : w.heap[b]? = some (.cells #[.int .i64 1, .int .i64 1, .int .i64 70, .int .i64 200, .int .i64 1, .int .i64 1, .int .i64 0, .int .i64 9, .slice none 0 0] 69)) : SgnS w (some ⟨b, 0, none⟩) [exS] := ⟨by decide, b, 0, fun _ => none, fun _ => 0, fun _ => rfl, fun i hi => by
  have hi : i < 1 := hi
  obtain rfl : i = 0 := by omega
  exact ⟨⟨by simp [World.cell?, h]; rfl, by simp [World.cell?, h]; rfl, by simp [World.cell?, h]; rfl, by simp [World.cell?, h]; rfl, by simp [World.cell?, h]; rfl, by simp [World.cell?, h]; rfl, by simp [World.cell?, h]; rfl, by simp [World.cell?, h]; rfl⟩, by simp [World.cell?, h]; rfl, pairs_nilR _⟩⟩
/-- The example's stretch. -/
def ExE (w : World) (e : Ending) (w' : World) : Prop := ∃ g c, e = .returned (.tuple #[.slice (some ⟨g, 0, none⟩) 1 c, .int .i64 0]) ∧ w'.cell? ⟨g, 0, none⟩ = some (.int .i64 200) ∧ w'.cell? ⟨g, 1, none⟩ = some (.int .i64 600) ∧ w'.cell? ⟨g, 2, none⟩ = some (.int .i64 70) ∧ Below w.heap.size w w'
theorem ex_call (b1 b2 : Nat) (w : World) (h1 : IntsS w (some ⟨b1, 0, none⟩) [600]) (h2 : SgnS w (some ⟨b2, 0, none⟩) [exS]) : Calls Tryz.prog 18 #[.agg #[.int .i64 1000, .slice (some ⟨b1, 0, none⟩) 1 1], .slice (some ⟨b2, 0, none⟩) 1 1, .int .i64 3, .int .i64 1, .int .i64 1] w (ExE w) := by
  refine (Held_good 1000 (some ⟨b1, 0, none⟩) [600] 1 (some ⟨b2, 0, none⟩) [exS] 1 3 1 1 ex_lst (by decide) (by decide) (by decide) w h1 h2).mono ?_
  rintro e w' ⟨row, b, c, hRL, rfl, hown, hb⟩
  rw [ex_held row hRL] at hown ⊢
  rcases hown.2 with ⟨h1, h2⟩ | ⟨g2, c2, cur, h1, _⟩
  · cases h2
  · obtain ⟨rfl, rfl⟩ : b = some ⟨g2, 0, none⟩ ∧ c = c2 := by simpa using h1
    exact ⟨g2, c, rfl, (World.ownsRow.cellAt hown 0 (by decide)).trans rfl, (World.ownsRow.cellAt hown 1 (by decide)).trans rfl, (World.ownsRow.cellAt hown 2 (by decide)).trans rfl, hb⟩
set_option maxRecDepth 100000 in
set_option maxHeartbeats 1000000 in
theorem first_any (w : World) : Calls Tryz.prog 8 #[] w fun e w' => e = .returned (.bool true) ∧ Below w.heap.size w w' := by
  go_enter Tryz.func8, Tryz.ntmps8
  go_wp2_with fail
  obtain ⟨wB, hwB⟩ : ∃ wB, ((w.alloc (.cells #[.int .i64 600] 3)).alloc (.cells #[.int .i64 1000, .slice (some ⟨w.heap.size, 0, none⟩) 1 1] 24)).alloc (.cells #[.int .i64 1, .int .i64 1, .int .i64 70, .int .i64 200, .int .i64 1, .int .i64 1, .int .i64 0, .int .i64 9, .slice none 0 0] 69) = wB := ⟨_, rfl⟩
  have hb : Below w.heap.size w wB := by rw [← hwB]; exact (((Below.refl _ _).alloc (Nat.le_refl _) _).alloc (by simp) _).alloc (by simp; omega) _
  have HI : Hid (IntsS wB (some ⟨w.heap.size, 0, none⟩) [600]) := Lib.hid (ex_ints (by rw [← hwB]; simp [go_sem]))
  have HS : Hid (SgnS wB (some ⟨w.heap.size + 1 + 1, 0, none⟩) [exS]) := Lib.hid (ex_sgn (by rw [← hwB]; have := heap_alloc_new ((w.alloc (.cells #[.int .i64 600] 3)).alloc (.cells #[.int .i64 1000, .slice (some ⟨w.heap.size, 0, none⟩) 1 1] 24)) (.cells #[.int .i64 1, .int .i64 1, .int .i64 70, .int .i64 200, .int .i64 1, .int .i64 1, .int .i64 0, .int .i64 9, .slice none 0 0] 69); simpa using this))
  rw [hwB]
  clear hwB
  refine (ex_call _ _ _ HI.out HS.out).mono ?_
  rintro e w1 ⟨g, c, rfl, c0, c1, c2, hb1⟩
  have hb := hb.trans (hb1.mono hb.size)
  clear hb1 HI HS
  go_wp2_with fail
  go_ret
  exact ⟨rfl, hb⟩
end Go.Proofs.YtlpdjinhkmgbgaaGreatDoor

namespace Go.Proofs.YtlpdjinhkmgbgaaGreatDoor
set_option linter.unusedVariables false
set_option linter.unusedSimpArgs false
open Go.RowKit

/-- Heavy says whether an ask is too large. -/
def HvyE (L : Int) (js : List Int) (l : List Sgn) (q : List Edc) (w : World) (e : Ending) (w' : World) : Prop :=
  ∃ b : Bool, (b = false → js.length ≤ 60 ∧ l.length ≤ 120 ∧ q.length ≤ 60 ∧ (lineB L js = true → L ≤ 500)) ∧ e = .returned (.bool b) ∧ Below w.heap.size w w'
set_option maxRecDepth 100000 in
set_option maxHeartbeats 2000000 in
theorem Heavy_any (L : Int) (a : Option Addr) (js : List Int) (ca : Nat) (aa : Option Addr) (l : List Sgn) (cl : Nat) (ae : Option Addr) (q : List Edc) (cq : Nat) (q0 q1 q2 q3 : Int) (w : World) (hI : IntsS w a js) (hA : SgnS w aa l) (hE : EdS w ae q) : Calls Tryz.prog 7 #[.agg #[.int .i64 L, .slice a js.length ca, .slice aa l.length cl, .slice ae q.length cq, .int .i64 q0, .int .i64 q1, .int .i64 q2, .int .i64 q3]] w (HvyE L js l q w) := by
  have HV := Lib.hid (fun W (hW : Below w.heap.size w W) => refValidLine_r L a js ca W (hI.below hW))
  obtain ⟨-, blk, off, ad, cp, hadr, hc⟩ := hA
  have HC : Hid (∀ i, i < l.length → w.cell? ⟨blk, off + i * 9 + 8, none⟩ = some (.slice (ad i) (gs l i).cv.length (cp i))) := Lib.hid fun i hi => (hc i hi).2.1
  have HL : Hid (0 < l.length → aa = some ⟨blk, off, none⟩) := Lib.hid fun h => hadr (List.ne_nil_of_length_pos h)
  have HCV : Hid (∀ i, i < l.length → (gs l i).cv.length ≤ 9223372036854775807) := Lib.hid fun i hi => (hc i hi).2.2.1
  have hq := hE.1
  have hj := hI.1
  clear hI hE hadr hc
  by_cases h1 : 60 < js.length
  · have h1i : (60 : Int) < (js.length : Int) := by omega
    clear HV HC HL
    go_enter Tryz.func7, Tryz.ntmps7
    go_wp2_with fail
    obtain ⟨wB, hwB⟩ : ∃ wB, w.alloc (.cells #[.int .i64 L, .slice a js.length ca, .slice aa l.length cl, .slice ae q.length cq, .int .i64 q0, .int .i64 q1, .int .i64 q2, .int .i64 q3] 28) = wB := ⟨_, rfl⟩
    have hb : Below w.heap.size w wB := by rw [← hwB]; exact (Below.refl _ _).alloc (Nat.le_refl _) _
    have p0 : wB.cell? ⟨w.heap.size, 0, none⟩ = some (.int .i64 L) := by rw [← hwB]; simp [go_sem]
    have p1 : wB.cell? ⟨w.heap.size, 1, none⟩ = some (.slice a js.length ca) := by rw [← hwB]; simp [go_sem]
    have p2 : wB.cell? ⟨w.heap.size, 2, none⟩ = some (.slice aa l.length cl) := by rw [← hwB]; simp [go_sem]
    have p3 : wB.cell? ⟨w.heap.size, 3, none⟩ = some (.slice ae q.length cq) := by rw [← hwB]; simp [go_sem]
    have p4 : wB.cell? ⟨w.heap.size, 4, none⟩ = some (.int .i64 q0) := by rw [← hwB]; simp [go_sem]
    have p5 : wB.cell? ⟨w.heap.size, 5, none⟩ = some (.int .i64 q1) := by rw [← hwB]; simp [go_sem]
    have p6 : wB.cell? ⟨w.heap.size, 6, none⟩ = some (.int .i64 q2) := by rw [← hwB]; simp [go_sem]
    have p7 : wB.cell? ⟨w.heap.size, 7, none⟩ = some (.int .i64 q3) := by rw [← hwB]; simp [go_sem]
    rw [hwB]
    clear hwB
    go_wp2_with fail
    go_ret
    exact ⟨true, (fun h => by cases h), rfl, hb⟩
  have h1i : ¬ (60 : Int) < (js.length : Int) := by omega
  by_cases h2 : 120 < l.length
  · have h2i : (120 : Int) < (l.length : Int) := by omega
    clear HV HC HL
    go_enter Tryz.func7, Tryz.ntmps7
    go_wp2_with fail
    obtain ⟨wB, hwB⟩ : ∃ wB, w.alloc (.cells #[.int .i64 L, .slice a js.length ca, .slice aa l.length cl, .slice ae q.length cq, .int .i64 q0, .int .i64 q1, .int .i64 q2, .int .i64 q3] 28) = wB := ⟨_, rfl⟩
    have hb : Below w.heap.size w wB := by rw [← hwB]; exact (Below.refl _ _).alloc (Nat.le_refl _) _
    have p0 : wB.cell? ⟨w.heap.size, 0, none⟩ = some (.int .i64 L) := by rw [← hwB]; simp [go_sem]
    have p1 : wB.cell? ⟨w.heap.size, 1, none⟩ = some (.slice a js.length ca) := by rw [← hwB]; simp [go_sem]
    have p2 : wB.cell? ⟨w.heap.size, 2, none⟩ = some (.slice aa l.length cl) := by rw [← hwB]; simp [go_sem]
    have p3 : wB.cell? ⟨w.heap.size, 3, none⟩ = some (.slice ae q.length cq) := by rw [← hwB]; simp [go_sem]
    have p4 : wB.cell? ⟨w.heap.size, 4, none⟩ = some (.int .i64 q0) := by rw [← hwB]; simp [go_sem]
    have p5 : wB.cell? ⟨w.heap.size, 5, none⟩ = some (.int .i64 q1) := by rw [← hwB]; simp [go_sem]
    have p6 : wB.cell? ⟨w.heap.size, 6, none⟩ = some (.int .i64 q2) := by rw [← hwB]; simp [go_sem]
    have p7 : wB.cell? ⟨w.heap.size, 7, none⟩ = some (.int .i64 q3) := by rw [← hwB]; simp [go_sem]
    rw [hwB]
    clear hwB
    go_wp2_with fail
    go_ret
    exact ⟨true, (fun h => by cases h), rfl, hb⟩
  have h2i : ¬ (120 : Int) < (l.length : Int) := by omega
  by_cases h3 : 60 < q.length
  · have h3i : (60 : Int) < (q.length : Int) := by omega
    clear HV HC HL
    go_enter Tryz.func7, Tryz.ntmps7
    go_wp2_with fail
    obtain ⟨wB, hwB⟩ : ∃ wB, w.alloc (.cells #[.int .i64 L, .slice a js.length ca, .slice aa l.length cl, .slice ae q.length cq, .int .i64 q0, .int .i64 q1, .int .i64 q2, .int .i64 q3] 28) = wB := ⟨_, rfl⟩
    have hb : Below w.heap.size w wB := by rw [← hwB]; exact (Below.refl _ _).alloc (Nat.le_refl _) _
    have p0 : wB.cell? ⟨w.heap.size, 0, none⟩ = some (.int .i64 L) := by rw [← hwB]; simp [go_sem]
    have p1 : wB.cell? ⟨w.heap.size, 1, none⟩ = some (.slice a js.length ca) := by rw [← hwB]; simp [go_sem]
    have p2 : wB.cell? ⟨w.heap.size, 2, none⟩ = some (.slice aa l.length cl) := by rw [← hwB]; simp [go_sem]
    have p3 : wB.cell? ⟨w.heap.size, 3, none⟩ = some (.slice ae q.length cq) := by rw [← hwB]; simp [go_sem]
    have p4 : wB.cell? ⟨w.heap.size, 4, none⟩ = some (.int .i64 q0) := by rw [← hwB]; simp [go_sem]
    have p5 : wB.cell? ⟨w.heap.size, 5, none⟩ = some (.int .i64 q1) := by rw [← hwB]; simp [go_sem]
    have p6 : wB.cell? ⟨w.heap.size, 6, none⟩ = some (.int .i64 q2) := by rw [← hwB]; simp [go_sem]
    have p7 : wB.cell? ⟨w.heap.size, 7, none⟩ = some (.int .i64 q3) := by rw [← hwB]; simp [go_sem]
    rw [hwB]
    clear hwB
    go_wp2_with fail
    go_ret
    exact ⟨true, (fun h => by cases h), rfl, hb⟩
  have h3i : ¬ (60 : Int) < (q.length : Int) := by omega
  cases h4 : lineB L js with
  | true =>
    rw [h4] at HV
    by_cases h5 : 500 < L
    · clear HC HL h4
      go_enter Tryz.func7, Tryz.ntmps7
      go_wp2_with fail
      obtain ⟨wB, hwB⟩ : ∃ wB, w.alloc (.cells #[.int .i64 L, .slice a js.length ca, .slice aa l.length cl, .slice ae q.length cq, .int .i64 q0, .int .i64 q1, .int .i64 q2, .int .i64 q3] 28) = wB := ⟨_, rfl⟩
      have hb : Below w.heap.size w wB := by rw [← hwB]; exact (Below.refl _ _).alloc (Nat.le_refl _) _
      have p0 : wB.cell? ⟨w.heap.size, 0, none⟩ = some (.int .i64 L) := by rw [← hwB]; simp [go_sem]
      have p1 : wB.cell? ⟨w.heap.size, 1, none⟩ = some (.slice a js.length ca) := by rw [← hwB]; simp [go_sem]
      have p2 : wB.cell? ⟨w.heap.size, 2, none⟩ = some (.slice aa l.length cl) := by rw [← hwB]; simp [go_sem]
      have p3 : wB.cell? ⟨w.heap.size, 3, none⟩ = some (.slice ae q.length cq) := by rw [← hwB]; simp [go_sem]
      have p4 : wB.cell? ⟨w.heap.size, 4, none⟩ = some (.int .i64 q0) := by rw [← hwB]; simp [go_sem]
      have p5 : wB.cell? ⟨w.heap.size, 5, none⟩ = some (.int .i64 q1) := by rw [← hwB]; simp [go_sem]
      have p6 : wB.cell? ⟨w.heap.size, 6, none⟩ = some (.int .i64 q2) := by rw [← hwB]; simp [go_sem]
      have p7 : wB.cell? ⟨w.heap.size, 7, none⟩ = some (.int .i64 q3) := by rw [← hwB]; simp [go_sem]
      rw [hwB]
      clear hwB
      go_wp2_with (go_at_call 26; refine (HV.out _ hb).mono ?_; rintro e w1 ⟨rfl, hb1⟩; have hbw := hb.trans (hb1.mono hb.size); replace p0 := cell_below p0 hb1; replace p1 := cell_below p1 hb1; replace p2 := cell_below p2 hb1; replace p3 := cell_below p3 hb1; replace p4 := cell_below p4 hb1; replace p5 := cell_below p5 hb1; replace p6 := cell_below p6 hb1; replace p7 := cell_below p7 hb1)
      go_ret
      exact ⟨true, (fun h => by cases h), rfl, hbw⟩
    · have HB : Hid (lineB L js = true → L ≤ 500) := Lib.hid (fun _ => by omega)
      clear h4
      go_enter Tryz.func7, Tryz.ntmps7
      go_wp2_with fail
      obtain ⟨wB, hwB⟩ : ∃ wB, w.alloc (.cells #[.int .i64 L, .slice a js.length ca, .slice aa l.length cl, .slice ae q.length cq, .int .i64 q0, .int .i64 q1, .int .i64 q2, .int .i64 q3] 28) = wB := ⟨_, rfl⟩
      have hb : Below w.heap.size w wB := by rw [← hwB]; exact (Below.refl _ _).alloc (Nat.le_refl _) _
      have p0 : wB.cell? ⟨w.heap.size, 0, none⟩ = some (.int .i64 L) := by rw [← hwB]; simp [go_sem]
      have p1 : wB.cell? ⟨w.heap.size, 1, none⟩ = some (.slice a js.length ca) := by rw [← hwB]; simp [go_sem]
      have p2 : wB.cell? ⟨w.heap.size, 2, none⟩ = some (.slice aa l.length cl) := by rw [← hwB]; simp [go_sem]
      have p3 : wB.cell? ⟨w.heap.size, 3, none⟩ = some (.slice ae q.length cq) := by rw [← hwB]; simp [go_sem]
      have p4 : wB.cell? ⟨w.heap.size, 4, none⟩ = some (.int .i64 q0) := by rw [← hwB]; simp [go_sem]
      have p5 : wB.cell? ⟨w.heap.size, 5, none⟩ = some (.int .i64 q1) := by rw [← hwB]; simp [go_sem]
      have p6 : wB.cell? ⟨w.heap.size, 6, none⟩ = some (.int .i64 q2) := by rw [← hwB]; simp [go_sem]
      have p7 : wB.cell? ⟨w.heap.size, 7, none⟩ = some (.int .i64 q3) := by rw [← hwB]; simp [go_sem]
      rw [hwB]
      clear hwB
      go_wp2_with (go_at_call 26; refine (HV.out _ hb).mono ?_; rintro e w1 ⟨rfl, hb1⟩; have hbw := hb.trans (hb1.mono hb.size); replace p0 := cell_below p0 hb1; replace p1 := cell_below p1 hb1; replace p2 := cell_below p2 hb1; replace p3 := cell_below p3 hb1; replace p4 := cell_below p4 hb1; replace p5 := cell_below p5 hb1; replace p6 := cell_below p6 hb1; replace p7 := cell_below p7 hb1)
      go_loopw [3] (fun i wr => ∃ k : Nat, k ≤ l.length ∧ i = .int .i64 k ∧ Below w1.heap.size w1 wr) (fun i _ => l.length - (intOf i).toNat)
      case atStart => exact ⟨0, Nat.zero_le _, rfl, Below.refl _ _⟩
      case round =>
        obtain ⟨k, hk, rfl, hbr⟩ := hrel
        have p2 := cell_below p2 hbr
        by_cases hlt : k < l.length
        · obtain rfl := HL.out (by omega)
          have hbo := hbw.trans (hbr.mono hbw.size)
          have c8 := cell_below (HC.out k hlt) hbo
          have hcv := HCV.out k hlt
          have hkl : (k : Int) < (l.length : Int) := by omega
          have hmeas : l.length - (k + 1) < l.length - k := by omega
          clear HC HL HCV
          generalize ad k = adk at *
          generalize cp k = cpk at *
          generalize (gs l k).cv.length = m at *
          by_cases hm : 20 < m
          · have hmi : (20 : Int) < (m : Int) := by omega
            go_wp2_with fail
            go_ret
            exact ⟨true, (fun h => by cases h), rfl, hbo⟩
          · have hmi : ¬ (20 : Int) < (m : Int) := by omega
            go_wp2_with fail
            go_roundw
            case rel => exact ⟨k + 1, by omega, by go_num, hbr⟩
            case measure => first | (simp [intOf]; exact hmeas) | simpa [intOf] using hmeas
        · obtain rfl : k = l.length := by omega
          go_wp2_with fail
          go_ret
          exact ⟨false, fun _ => ⟨by omega, by omega, by omega, HB.out⟩, rfl, hbw.trans (hbr.mono hbw.size)⟩
  | false =>
    rw [h4] at HV
    have HB : Hid (lineB L js = true → L ≤ 500) := Lib.hid (fun h => by rw [h4] at h; cases h)
    clear h4
    go_enter Tryz.func7, Tryz.ntmps7
    go_wp2_with fail
    obtain ⟨wB, hwB⟩ : ∃ wB, w.alloc (.cells #[.int .i64 L, .slice a js.length ca, .slice aa l.length cl, .slice ae q.length cq, .int .i64 q0, .int .i64 q1, .int .i64 q2, .int .i64 q3] 28) = wB := ⟨_, rfl⟩
    have hb : Below w.heap.size w wB := by rw [← hwB]; exact (Below.refl _ _).alloc (Nat.le_refl _) _
    have p0 : wB.cell? ⟨w.heap.size, 0, none⟩ = some (.int .i64 L) := by rw [← hwB]; simp [go_sem]
    have p1 : wB.cell? ⟨w.heap.size, 1, none⟩ = some (.slice a js.length ca) := by rw [← hwB]; simp [go_sem]
    have p2 : wB.cell? ⟨w.heap.size, 2, none⟩ = some (.slice aa l.length cl) := by rw [← hwB]; simp [go_sem]
    have p3 : wB.cell? ⟨w.heap.size, 3, none⟩ = some (.slice ae q.length cq) := by rw [← hwB]; simp [go_sem]
    have p4 : wB.cell? ⟨w.heap.size, 4, none⟩ = some (.int .i64 q0) := by rw [← hwB]; simp [go_sem]
    have p5 : wB.cell? ⟨w.heap.size, 5, none⟩ = some (.int .i64 q1) := by rw [← hwB]; simp [go_sem]
    have p6 : wB.cell? ⟨w.heap.size, 6, none⟩ = some (.int .i64 q2) := by rw [← hwB]; simp [go_sem]
    have p7 : wB.cell? ⟨w.heap.size, 7, none⟩ = some (.int .i64 q3) := by rw [← hwB]; simp [go_sem]
    rw [hwB]
    clear hwB
    go_wp2_with (go_at_call 26; refine (HV.out _ hb).mono ?_; rintro e w1 ⟨rfl, hb1⟩; have hbw := hb.trans (hb1.mono hb.size); replace p0 := cell_below p0 hb1; replace p1 := cell_below p1 hb1; replace p2 := cell_below p2 hb1; replace p3 := cell_below p3 hb1; replace p4 := cell_below p4 hb1; replace p5 := cell_below p5 hb1; replace p6 := cell_below p6 hb1; replace p7 := cell_below p7 hb1)
    go_loopw [3] (fun i wr => ∃ k : Nat, k ≤ l.length ∧ i = .int .i64 k ∧ Below w1.heap.size w1 wr) (fun i _ => l.length - (intOf i).toNat)
    case atStart => exact ⟨0, Nat.zero_le _, rfl, Below.refl _ _⟩
    case round =>
      obtain ⟨k, hk, rfl, hbr⟩ := hrel
      have p2 := cell_below p2 hbr
      by_cases hlt : k < l.length
      · obtain rfl := HL.out (by omega)
        have hbo := hbw.trans (hbr.mono hbw.size)
        have c8 := cell_below (HC.out k hlt) hbo
        have hcv := HCV.out k hlt
        have hkl : (k : Int) < (l.length : Int) := by omega
        have hmeas : l.length - (k + 1) < l.length - k := by omega
        clear HC HL HCV
        generalize ad k = adk at *
        generalize cp k = cpk at *
        generalize (gs l k).cv.length = m at *
        by_cases hm : 20 < m
        · have hmi : (20 : Int) < (m : Int) := by omega
          go_wp2_with fail
          go_ret
          exact ⟨true, (fun h => by cases h), rfl, hbo⟩
        · have hmi : ¬ (20 : Int) < (m : Int) := by omega
          go_wp2_with fail
          go_roundw
          case rel => exact ⟨k + 1, by omega, by go_num, hbr⟩
          case measure => first | (simp [intOf]; exact hmeas) | simpa [intOf] using hmeas
      · obtain rfl : k = l.length := by omega
        go_wp2_with fail
        go_ret
        exact ⟨false, fun _ => ⟨by omega, by omega, by omega, HB.out⟩, rfl, hbw.trans (hbr.mono hbw.size)⟩
end Go.Proofs.YtlpdjinhkmgbgaaGreatDoor

namespace Go.Proofs.YtlpdjinhkmgbgaaGreatDoor
set_option linter.unusedVariables false
set_option linter.unusedSimpArgs false
open Go.RowKit

set_option maxRecDepth 100000 in
set_option maxHeartbeats 1000000 in
theorem topic_r (n : Int) (w : World) : Calls Tryz.prog 44 #[.int .i64 n] w fun e w' => e = .returned (.bool (topB n)) ∧ w = w' := by
  by_cases h1 : n = 1
  · subst h1
    go_enter Tryz.func44, Tryz.ntmps44
    go_wp2_with fail
    go_ret
    exact ⟨rfl, rfl⟩
  · have d1 : (n == 1) = false := beq_false_of_ne h1
    have hr : Hid (topB n = (n == 2)) := Lib.hid (by unfold topB; rw [d1, Bool.false_or])
    clear h1
    go_enter Tryz.func44, Tryz.ntmps44
    go_wp2_with fail
    go_ret
    exact ⟨by rw [hr.out] <;> rfl, rfl⟩
end Go.Proofs.YtlpdjinhkmgbgaaGreatDoor

namespace Go.Proofs.YtlpdjinhkmgbgaaGreatDoor
set_option linter.unusedVariables false
set_option linter.unusedSimpArgs false
open Go.RowKit

/-- right says whether an ask has valid parts. -/
def RgtE (L : Int) (js : List Int) (l : List Sgn) (q : List Edc) (q0 q1 q2 : Int) (w : World) (e : Ending) (w' : World) : Prop :=
  ∃ b : Bool, (b = true → lstE L js l q = 0 ∧ L ≤ 200 ∧ btw q0 0 10000000 = true ∧ dirB q1 = true ∧ topB q2 = true) ∧ e = .returned (.bool b) ∧ Below w.heap.size w w'
theorem lst_zero {L : Int} {js : List Int} {l : List Sgn} {q : List Edc} (h1 : sgnsB L js l = true) (h2 : edcsB L js q = true) : lstE L js l q = 0 := by
  unfold lstE
  rw [sgns_line h1, h1, h2]
  rfl
/-- The metre of an ask, within its line. -/
theorem metre_u (L q3 : Int) (h1 : 1 ≤ L) (h2 : L ≤ 200) : ∃ U M : Int, IntKind.u64.wrap q3 = U ∧ U.tmod L = M ∧ 0 ≤ M ∧ M < L ∧ IntKind.u64.wrap L = L ∧ wrap64 M = M ∧ btw M 0 (L - 1) = true := by
  have hw : ∀ x : Int, IntKind.u64.wrap x = x % 18446744073709551616 := fun x => by
    unfold IntKind.wrap
    simp [IntKind.signed, IntKind.bits]
  have hU : 0 ≤ IntKind.u64.wrap q3 := by rw [hw]; exact Int.emod_nonneg _ (by decide)
  have hM0 : 0 ≤ (IntKind.u64.wrap q3).tmod L := Int.tmod_nonneg _ hU
  have hM1 : (IntKind.u64.wrap q3).tmod L < L := Int.tmod_lt_of_pos _ (by omega)
  refine ⟨_, _, rfl, rfl, hM0, hM1, by rw [hw]; omega, ?_, ?_⟩
  · unfold wrap64; omega
  · unfold btw; rw [decide_eq_true hM0, decide_eq_true (by omega)]; rfl
set_option linter.unnecessarySimpa false
set_option maxRecDepth 100000 in
set_option maxHeartbeats 4000000 in
theorem right_r (L : Int) (a : Option Addr) (js : List Int) (ca : Nat) (aa : Option Addr) (l : List Sgn) (cl : Nat) (ae : Option Addr) (q : List Edc) (cq : Nat) (q0 q1 q2 q3 : Int) (w : World) (hI : IntsS w a js) (hA : SgnS w aa l) (hE : EdS w ae q) : Calls Tryz.prog 17 #[.agg #[.int .i64 L, .slice a js.length ca, .slice aa l.length cl, .slice ae q.length cq, .int .i64 q0, .int .i64 q1, .int .i64 q2, .int .i64 q3]] w (RgtE L js l q q0 q1 q2 w) := by
  have HH := Lib.hid (fun W (hW : Below w.heap.size w W) => Heavy_any L a js ca aa l cl ae q cq q0 q1 q2 q3 W (hI.below hW) (hA.below hW) (hE.below hW))
  have HS := Lib.hid (fun W (hW : Below w.heap.size w W) => refValidSigns_r L a js ca aa l cl W (hI.below hW) (hA.below hW))
  have HE := Lib.hid (fun W (hW : Below w.heap.size w W) => refValidEdicts_r L a js ca ae q cq W (hI.below hW) (hE.below hW))
  have K0 := Lib.hid (fun W => hour_r q0 W)
  have K1 := Lib.hid (fun W => way_r q1 W)
  have K2 := Lib.hid (fun W => topic_r q2 W)
  clear hI hA hE
  obtain ⟨s1, h⟩ : ∃ s1, sgnsB L js l = s1 := ⟨_, rfl⟩
  rw [h] at HS
  have HS1 := Lib.hid h
  clear h
  obtain ⟨s2, h⟩ : ∃ s2, edcsB L js q = s2 := ⟨_, rfl⟩
  rw [h] at HE
  have HS2 := Lib.hid h
  clear h
  obtain ⟨s3, h⟩ : ∃ s3, btw q0 0 10000000 = s3 := ⟨_, rfl⟩
  rw [h] at K0
  have HS3 := Lib.hid h
  clear h
  obtain ⟨s4, h⟩ : ∃ s4, dirB q1 = s4 := ⟨_, rfl⟩
  rw [h] at K1
  have HS4 := Lib.hid h
  clear h
  obtain ⟨s5, h⟩ : ∃ s5, topB q2 = s5 := ⟨_, rfl⟩
  rw [h] at K2
  have HS5 := Lib.hid h
  clear h
  go_enter Tryz.func17, Tryz.ntmps17
  go_wp2_with fail
  obtain ⟨wB, hwB⟩ : ∃ wB, w.alloc (.cells #[.int .i64 L, .slice a js.length ca, .slice aa l.length cl, .slice ae q.length cq, .int .i64 q0, .int .i64 q1, .int .i64 q2, .int .i64 q3] 28) = wB := ⟨_, rfl⟩
  have hb : Below w.heap.size w wB := by rw [← hwB]; exact (Below.refl _ _).alloc (Nat.le_refl _) _
  have p0 : wB.cell? ⟨w.heap.size, 0, none⟩ = some (.int .i64 L) := by rw [← hwB]; simp [go_sem]
  have p1 : wB.cell? ⟨w.heap.size, 1, none⟩ = some (.slice a js.length ca) := by rw [← hwB]; simp [go_sem]
  have p2 : wB.cell? ⟨w.heap.size, 2, none⟩ = some (.slice aa l.length cl) := by rw [← hwB]; simp [go_sem]
  have p3 : wB.cell? ⟨w.heap.size, 3, none⟩ = some (.slice ae q.length cq) := by rw [← hwB]; simp [go_sem]
  have p4 : wB.cell? ⟨w.heap.size, 4, none⟩ = some (.int .i64 q0) := by rw [← hwB]; simp [go_sem]
  have p5 : wB.cell? ⟨w.heap.size, 5, none⟩ = some (.int .i64 q1) := by rw [← hwB]; simp [go_sem]
  have p6 : wB.cell? ⟨w.heap.size, 6, none⟩ = some (.int .i64 q2) := by rw [← hwB]; simp [go_sem]
  have p7 : wB.cell? ⟨w.heap.size, 7, none⟩ = some (.int .i64 q3) := by rw [← hwB]; simp [go_sem]
  rw [hwB]
  clear hwB
  refine (HH.out _ hb).mono ?_
  rintro e wX ⟨bv, hHv, rfl, hb1⟩
  replace p0 := cell_below p0 hb1
  replace p1 := cell_below p1 hb1
  replace p2 := cell_below p2 hb1
  replace p3 := cell_below p3 hb1
  replace p4 := cell_below p4 hb1
  replace p5 := cell_below p5 hb1
  replace p6 := cell_below p6 hb1
  replace p7 := cell_below p7 hb1
  have hbw := hb.trans (hb1.mono hb.size)
  clear HH hb1 hHv
  cases bv with
  | true =>
    go_wp2_with fail
    go_ret
    exact ⟨false, (fun h => by cases h), rfl, hbw⟩
  | false =>
    cases s1 with
    | false =>
      go_wp2_with (first | (go_at_call 34; refine (HS.out _ hbw).mono ?_; rintro e w9 ⟨rfl, hb9⟩; replace hbw := hbw.trans (hb9.mono hbw.size); replace p0 := cell_below p0 hb9; replace p1 := cell_below p1 hb9; replace p2 := cell_below p2 hb9; replace p3 := cell_below p3 hb9; replace p4 := cell_below p4 hb9; replace p5 := cell_below p5 hb9; replace p6 := cell_below p6 hb9; replace p7 := cell_below p7 hb9; clear hb9) | (go_at_call 35; refine (HE.out _ hbw).mono ?_; rintro e w9 ⟨rfl, hb9⟩; replace hbw := hbw.trans (hb9.mono hbw.size); replace p0 := cell_below p0 hb9; replace p1 := cell_below p1 hb9; replace p2 := cell_below p2 hb9; replace p3 := cell_below p3 hb9; replace p4 := cell_below p4 hb9; replace p5 := cell_below p5 hb9; replace p6 := cell_below p6 hb9; replace p7 := cell_below p7 hb9; clear hb9) | (go_at_call 11; refine (K0.out _).mono ?_; rintro e w9 ⟨rfl, rfl⟩) | (go_at_call 43; refine (K1.out _).mono ?_; rintro e w9 ⟨rfl, rfl⟩) | (go_at_call 44; refine (K2.out _).mono ?_; rintro e w9 ⟨rfl, rfl⟩))
      go_ret
      exact ⟨false, (fun h => by cases h), rfl, hbw⟩
    | true =>
      cases s2 with
      | false =>
        go_wp2_with (first | (go_at_call 34; refine (HS.out _ hbw).mono ?_; rintro e w9 ⟨rfl, hb9⟩; replace hbw := hbw.trans (hb9.mono hbw.size); replace p0 := cell_below p0 hb9; replace p1 := cell_below p1 hb9; replace p2 := cell_below p2 hb9; replace p3 := cell_below p3 hb9; replace p4 := cell_below p4 hb9; replace p5 := cell_below p5 hb9; replace p6 := cell_below p6 hb9; replace p7 := cell_below p7 hb9; clear hb9) | (go_at_call 35; refine (HE.out _ hbw).mono ?_; rintro e w9 ⟨rfl, hb9⟩; replace hbw := hbw.trans (hb9.mono hbw.size); replace p0 := cell_below p0 hb9; replace p1 := cell_below p1 hb9; replace p2 := cell_below p2 hb9; replace p3 := cell_below p3 hb9; replace p4 := cell_below p4 hb9; replace p5 := cell_below p5 hb9; replace p6 := cell_below p6 hb9; replace p7 := cell_below p7 hb9; clear hb9) | (go_at_call 11; refine (K0.out _).mono ?_; rintro e w9 ⟨rfl, rfl⟩) | (go_at_call 43; refine (K1.out _).mono ?_; rintro e w9 ⟨rfl, rfl⟩) | (go_at_call 44; refine (K2.out _).mono ?_; rintro e w9 ⟨rfl, rfl⟩))
        go_ret
        exact ⟨false, (fun h => by cases h), rfl, hbw⟩
      | true =>
        by_cases h2 : L ≤ 200
        · have d2 : decide (L ≤ 200) = true := decide_eq_true h2
          cases s3 with
          | false =>
            go_wp2_with (first | (go_at_call 34; refine (HS.out _ hbw).mono ?_; rintro e w9 ⟨rfl, hb9⟩; replace hbw := hbw.trans (hb9.mono hbw.size); replace p0 := cell_below p0 hb9; replace p1 := cell_below p1 hb9; replace p2 := cell_below p2 hb9; replace p3 := cell_below p3 hb9; replace p4 := cell_below p4 hb9; replace p5 := cell_below p5 hb9; replace p6 := cell_below p6 hb9; replace p7 := cell_below p7 hb9; clear hb9) | (go_at_call 35; refine (HE.out _ hbw).mono ?_; rintro e w9 ⟨rfl, hb9⟩; replace hbw := hbw.trans (hb9.mono hbw.size); replace p0 := cell_below p0 hb9; replace p1 := cell_below p1 hb9; replace p2 := cell_below p2 hb9; replace p3 := cell_below p3 hb9; replace p4 := cell_below p4 hb9; replace p5 := cell_below p5 hb9; replace p6 := cell_below p6 hb9; replace p7 := cell_below p7 hb9; clear hb9) | (go_at_call 11; refine (K0.out _).mono ?_; rintro e w9 ⟨rfl, rfl⟩) | (go_at_call 43; refine (K1.out _).mono ?_; rintro e w9 ⟨rfl, rfl⟩) | (go_at_call 44; refine (K2.out _).mono ?_; rintro e w9 ⟨rfl, rfl⟩))
            go_ret
            exact ⟨false, (fun h => by cases h), rfl, hbw⟩
          | true =>
            cases s4 with
            | false =>
              go_wp2_with (first | (go_at_call 34; refine (HS.out _ hbw).mono ?_; rintro e w9 ⟨rfl, hb9⟩; replace hbw := hbw.trans (hb9.mono hbw.size); replace p0 := cell_below p0 hb9; replace p1 := cell_below p1 hb9; replace p2 := cell_below p2 hb9; replace p3 := cell_below p3 hb9; replace p4 := cell_below p4 hb9; replace p5 := cell_below p5 hb9; replace p6 := cell_below p6 hb9; replace p7 := cell_below p7 hb9; clear hb9) | (go_at_call 35; refine (HE.out _ hbw).mono ?_; rintro e w9 ⟨rfl, hb9⟩; replace hbw := hbw.trans (hb9.mono hbw.size); replace p0 := cell_below p0 hb9; replace p1 := cell_below p1 hb9; replace p2 := cell_below p2 hb9; replace p3 := cell_below p3 hb9; replace p4 := cell_below p4 hb9; replace p5 := cell_below p5 hb9; replace p6 := cell_below p6 hb9; replace p7 := cell_below p7 hb9; clear hb9) | (go_at_call 11; refine (K0.out _).mono ?_; rintro e w9 ⟨rfl, rfl⟩) | (go_at_call 43; refine (K1.out _).mono ?_; rintro e w9 ⟨rfl, rfl⟩) | (go_at_call 44; refine (K2.out _).mono ?_; rintro e w9 ⟨rfl, rfl⟩))
              go_ret
              exact ⟨false, (fun h => by cases h), rfl, hbw⟩
            | true =>
              cases s5 with
              | false =>
                go_wp2_with (first | (go_at_call 34; refine (HS.out _ hbw).mono ?_; rintro e w9 ⟨rfl, hb9⟩; replace hbw := hbw.trans (hb9.mono hbw.size); replace p0 := cell_below p0 hb9; replace p1 := cell_below p1 hb9; replace p2 := cell_below p2 hb9; replace p3 := cell_below p3 hb9; replace p4 := cell_below p4 hb9; replace p5 := cell_below p5 hb9; replace p6 := cell_below p6 hb9; replace p7 := cell_below p7 hb9; clear hb9) | (go_at_call 35; refine (HE.out _ hbw).mono ?_; rintro e w9 ⟨rfl, hb9⟩; replace hbw := hbw.trans (hb9.mono hbw.size); replace p0 := cell_below p0 hb9; replace p1 := cell_below p1 hb9; replace p2 := cell_below p2 hb9; replace p3 := cell_below p3 hb9; replace p4 := cell_below p4 hb9; replace p5 := cell_below p5 hb9; replace p6 := cell_below p6 hb9; replace p7 := cell_below p7 hb9; clear hb9) | (go_at_call 11; refine (K0.out _).mono ?_; rintro e w9 ⟨rfl, rfl⟩) | (go_at_call 43; refine (K1.out _).mono ?_; rintro e w9 ⟨rfl, rfl⟩) | (go_at_call 44; refine (K2.out _).mono ?_; rintro e w9 ⟨rfl, rfl⟩))
                go_ret
                exact ⟨false, (fun h => by cases h), rfl, hbw⟩
              | true =>
                go_wp2_with (first | (go_at_call 34; refine (HS.out _ hbw).mono ?_; rintro e w9 ⟨rfl, hb9⟩; replace hbw := hbw.trans (hb9.mono hbw.size); replace p0 := cell_below p0 hb9; replace p1 := cell_below p1 hb9; replace p2 := cell_below p2 hb9; replace p3 := cell_below p3 hb9; replace p4 := cell_below p4 hb9; replace p5 := cell_below p5 hb9; replace p6 := cell_below p6 hb9; replace p7 := cell_below p7 hb9; clear hb9) | (go_at_call 35; refine (HE.out _ hbw).mono ?_; rintro e w9 ⟨rfl, hb9⟩; replace hbw := hbw.trans (hb9.mono hbw.size); replace p0 := cell_below p0 hb9; replace p1 := cell_below p1 hb9; replace p2 := cell_below p2 hb9; replace p3 := cell_below p3 hb9; replace p4 := cell_below p4 hb9; replace p5 := cell_below p5 hb9; replace p6 := cell_below p6 hb9; replace p7 := cell_below p7 hb9; clear hb9) | (go_at_call 11; refine (K0.out _).mono ?_; rintro e w9 ⟨rfl, rfl⟩) | (go_at_call 43; refine (K1.out _).mono ?_; rintro e w9 ⟨rfl, rfl⟩) | (go_at_call 44; refine (K2.out _).mono ?_; rintro e w9 ⟨rfl, rfl⟩))
                go_ret
                exact ⟨true, fun _ => ⟨lst_zero HS1.out HS2.out, h2, HS3.out, HS4.out, HS5.out⟩, rfl, hbw⟩
        · have d2 : decide (L ≤ 200) = false := decide_eq_false h2
          go_wp2_with (first | (go_at_call 34; refine (HS.out _ hbw).mono ?_; rintro e w9 ⟨rfl, hb9⟩; replace hbw := hbw.trans (hb9.mono hbw.size); replace p0 := cell_below p0 hb9; replace p1 := cell_below p1 hb9; replace p2 := cell_below p2 hb9; replace p3 := cell_below p3 hb9; replace p4 := cell_below p4 hb9; replace p5 := cell_below p5 hb9; replace p6 := cell_below p6 hb9; replace p7 := cell_below p7 hb9; clear hb9) | (go_at_call 35; refine (HE.out _ hbw).mono ?_; rintro e w9 ⟨rfl, hb9⟩; replace hbw := hbw.trans (hb9.mono hbw.size); replace p0 := cell_below p0 hb9; replace p1 := cell_below p1 hb9; replace p2 := cell_below p2 hb9; replace p3 := cell_below p3 hb9; replace p4 := cell_below p4 hb9; replace p5 := cell_below p5 hb9; replace p6 := cell_below p6 hb9; replace p7 := cell_below p7 hb9; clear hb9) | (go_at_call 11; refine (K0.out _).mono ?_; rintro e w9 ⟨rfl, rfl⟩) | (go_at_call 43; refine (K1.out _).mono ?_; rintro e w9 ⟨rfl, rfl⟩) | (go_at_call 44; refine (K2.out _).mono ?_; rintro e w9 ⟨rfl, rfl⟩))
          go_ret
          exact ⟨false, (fun h => by cases h), rfl, hbw⟩
end Go.Proofs.YtlpdjinhkmgbgaaGreatDoor

namespace Go.Proofs.YtlpdjinhkmgbgaaGreatDoor
set_option linter.unusedVariables false
set_option linter.unusedSimpArgs false
open Go.RowKit

theorem boolInfo : (Tryz.prog.info? 4).map (fun i => (i.zero, i.size, i.bytes)) = some (some (.bool false), 1, 1) := by kernel_rfl
theorem clB_set (l : List Bool) (j : Nat) (v : Bool) : (clB l).set j (.bool v) = clB (l.set j v) := by
  unfold clB; rw [List.map_set]
set_option linter.unnecessarySimpa false
set_option maxRecDepth 100000 in
set_option maxHeartbeats 4000000 in
theorem ruleWays_any (L : Int) (a : Option Addr) (js : List Int) (ca : Nat) (aa : Option Addr) (l : List Sgn) (cl : Nat) (ae : Option Addr) (q : List Edc) (cq : Nat) (q0 q1 q2 q3 : Int) (w : World) (hI : IntsS w a js) (hA : SgnS w aa l) (hE : EdS w ae q) (hG : WayTab w) : Calls Tryz.prog 5 #[.agg #[.int .i64 L, .slice a js.length ca, .slice aa l.length cl, .slice ae q.length cq, .int .i64 q0, .int .i64 q1, .int .i64 q2, .int .i64 q3]] w fun e w' => e = .returned (.bool true) ∧ Below w.heap.size w w' := by
  have HH := Lib.hid (fun W (hW : Below w.heap.size w W) => right_r L a js ca aa l cl ae q cq q0 q1 q2 q3 W (hI.below hW) (hA.below hW) (hE.below hW))
  have HI := Lib.hid hI
  have HA := Lib.hid hA
  have HE := Lib.hid hE
  have HG := Lib.hid hG
  clear hI hA hE hG
  go_enter Tryz.func5, Tryz.ntmps5
  go_wp2_with fail
  obtain ⟨wB, hwB⟩ : ∃ wB, w.alloc (.cells #[.int .i64 L, .slice a js.length ca, .slice aa l.length cl, .slice ae q.length cq, .int .i64 q0, .int .i64 q1, .int .i64 q2, .int .i64 q3] 28) = wB := ⟨_, rfl⟩
  have hb : Below w.heap.size w wB := by rw [← hwB]; exact (Below.refl _ _).alloc (Nat.le_refl _) _
  have p0 : wB.cell? ⟨w.heap.size, 0, none⟩ = some (.int .i64 L) := by rw [← hwB]; simp [go_sem]
  have p1 : wB.cell? ⟨w.heap.size, 1, none⟩ = some (.slice a js.length ca) := by rw [← hwB]; simp [go_sem]
  have p2 : wB.cell? ⟨w.heap.size, 2, none⟩ = some (.slice aa l.length cl) := by rw [← hwB]; simp [go_sem]
  have p3 : wB.cell? ⟨w.heap.size, 3, none⟩ = some (.slice ae q.length cq) := by rw [← hwB]; simp [go_sem]
  have p4 : wB.cell? ⟨w.heap.size, 4, none⟩ = some (.int .i64 q0) := by rw [← hwB]; simp [go_sem]
  have p5 : wB.cell? ⟨w.heap.size, 5, none⟩ = some (.int .i64 q1) := by rw [← hwB]; simp [go_sem]
  have p6 : wB.cell? ⟨w.heap.size, 6, none⟩ = some (.int .i64 q2) := by rw [← hwB]; simp [go_sem]
  have p7 : wB.cell? ⟨w.heap.size, 7, none⟩ = some (.int .i64 q3) := by rw [← hwB]; simp [go_sem]
  rw [hwB]
  clear hwB
  refine (HH.out _ hb).mono ?_
  rintro e wX ⟨bv, hRt, rfl, hb1⟩
  replace p0 := cell_below p0 hb1
  replace p1 := cell_below p1 hb1
  replace p2 := cell_below p2 hb1
  replace p3 := cell_below p3 hb1
  replace p4 := cell_below p4 hb1
  replace p5 := cell_below p5 hb1
  replace p6 := cell_below p6 hb1
  replace p7 := cell_below p7 hb1
  have hbw := hb.trans (hb1.mono hb.size)
  clear HH hb1
  cases bv with
  | false =>
    clear HI HA HE HG hRt
    go_wp2_with (go_at_call 8; refine (first_any _).mono ?_; rintro e w9 ⟨rfl, hb9⟩)
    go_ret
    exact ⟨rfl, hbw.trans (hb9.mono hbw.size)⟩
  | true =>
    obtain ⟨hV, hL2, hq0, hq1, hq2⟩ := hRt rfl
    clear hRt
    have hz := block_lt p0
    have Z0 := Lib.hid p0
    have Z1 := Lib.hid p1
    have Z2 := Lib.hid p2
    have Z3 := Lib.hid p3
    have Z4 := Lib.hid p4
    have Z5 := Lib.hid p5
    have Z6 := Lib.hid p6
    have Z7 := Lib.hid p7
    have HBW := Lib.hid hbw
    clear hb hbw
    obtain ⟨-, hLa, -⟩ := lst_line hV
    obtain ⟨U, M, hU, hM, hM0, hM1, hwL, hwM, hMb⟩ := metre_u L q3 hLa hL2
    have hL0 : ¬ L = 0 := by omega
    obtain ⟨N, hLN⟩ : ∃ N : Nat, L = N := ⟨L.toNat, by omega⟩
    have hS0 := (lst_iff L js l).2 (lst_sgns hV)
    have hE0 : lstE L js [] q = 0 := lst_zero (by rw [sgns_nil]; exact edcs_line (lst_edcs hV)) (lst_edcs hV)
    have hN2 : N ≤ 200 := by omega
    have hmb : ∀ m : Nat, m < N → btw (m : Int) 0 (L - 1) = true := fun m hm => by unfold btw; rw [decide_eq_true (by omega), decide_eq_true (by omega)]; rfl
    obtain ⟨eN, hE1, hE2, hE3⟩ := gap_run (L := L) (js := js) (l := l) (q := q) (h := q0) (by omega) hq2 hq1
    obtain ⟨fH, hfH⟩ : ∃ fH : Int → Int, (fun m => hldV L js l q0 q1 q2 m) = fH := ⟨_, rfl⟩
    obtain ⟨fM, hfM⟩ : ∃ fM : Int → Int, (fun m => mustV q q0 q2 q1 m) = fM := ⟨_, rfl⟩
    have hSH : heldS L js l q0 q1 q2 = strV (fun v : Int => v == 0) fH N := by unfold heldS strS; rw [hfH, hLN, Int.toNat_natCast]
    have hSW : wantS L q q0 q1 q2 = strV (fun v : Int => v == 0) fM N := by unfold wantS strS; rw [hfM, hLN, Int.toNat_natCast]
    have hat : ∀ m, hldV L js l q0 q1 q2 m = fH m := fun m => by rw [← hfH]
    have hmt : ∀ m, mustV q q0 q2 q1 m = fM m := fun m => by rw [← hfM]
    obtain ⟨SH, hSHe⟩ : ∃ SH, heldS L js l q0 q1 q2 = SH := ⟨_, rfl⟩
    obtain ⟨SW, hSWe⟩ : ∃ SW, wantS L q q0 q1 q2 = SW := ⟨_, rfl⟩
    obtain ⟨G, hGe⟩ : ∃ G, gapK L js l q q0 4 = G := ⟨_, rfl⟩
    obtain ⟨TL, hTLe⟩ : ∃ TL, hisL L js l q1 q2 M = TL := ⟨_, rfl⟩
    obtain ⟨t1, t2⟩ := his_ok (L := L) (js := js) (l := l) (dir := q1) (tp := q2) (m := M) hS0
    rw [hfH, hfM, hGe] at hE2 hE3
    simp only [hat, hmt] at hE2
    rw [hSHe] at hSH
    rw [hSWe] at hSW
    rw [hTLe] at t1 t2
    have HHe := Lib.hid (fun W (hW : Below w.heap.size w W) => show Calls Tryz.prog 18 #[.agg #[.int .i64 L, .slice a js.length ca], .slice aa l.length cl, .int .i64 q0, .int .i64 q1, .int .i64 q2] W (TriA SH 0 W) by
      have h9 := Held_goodS L a js ca aa l cl q0 q1 q2 hS0 hq0 hq1 hq2 W (HI.out.below hW) (HA.out.below hW)
      rw [hSHe] at h9
      exact h9)
    have HWa := Lib.hid (fun W (hW : Below w.heap.size w W) => show Calls Tryz.prog 19 #[.agg #[.int .i64 L, .slice a js.length ca], .slice ae q.length cq, .int .i64 q0, .int .i64 q1, .int .i64 q2] W (TriA SW 0 W) by
      have h9 := Wanted_good L a js ca ae q cq q0 q1 q2 hE0 hq0 hq1 hq2 W (HI.out.below hW) (HE.out.below hW)
      rw [hSWe] at h9
      exact h9)
    have HCo := Lib.hid (fun W (hW : Below w.heap.size w W) => show Calls Tryz.prog 9 #[.agg #[.int .i64 L, .slice a js.length ca], .slice aa l.length cl, .slice ae q.length cq, .int .i64 q0] W (GapA G 0 W) by
      have h9 := Compare_good L a js ca aa l cl ae q cq q0 hV hq0 W (HG.out.below hW) (HI.out.below hW) (HA.out.below hW) (HE.out.below hW)
      rw [hGe] at h9
      exact h9)
    have HSp1 := Lib.hid (fun b c W (hT : TriS W b SH) => show Calls Tryz.prog 20 #[.int .i64 L, .slice b SH.length c] W (SprA fH N W) by
      rw [hLN]; exact spread_r fH N (by omega) SH hSH b c W hT)
    have HSp2 := Lib.hid (fun b c W (hT : TriS W b SW) => show Calls Tryz.prog 20 #[.int .i64 L, .slice b SW.length c] W (SprA fM N W) by
      rw [hLN]; exact spread_r fM N (by omega) SW hSW b c W hT)
    have HHo := Lib.hid (fun (m : Nat) W (hm : m < N) (hW : Below w.heap.size w W) => show Calls Tryz.prog 21 #[.agg #[.int .i64 L, .slice a js.length ca], .slice aa l.length cl, .int .i64 q0, .int .i64 q1, .int .i64 q2, .int .i64 (m : Int)] W (NumA (fH m) 0 W) by
      have h9 := Holds_good L a js ca aa l cl q0 q1 q2 m hS0 hq0 hq1 hq2 (hmb m hm) W (HI.out.below hW) (HA.out.below hW)
      rw [hat] at h9
      exact h9)
    have HMu := Lib.hid (fun (m : Nat) W (hm : m < N) (hW : Below w.heap.size w W) => show Calls Tryz.prog 22 #[.agg #[.int .i64 L, .slice a js.length ca], .slice ae q.length cq, .int .i64 q0, .int .i64 q1, .int .i64 q2, .int .i64 (m : Int)] W (NumA (fM m) 0 W) by
      have h9 := Must_good L a js ca ae q cq q0 q1 q2 m hE0 hq0 hq1 hq2 (hmb m hm) W (HI.out.below hW) (HE.out.below hW)
      rw [hmt] at h9
      exact h9)
    have HHi := Lib.hid (fun W (hW : Below w.heap.size w W) => show Calls Tryz.prog 23 #[.agg #[.int .i64 L, .slice a js.length ca], .slice aa l.length cl, .int .i64 q1, .int .i64 q2, .int .i64 M] W (TriA TL 0 W) by
      have h9 := History_good L a js ca aa l cl q1 q2 M hS0 hq1 hq2 hMb W (HI.out.below hW) (HA.out.below hW)
      rw [hTLe] at h9
      exact h9)
    have HTL : Hid (∀ i, i < TL.length → (gtV TL i).1 = endK TL i ∧ endK TL i < (gtV TL i).2.1 ∧ (endK TL i ≤ q0 → q0 < (gtV TL i).2.1 → fH M = (gtV TL i).2.2)) := Lib.hid fun i hi => by
      obtain ⟨u1, u2, u3⟩ := t1 i hi
      exact ⟨u1, u2, fun h1 h2 => by rw [← hat]; exact u3 q0 h1 h2⟩
    have HTE := Lib.hid t2
    have HQ0 : Hid (0 ≤ q0 ∧ q0 ≤ 10000000) := Lib.hid (by have := btw_ge hq0; exact this)
    have HRun : Hid (∀ i, i < G.length → (0 ≤ (gg6 G i).2.2.1 ∧ (gg6 G i).2.2.1 < (gg6 G i).2.2.2.1 ∧ (gg6 G i).2.2.2.1 ≤ N) ∧ ((gg6 G i).1 = q2 → (gg6 G i).2.1 = q1 → eN i ≤ (gg6 G i).2.2.1 ∧ (∀ m : Int, eN i ≤ m → m < (gg6 G i).2.2.1 → difB fH fM m = false) ∧ (∀ m : Int, (gg6 G i).2.2.1 ≤ m → m < (gg6 G i).2.2.2.1 → fH m = (gg6 G i).2.2.2.2.1 ∧ fM m = (gg6 G i).2.2.2.2.2 ∧ difB fH fM m = true) ∧ eN (i + 1) = (gg6 G i).2.2.2.1) ∧ (¬ ((gg6 G i).1 = q2 ∧ (gg6 G i).2.1 = q1) → eN (i + 1) = eN i)) := Lib.hid fun i hi => by
      obtain ⟨⟨r1, r2, r3⟩, r4, r5⟩ := hE2 i hi
      refine ⟨⟨r1, r2, by omega⟩, fun e1 e2 => r4 (by unfold ownB; simp [e1, e2]), fun e => r5 ?_⟩
      unfold ownB
      cases hh : ((gg6 G i).1 == q2 && (gg6 G i).2.1 == q1) with
      | false => rfl
      | true => simp only [Bool.and_eq_true, beq_iff_eq] at hh; exact absurd hh e
    have HFin : Hid (blK (uptB (difB fH fM) (eN G.length)) N = blK (difB fH fM) N) := Lib.hid (uptB_all fun m h1 h2 => hE3 m h1 (by omega))
    have HE1 := Lib.hid hE1
    have HLN := Lib.hid hLN
    have HN2 := Lib.hid hN2
    obtain ⟨Mn, hMn⟩ : ∃ Mn : Nat, M = Mn := ⟨M.toNat, by omega⟩
    have HMn : Hid (M = Mn ∧ Mn < N) := Lib.hid ⟨hMn, by omega⟩
    have HU := Lib.hid hU
    have HM := Lib.hid hM
    have HwL := Lib.hid hwL
    have HwM := Lib.hid hwM
    have HL0 := Lib.hid hL0
    obtain ⟨i0, hi, hz0, hz1, hz2⟩ := info_parts boolInfo
    clear hLN hN2 hMn hU hM hM0 hM1 hwL hwM hMb hL0 hLa hL2 hV hq0 hq1 hq2 hS0 hE0 hmb hE1 hE2 hE3 hfH hfM hSH hSW hat hmt hSHe hSWe hGe hTLe t1 t2 HI HA HE HG
    have hbw := HBW.out
    clear Z0 Z1 Z2 Z3 Z4 Z5 Z6 Z7 HBW hz
    go_upto_region 10 with (first | (go_at_call 18; refine (HHe.out _ hbw).mono ?_; rintro e w9 ⟨b1, c1, rfl, hT1, hb9⟩; have HT1 := Lib.hid hT1; clear hT1; replace hbw := hbw.trans (hb9.mono hbw.size); replace p0 := cell_below p0 hb9; replace p1 := cell_below p1 hb9; replace p2 := cell_below p2 hb9; replace p3 := cell_below p3 hb9; replace p4 := cell_below p4 hb9; replace p5 := cell_below p5 hb9; replace p6 := cell_below p6 hb9; replace p7 := cell_below p7 hb9; clear hb9) | (go_at_call 19; refine (HWa.out _ hbw).mono ?_; rintro e w9 ⟨b2, c2, rfl, hT2, hb9⟩; have HT2 := Lib.hid hT2; clear hT2; replace hbw := hbw.trans (hb9.mono hbw.size); replace p0 := cell_below p0 hb9; replace p1 := cell_below p1 hb9; replace p2 := cell_below p2 hb9; replace p3 := cell_below p3 hb9; replace p4 := cell_below p4 hb9; replace p5 := cell_below p5 hb9; replace p6 := cell_below p6 hb9; replace p7 := cell_below p7 hb9; replace HT1 := Lib.hid (HT1.out.below hb9); clear hb9) | (go_at_call 9; refine (HCo.out _ hbw).mono ?_; rintro e w9 ⟨b3, c3, rfl, hT3, hb9⟩; have HT3 := Lib.hid hT3; clear hT3; replace hbw := hbw.trans (hb9.mono hbw.size); replace p0 := cell_below p0 hb9; replace p1 := cell_below p1 hb9; replace p2 := cell_below p2 hb9; replace p3 := cell_below p3 hb9; replace p4 := cell_below p4 hb9; replace p5 := cell_below p5 hb9; replace p6 := cell_below p6 hb9; replace p7 := cell_below p7 hb9; replace HT1 := Lib.hid (HT1.out.below hb9); replace HT2 := Lib.hid (HT2.out.below hb9); clear hb9) | (go_at_call 20; (with_reducible refine Calls.mono (HSp1.out b1 c1 _ HT1.out) ?_); rintro e w9 ⟨g1, rfl, hC1, hb9⟩; have HC1 := Lib.hid hC1; clear hC1; replace hbw := hbw.trans (hb9.mono hbw.size); replace p0 := cell_below p0 hb9; replace p1 := cell_below p1 hb9; replace p2 := cell_below p2 hb9; replace p3 := cell_below p3 hb9; replace p4 := cell_below p4 hb9; replace p5 := cell_below p5 hb9; replace p6 := cell_below p6 hb9; replace p7 := cell_below p7 hb9; replace HT2 := Lib.hid (HT2.out.below hb9); replace HT3 := Lib.hid (HT3.out.below hb9); clear hb9) | (go_at_call 20; (with_reducible refine Calls.mono (HSp2.out b2 c2 _ HT2.out) ?_); rintro e w9 ⟨g2, rfl, hC2, hb9⟩; have HC2 := Lib.hid hC2; clear hC2; replace hbw := hbw.trans (hb9.mono hbw.size); replace p0 := cell_below p0 hb9; replace p1 := cell_below p1 hb9; replace p2 := cell_below p2 hb9; replace p3 := cell_below p3 hb9; replace p4 := cell_below p4 hb9; replace p5 := cell_below p5 hb9; replace p6 := cell_below p6 hb9; replace p7 := cell_below p7 hb9; replace HT3 := Lib.hid (HT3.out.below hb9); replace HC1 := Lib.hid (fun j hj => cell_below (HC1.out j hj) hb9); clear hb9))
    obtain ⟨wM, rfl⟩ : ∃ wM : World, wM = w9 := ⟨_, rfl⟩
    have Y0 := Lib.hid p0
    have Y1 := Lib.hid p1
    have Y2 := Lib.hid p2
    have Y3 := Lib.hid p3
    have Y4 := Lib.hid p4
    have Y5 := Lib.hid p5
    have Y6 := Lib.hid p6
    have Y7 := Lib.hid p7
    have HBM := Lib.hid hbw
    have hzq := block_lt p0
    clear HHe HWa HCo HSp1 HSp2 HT1 HT2
    go_wp2_with (refine wpList_make_full _ rfl _ _ 50 rfl wM.heap.size 4 i0 (.bool false) 1 Tryz.underlying50 hi hz0 hz1 _ _ L L N rfl rfl HLN.out HLN.out ?c1 ?c2 ?c3 ?_)
    case c1 => have := HN2.out; rw [hz2]; omega
    case c2 => have := HN2.out; unfold maxLen; omega
    case c3 => simp
    intro w5 hown hgrow
    have hb5 : Below wM.heap.size wM w5 := (Below.refl _ _).grown hgrow (Nat.le_refl _) (fun k h => by cases h)
    have hrow0 : w5.ownsRow wM.heap.size 4 1 (.slice (some ⟨wM.heap.size, 0, none⟩) N N) N (clB (blK (uptB (difB fH fM) (eN 0)) N)) := by
      rw [HE1.out, uptB_none, ← toList_madeCells_one]
      exact hown
    obtain ⟨g, hg, hgw⟩ : ∃ g, wM.heap.size = g ∧ wM.heap.size ≤ g := ⟨_, rfl, Nat.le_refl _⟩
    have HR0 : Hid (w5.ownsRow wM.heap.size 4 1 (.slice (some ⟨g, 0, none⟩) N N) N (clB (blK (uptB (difB fH fM) (eN 0)) N))) := Lib.hid (by rw [show (some ⟨g, 0, none⟩ : Option Addr) = some ⟨wM.heap.size, 0, none⟩ by rw [hg]]; exact hrow0)
    have hgs : (some ⟨wM.heap.size, 0, none⟩ : Option Addr) = some ⟨g, 0, none⟩ := by rw [hg]
    rw [hgs]
    clear hown hgrow hi hz0 hz1 hz2 hrow0 hgs hg p0 p1 p2 p3 p4 p5 p6 p7 HE1
    obtain ⟨hGl, blk, off, hadr, hcg⟩ := HT3.out
    have HC := Lib.hid hcg
    have HL : Hid (0 < G.length → b3 = some ⟨blk, off, none⟩) := Lib.hid fun h => hadr (List.ne_nil_of_length_pos h)
    clear hcg hadr HT3
    go_wp2_with fail
    go_loopw [14] (fun i wr => ∃ k : Nat, k ≤ G.length ∧ i = .int .i64 k ∧ Hid (wr.ownsRow wM.heap.size 4 1 (.slice (some ⟨g, 0, none⟩) N N) N (clB (blK (uptB (difB fH fM) (eN k)) N))) ∧ Below wM.heap.size wM wr) (fun i _ => G.length - (intOf i).toNat)
    case atStart => exact ⟨0, Nat.zero_le _, rfl, HR0, hb5⟩
    case round =>
      obtain ⟨k, hk, rfl, HRow, hbr⟩ := hrel
      by_cases hlt : k < G.length
      · obtain rfl := HL.out (by omega)
        obtain ⟨c0, c1, c2, c3, c4, c5⟩ := HC.out k hlt
        replace c0 := cell_below c0 hbr
        replace c1 := cell_below c1 hbr
        replace c2 := cell_below c2 hbr
        replace c3 := cell_below c3 hbr
        replace c4 := cell_below c4 hbr
        replace c5 := cell_below c5 hbr
        obtain ⟨⟨r1, r2, r3⟩, r4, r5⟩ := HRun.out k hlt
        have HOwn := Lib.hid r4
        have HFor := Lib.hid r5
        have hLN := HLN.out
        clear r4 r5
        obtain ⟨X, hX⟩ : ∃ X : Nat, (gg6 G k).2.2.1 = X := ⟨(gg6 G k).2.2.1.toNat, by omega⟩
        obtain ⟨Y, hY⟩ : ∃ Y : Nat, (gg6 G k).2.2.2.1 = Y := ⟨(gg6 G k).2.2.2.1.toNat, by omega⟩
        rw [hX] at c2 r1 r2 HOwn
        rw [hY] at c3 r2 r3 HOwn
        clear hX hY
        generalize (gg6 G k).1 = T0 at *
        generalize (gg6 G k).2.1 = D0 at *
        generalize (gg6 G k).2.2.2.2.1 = hs at *
        generalize (gg6 G k).2.2.2.2.2 = ss at *
        have hXY : X < Y := by omega
        have hYN : Y ≤ N := by omega
        have d0 : decide ((X : Int) < 0) = false := decide_eq_false (by omega)
        have d1 : decide ((Y : Int) ≤ (X : Int)) = false := decide_eq_false (by omega)
        have d2 : decide (L < (Y : Int)) = false := decide_eq_false (by omega)
        have d3 : ¬ (L < (Y : Int)) := by omega
        have d4 : ¬ (Y ≤ X) := by omega
        have k0 : (0 : Int) ≤ (k : Int) := by omega
        have k1 : (k : Int) < (G.length : Int) := by omega
        have hsz := hbr.size
        clear r1 r2 r3 hLN
        go_upto_region 15 with (fail)
        obtain ⟨wA, hwA⟩ : ∃ wA, wr.alloc (.cells #[.int .i64 T0, .int .i64 D0, .int .i64 X, .int .i64 Y, .int .i64 hs, .int .i64 ss] 52) = wA := ⟨_, rfl⟩
        have hal : Below wr.heap.size wr wA := by rw [← hwA]; exact (Below.refl _ _).alloc (Nat.le_refl _) _
        have hbA : Below wM.heap.size wM wA := by rw [← hwA]; exact hbr.alloc hsz _
        have s0 : wA.cell? ⟨wr.heap.size, 0, none⟩ = some (.int .i64 T0) := by rw [← hwA]; simp [go_sem]
        have s1 : wA.cell? ⟨wr.heap.size, 1, none⟩ = some (.int .i64 D0) := by rw [← hwA]; simp [go_sem]
        have s2 : wA.cell? ⟨wr.heap.size, 2, none⟩ = some (.int .i64 X) := by rw [← hwA]; simp [go_sem]
        have s3 : wA.cell? ⟨wr.heap.size, 3, none⟩ = some (.int .i64 Y) := by rw [← hwA]; simp [go_sem]
        have s4 : wA.cell? ⟨wr.heap.size, 4, none⟩ = some (.int .i64 hs) := by rw [← hwA]; simp [go_sem]
        have s5 : wA.cell? ⟨wr.heap.size, 5, none⟩ = some (.int .i64 ss) := by rw [← hwA]; simp [go_sem]
        have hgb : g ≠ wr.heap.size := fun e => by have h9 := (own_lt HRow.out _ rfl).2.2; have h9 : g < wr.heap.size := h9; omega
        have HRow := Lib.hid (owns_belowI HRow.out hal)
        rw [hwA]
        clear hwA hal c0 c1 c2 c3 c4 c5 hsz
        obtain ⟨bx, hbx⟩ : ∃ bx, wr.heap.size = bx := ⟨_, rfl⟩
        rw [hbx] at s0 s1 s2 s3 s4 s5 hgb ⊢
        clear hbx
        have p0 := cell_below Y0.out hbA
        have p5 := cell_below Y5.out hbA
        have p6 := cell_below Y6.out hbA
        have hbr := hbA
        have S0 := Lib.hid s0
        have S1 := Lib.hid s1
        have S2 := Lib.hid s2
        have S3 := Lib.hid s3
        have S4 := Lib.hid s4
        have S5 := Lib.hid s5
        clear s0 s1 s4 s5
        go_wp2_with fail
        clear s2 s3 p0 p5 p6 d0 d1 d2 d3 d4
        by_cases hw : T0 = q2 ∧ D0 = q1
        · obtain ⟨rfl, rfl⟩ := hw
          obtain ⟨o1, o2, o3, o4⟩ := HOwn.out rfl rfl
          have HO3 := Lib.hid o3
          have HO4 := Lib.hid o4
          have HRw : Hid (wA.ownsRow wM.heap.size 4 1 (.slice (some ⟨g, 0, none⟩) N N) N (clB (blK (uptB (difB fH fM) (X : Nat)) N))) := Lib.hid (by rw [← uptB_same o1 o2]; exact HRow.out)
          clear o1 o2 o3 o4 HOwn HFor HRow
          go_loopw [16] (fun mv wq => ∃ j : Nat, X ≤ j ∧ j ≤ Y ∧ mv = .int .i64 j ∧ Hid (wq.ownsRow wM.heap.size 4 1 (.slice (some ⟨g, 0, none⟩) N N) N (clB (blK (uptB (difB fH fM) (j : Nat)) N))) ∧ Hid (∀ B : Nat, B ≠ g → wq.heap[B]? = wA.heap[B]?) ∧ Below wM.heap.size wM wq) (fun mv _ => Y - (intOf mv).toNat)
          case atStart => exact ⟨X, Nat.le_refl _, Nat.le_of_lt hXY, rfl, HRw, Lib.hid fun B _ => rfl, hbA⟩
          case round =>
            obtain ⟨j, hj1, hj2, rfl, HRow, HKe, hbr⟩ := hrel
            have hkb : wr.heap[bx]? = wA.heap[bx]? := HKe.out bx (fun e => hgb e.symm)
            have tr : ∀ o v, wA.cell? ⟨bx, o, none⟩ = some v → wr.cell? ⟨bx, o, none⟩ = some v := fun o v hc => (World.cell?_of_block (w := wA) (w' := wr) (a := ⟨bx, o, none⟩) hkb).trans hc
            have s0 := tr _ _ S0.out
            have s1 := tr _ _ S1.out
            have s3 := tr _ _ S3.out
            have s4 := tr _ _ S4.out
            have s5 := tr _ _ S5.out
            have p5 := cell_below Y5.out hbr
            have p6 := cell_below Y6.out hbr
            clear tr hkb
            by_cases hjl : j < Y
            · obtain ⟨e1, e2, e3⟩ := HO3.out j (by omega) (by omega)
              have fx := World.ownsRow.frozenAt HRow.out j
              have y9 := World.ownsRow.cellAt HRow.out j (by omega)
              have y0 : wr.cell? ⟨g, j, none⟩ = some (.bool false) := by
                rw [y9, clB_at _ (by omega)]
                unfold uptB
                rw [decide_eq_false (by omega)]; rfl
              have h0 := cell_below (HC1.out j (by omega)) hbr
              have m0 := cell_below (HC2.out j (by omega)) hbr
              rw [e1] at h0
              rw [e2] at m0
              have HSET : Hid (∀ W : World, W.ownsRow wM.heap.size 4 1 (.slice (some ⟨g, 0, none⟩) N N) N (clB (blK (uptB (difB fH fM) (j : Nat)) N)) → (W.setCell ⟨g, j, none⟩ (.bool true)).ownsRow wM.heap.size 4 1 (.slice (some ⟨g, 0, none⟩) N N) N (clB (blK (uptB (difB fH fM) ((j + 1 : Nat) : Int)) N))) := Lib.hid fun W h => by
                have := (World.ownsRow.stored h j (.bool true)).1
                rw [uptB_set (by omega) e3] at this
                exact this
              have j0 : (0 : Int) ≤ (j : Int) := by omega
              have j1 : (j : Int) < (N : Int) := by omega
              have jY : (j : Int) < (Y : Int) := by omega
              clear y9 e1 e2 e3 HO3 HO4
              go_upto_region 20 with (fail)
              go_cut [180] (fun z wx => z = .bool false ∧ wx.heap = wr.heap ∧ Below wr.heap.size wr wx)
              case first =>
                go_wp2_with fail
                go_quiet (fail)
                go_wp2_with fail
                go_meet
                exact ⟨rfl, by simp, below_drewN (Below.refl _ _) _⟩
              case rest =>
                obtain ⟨rfl, hhp, hbx⟩ := hcut
                obtain ⟨wx, rfl⟩ : ∃ wx : World, wx = wc := ⟨_, rfl⟩
                have fx := (hbx.frozen (p := ⟨g, j, none⟩) (block_lt y0)).trans fx
                have y0 := cell_below y0 hbx
                have HHp := Lib.hid hhp
                have hbr := hbr.trans (hbx.mono hbr.size)
                have HRow := Lib.hid (owns_belowI HRow.out hbx)
                have hN2 := HN2.out
                clear hhp hbx s0 s1 s3 s4 s5 p5 p6 h0 m0
                go_wp2_with fail
                go_roundw
                case rel => exact ⟨j + 1, by omega, by omega, by go_num, Lib.hid (HSET.out _ HRow.out), Lib.hid (fun B hB => (heap_setCell_other _ ⟨g, j, none⟩ B _ hB).trans (by rw [HHp.out]; exact HKe.out B hB)), hbr.setCell (p := ⟨g, j, none⟩) hgw _⟩
                case measure => simp [intOf]; omega
            · obtain rfl : j = Y := by omega
              have jY : ¬ ((j : Int) < (j : Int)) := by omega
              clear HO3 HKe
              go_wp2_with fail
              go_roundw
              case rel => exact ⟨k + 1, by omega, by go_num, Lib.hid (by rw [HO4.out]; exact HRow.out), hbr⟩
              case measure => simp [intOf]; omega
        · have HFo := Lib.hid (HFor.out hw)
          have jY : (X : Int) < (Y : Int) := by omega
          have s0 := S0.out
          have s1 := S1.out
          have s3 := S3.out
          have p5 := cell_below Y5.out hbA
          have p6 := cell_below Y6.out hbA
          clear HOwn HFor
          go_loopw [16] (fun mv wq => mv = .int .i64 X ∧ wA = wq) (fun _ _ => 0)
          case atStart => exact ⟨rfl, rfl⟩
          case round =>
            obtain ⟨rfl, rfl⟩ := hrel
            by_cases hD : D0 = q1
            · subst hD
              have hT : (T0 == q2) = false := beq_false_of_ne (fun e => hw ⟨e, rfl⟩)
              clear hw
              go_wp2_with fail
              go_roundw
              case rel => exact ⟨k + 1, by omega, by go_num, Lib.hid (by rw [HFo.out]; exact HRow.out), hbA⟩
              case measure => simp [intOf]; omega
            · have hT : (D0 == q1) = false := beq_false_of_ne hD
              clear hw hD
              go_wp2_with fail
              go_roundw
              case rel => exact ⟨k + 1, by omega, by go_num, Lib.hid (by rw [HFo.out]; exact HRow.out), hbA⟩
              case measure => simp [intOf]; omega
      · obtain rfl : k = G.length := by omega
        have HIn : Hid (∀ j, j < N → wr.cell? ⟨g, j, none⟩ = some (.bool (fH j != fM j))) := Lib.hid fun j hj => by
          have h := World.ownsRow.cellAt HRow.out j (by omega)
          rw [HFin.out, clB_at _ hj] at h
          exact h
        obtain ⟨wL, rfl⟩ : ∃ wL : World, wL = wr := ⟨_, rfl⟩
        have HBL := Lib.hid (HBM.out.trans (hbr.mono HBM.out.size))
        have HC1 := Lib.hid (fun j hj => cell_below (HC1.out j hj) hbr)
        have HC2 := Lib.hid (fun j hj => cell_below (HC2.out j hj) hbr)
        have Y0 := Lib.hid (cell_below Y0.out hbr)
        have Y1 := Lib.hid (cell_below Y1.out hbr)
        have Y2 := Lib.hid (cell_below Y2.out hbr)
        have Y3 := Lib.hid (cell_below Y3.out hbr)
        have Y4 := Lib.hid (cell_below Y4.out hbr)
        have Y5 := Lib.hid (cell_below Y5.out hbr)
        have Y6 := Lib.hid (cell_below Y6.out hbr)
        have Y7 := Lib.hid (cell_below Y7.out hbr)
        clear HRow hbr HFin HRun HBM HC HL hzq
        go_wp2_with fail
        go_loopw [17] (fun i wr => ∃ m : Nat, m ≤ N ∧ i = .int .i64 m ∧ Below wL.heap.size wL wr) (fun i _ => N - (intOf i).toNat)
        case atStart => exact ⟨0, Nat.zero_le _, rfl, Below.refl _ _⟩
        case round =>
          obtain ⟨m, hm, rfl, hbr⟩ := hrel
          have p0 := cell_below Y0.out hbr
          have p1 := cell_below Y1.out hbr
          have p2 := cell_below Y2.out hbr
          have p3 := cell_below Y3.out hbr
          have p4 := cell_below Y4.out hbr
          have p5 := cell_below Y5.out hbr
          have p6 := cell_below Y6.out hbr
          have p7 := cell_below Y7.out hbr
          by_cases hlm : m < N
          · have hmL : (m : Int) < L := by have := HLN.out; omega
            have m0 : (0 : Int) ≤ (m : Int) := by omega
            have m1 : (m : Int) < (N : Int) := by omega
            have hN2 := HN2.out
            clear p7
            go_upto_region 28 with (first | (go_at_call 21; refine ((HHo).out m _ hlm (HBL.out.trans (hbr.mono HBL.out.size))).mono ?_; rintro e w9 ⟨rfl, hb9⟩; replace hbr := hbr.trans (hb9.mono hbr.size); replace p0 := cell_below p0 hb9; replace p1 := cell_below p1 hb9; replace p2 := cell_below p2 hb9; replace p3 := cell_below p3 hb9; replace p4 := cell_below p4 hb9; replace p5 := cell_below p5 hb9; replace p6 := cell_below p6 hb9; clear hb9) | (go_at_call 22; refine ((HMu).out m _ hlm (HBL.out.trans (hbr.mono HBL.out.size))).mono ?_; rintro e w9 ⟨rfl, hb9⟩; replace hbr := hbr.trans (hb9.mono hbr.size); replace p0 := cell_below p0 hb9; replace p1 := cell_below p1 hb9; replace p2 := cell_below p2 hb9; replace p3 := cell_below p3 hb9; replace p4 := cell_below p4 hb9; replace p5 := cell_below p5 hb9; replace p6 := cell_below p6 hb9; clear hb9))
            have h0 := cell_below (HC1.out m hlm) hbr
            have h1 := cell_below (HC2.out m hlm) hbr
            have h2 := cell_below (HIn.out m hlm) hbr
            clear p0 p1 p2 p3 p4 p5 p6 HHo HMu HHi HC1 HC2 HIn hmL
            generalize fH m = x at *
            generalize fM m = y at *
            by_cases e : x = y
            · subst e
              have e1 : (x != x) = false := by simp
              have e2 : (x == x) = true := by simp
              rw [e1] at h2
              go_wp2_with fail
              go_roundw
              case rel => exact ⟨m + 1, by omega, by go_num, hbr⟩
              case measure => simp [intOf]; omega
            · have e1 : (x == y) = false := beq_false_of_ne e
              have e2 : (x != y) = true := by simp [e]
              rw [e2] at h2
              clear e
              go_wp2_with fail
              go_roundw
              case rel => exact ⟨m + 1, by omega, by go_num, hbr⟩
              case measure => simp [intOf]; omega
          · obtain rfl : m = N := by omega
            have hmL : ¬ ((m : Int) < L) := by have := HLN.out; omega
            have hU := HU.out
            have hM := HM.out
            have hwL := HwL.out
            have hwM := HwM.out
            have hL0 := HL0.out
            clear HHo HMu HIn HC2
            go_wp2_with (go_at_call 23; refine (HHi.out _ (HBL.out.trans (hbr.mono HBL.out.size))).mono ?_; rintro e w9 ⟨b4, c4, rfl, hT4, hb9⟩; have HT4 := Lib.hid hT4; clear hT4)
            obtain ⟨hMn1, hMn2⟩ := HMn.out
            have h0 := cell_below (cell_below (HC1.out Mn hMn2) hbr) hb9
            rw [← hMn1] at h0
            replace p4 := cell_below p4 hb9
            have hbw := HBL.out.trans ((hbr.trans (hb9.mono hbr.size)).mono HBL.out.size)
            obtain ⟨wT, rfl⟩ : ∃ wT : World, wT = w9 := ⟨_, rfl⟩
            have H0 := Lib.hid h0
            have P4 := Lib.hid p4
            have HBT := Lib.hid hbw
            have m0 : (0 : Int) ≤ (Mn : Int) := by omega
            have m1 : (Mn : Int) < (m : Int) := by omega
            clear hMn2 hU hM hwL hwM hL0 HHi p0 p1 p2 p3 p4 p5 p6 p7 hb9 hbr hbw h0 HC1 hmL HBL
            obtain ⟨hTl, blk, off, hadr, hcg⟩ := HT4.out
            have HC : Hid (∀ i, i < TL.length → wT.cell? ⟨blk, off + i * 3, none⟩ = some (.int .i64 (gtV TL i).1) ∧ wT.cell? ⟨blk, off + i * 3 + 1, none⟩ = some (.int .i64 (gtV TL i).2.1) ∧ wT.cell? ⟨blk, off + i * 3 + 2, none⟩ = some (.int .i64 (gtV TL i).2.2)) := Lib.hid hcg
            have HL : Hid (0 < TL.length → b4 = some ⟨blk, off, none⟩) := Lib.hid fun h => hadr (List.ne_nil_of_length_pos h)
            clear hcg hadr HT4
            have hq0 := HQ0.out
            rw [hMn1]
            clear hMn1 HMn
            generalize fH M = hv at *
            go_loopw [24, 25, 26] (fun la fb i wr => ∃ k : Nat, k ≤ TL.length ∧ i = .int .i64 k ∧ la = .int .i64 (endK TL k) ∧ fb = .bool (decide (q0 < endK TL k)) ∧ Below wT.heap.size wT wr) (fun _ _ i _ => TL.length - (intOf i).toNat)
            case atStart => exact ⟨0, Nat.zero_le _, rfl, rfl, by rw [decide_eq_false (show ¬ q0 < endK TL 0 from by show ¬ q0 < 0; omega)], Below.refl _ _⟩
            case round =>
              obtain ⟨k, hk, rfl, rfl, rfl, hbr⟩ := hrel
              by_cases hlt : k < TL.length
              · obtain rfl := HL.out (by omega)
                obtain ⟨c0, c1, c2⟩ := HC.out k hlt
                replace c0 := cell_below c0 hbr
                replace c1 := cell_below c1 hbr
                replace c2 := cell_below c2 hbr
                have h0 := cell_below H0.out hbr
                have p4 := cell_below P4.out hbr
                obtain ⟨u1, u2, u3⟩ := HTL.out k hlt
                have HNx := Lib.hid (endK_succ TL k)
                rw [u1] at c0
                clear u1 HTL HTE HC HL
                generalize (gtV TL k).2.1 = y at *
                generalize (gtV TL k).2.2 = v at *
                generalize endK TL k = x at *
                have k0 : (0 : Int) ≤ (k : Int) := by omega
                have k1 : (k : Int) < (TL.length : Int) := by omega
                have d1 : decide (y ≤ x) = false := decide_eq_false (by omega)
                have d2 : (x != x) = false := by simp
                by_cases hqx : q0 < x
                · have e0 : decide (q0 < x) = true := decide_eq_true hqx
                  have e1 : decide (x ≤ q0) = false := decide_eq_false (by omega)
                  have e2 : decide (q0 < y) = true := decide_eq_true (by omega)
                  rw [e0]
                  have E2 := Lib.hid e2
                  clear u2 u3 e0 e2 hqx hq0
                  go_wp2_with fail
                  go_quiet (fail)
                  go_wp2_with fail
                  go_roundw
                  case rel => exact ⟨k + 1, by omega, by go_num, by rw [HNx.out], by rw [HNx.out, E2.out], below_drewN hbr _⟩
                  case measure => simp [intOf]; omega
                · have e0 : decide (q0 < x) = false := decide_eq_false hqx
                  have e1 : decide (x ≤ q0) = true := decide_eq_true (by omega)
                  rw [e0]
                  by_cases hqy : q0 < y
                  · have e2 : decide (q0 < y) = true := decide_eq_true hqy
                    have hvv := u3 (by omega) hqy
                    rw [hvv] at h0
                    have e3 : (v == v) = true := by simp
                    have E2 := Lib.hid e2
                    clear u2 u3 e0 hqx hqy hq0 hvv
                    go_wp2_with fail
                    go_quiet (fail)
                    go_wp2_with fail
                    go_quiet (fail)
                    go_wp2_with fail
                    go_roundw
                    case rel => exact ⟨k + 1, by omega, by go_num, by rw [HNx.out], by rw [HNx.out, E2.out], below_drewN hbr _⟩
                    case measure => simp [intOf]; omega
                  · have e2 : decide (q0 < y) = false := decide_eq_false hqy
                    have E2 := Lib.hid e2
                    clear u2 u3 e0 hqx hqy hq0
                    go_wp2_with fail
                    go_quiet (fail)
                    go_wp2_with fail
                    go_roundw
                    case rel => exact ⟨k + 1, by omega, by go_num, by rw [HNx.out], by rw [HNx.out, E2.out], below_drewN hbr _⟩
                    case measure => simp [intOf]; omega
              · obtain rfl : k = TL.length := by omega
                have e2 : decide (q0 < 10000001) = true := decide_eq_true (by omega)
                rw [HTE.out, e2]
                clear e2 hq0 HTL HTE
                go_wp2_with (go_at_call 8; refine (first_any _).mono ?_; rintro e w9 ⟨rfl, hb9⟩)
                go_ret
                exact ⟨rfl, HBT.out.trans ((hbr.trans (hb9.mono hbr.size)).mono HBT.out.size)⟩
end Go.Proofs.YtlpdjinhkmgbgaaGreatDoor
