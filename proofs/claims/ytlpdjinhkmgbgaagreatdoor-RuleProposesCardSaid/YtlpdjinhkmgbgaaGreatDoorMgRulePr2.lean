/-
  The sanity check of the laws of package rule. By an AI agent.; Heavy of package rule's laws. By an AI agent.; The program's Propose. By an AI agent.; The law RuleHolds. By an AI agent.; The law's right. By an AI agent.
-/
import Derived.Test.YtlpdjinhkmgbgaaGreatDoorMgRuleWays8
import Derived.Test.YtlpdjinhkmgbgaaGreatDoorMgRuleWays1
import Derived.Test.YtlpdjinhkmgbgaaGreatDoorMgRuleWays2
import Derived.Test.YtlpdjinhkmgbgaaGreatDoorMgRulePr1
import Derived.Test.YtlpdjinhkmgbgaaGreatDoorMgRuleWays9
import Derived.BigQuiet
import Derived.BigRegion
import Derived.Deep.RegionHeld3
import Derived.Deep.DeepCutAuto
import Derived.StillTailTactics
import Derived.Deep.AppendLies

namespace Go.Proofs.YtlpdjinhkmgbgaaGreatDoor
set_option linter.unusedVariables false
set_option linter.unusedSimpArgs false
open Go.RowKit

def exS : Sgn := ⟨1, 1, 70, 200, 1, 1, 0, 9, []⟩
theorem ex_srt : srt [0, 1000, 200, 600] = [0, 200, 600, 1000] := by simp [srt, List.mergeSort]
theorem ex_srt1 : srt [1] = [1] := by simp [srt]
theorem ex_lst : lstE 1000 [600] [exS] [] = 0 := by
  have e1 : nosK [exS] [exS].length = [1] := rfl
  have e2 : nosE [] ([] : List Edc).length = [] := rfl
  have e3 : srt ([] : List Int) = [] := by simp [srt]
  unfold lstE sgnsB edcsB numB
  rw [e1, e2, e3, ex_srt1]
  decide
theorem ex_held (row : List Pst) (h : RowL 1000 [600] 1 3 [exS] row) : hldM 1000 1 1 row = [(200, 600, 70)] := by
  obtain ⟨ad, cp, l1, hp, -, rfl⟩ := h
  have e : rowK 1000 [600] 1 3 [exS] ad cp [exS].length = [(mkP 1000 [600] 1 exS, ad 0, cp 0)] := rfl
  rw [e] at hp
  obtain rfl := List.perm_singleton.1 hp
  have e2 : (finP [(mkP 1000 [600] 1 exS, ad 0, cp 0)] ([(mkP 1000 [600] 1 exS, ad 0, cp 0)].length - 1)).map (·.1) = [mkP 1000 [600] 1 exS] := rfl
  rw [e2]
  have e3 : cutsK 1000 1 [mkP 1000 [600] 1 exS] [mkP 1000 [600] 1 exS].length = [0, 1000, 200, 600] := by decide
  unfold hldM ascL
  rw [e3, ex_srt]
  decide
theorem pairs_nilR (w : World) : PairsS w none [] := ⟨by decide, fun i hi => absurd hi (Nat.not_lt_zero i), 0, 0, fun h => (h rfl).elim, fun i hi => absurd hi (Nat.not_lt_zero i)⟩
theorem ex_ints {w : World} {b : Nat} (h : w.cell? ⟨b, 0, none⟩ = some (.int .i64 600)) : IntsS w (some ⟨b, 0, none⟩) [600] := ⟨by decide, fun i hi => by
  have hi : i < 1 := hi
  obtain rfl : i = 0 := by omega
  exact ⟨by decide, by decide⟩, b, 0, fun _ => rfl, fun i hi => by
  have hi : i < 1 := hi
  obtain rfl : i = 0 := by omega
  exact h⟩
theorem ex_sgn {w : World} {b : Nat} (h : w.heap[b]? = some (.cells #[.int .i64 1, .int .i64 1, .int .i64 70, .int .i64 200, .int .i64 1, .int .i64 1, .int .i64 0, .int .i64 9, .slice none 0 0] 69)) : SgnS w (some ⟨b, 0, none⟩) [exS] := ⟨by decide, b, 0, fun _ => none, fun _ => 0, fun _ => rfl, fun i hi => by
  have hi : i < 1 := hi
  obtain rfl : i = 0 := by omega
  exact ⟨⟨by simp [World.cell?, h]; rfl, by simp [World.cell?, h]; rfl, by simp [World.cell?, h]; rfl, by simp [World.cell?, h]; rfl, by simp [World.cell?, h]; rfl, by simp [World.cell?, h]; rfl, by simp [World.cell?, h]; rfl, by simp [World.cell?, h]; rfl⟩, by simp [World.cell?, h]; rfl, pairs_nilR _⟩⟩
/-- The example's stretch. -/
def ExE (w : World) (e : Ending) (w' : World) : Prop := ∃ g c, e = .returned (.tuple #[.slice (some ⟨g, 0, none⟩) 1 c, .int .i64 0]) ∧ w'.cell? ⟨g, 0, none⟩ = some (.int .i64 200) ∧ w'.cell? ⟨g, 1, none⟩ = some (.int .i64 600) ∧ w'.cell? ⟨g, 2, none⟩ = some (.int .i64 70) ∧ Below w.heap.size w w'
theorem ex_call (b1 b2 : Nat) (w : World) (h1 : IntsS w (some ⟨b1, 0, none⟩) [600]) (h2 : SgnS w (some ⟨b2, 0, none⟩) [exS]) : Calls Tryz.prog 18 #[.agg #[.int .i64 1000, .slice (some ⟨b1, 0, none⟩) 1 1], .slice (some ⟨b2, 0, none⟩) 1 1, .int .i64 3, .int .i64 1, .int .i64 1] w (ExE w) := by
  refine (Held_good 1000 (some ⟨b1, 0, none⟩) [600] 1 (some ⟨b2, 0, none⟩) [exS] 1 3 1 1 ex_lst (by decide) (by decide) (by decide) w h1 h2).mono ?_
  rintro e w' ⟨row, b, c, hRL, rfl, hown, hb⟩
  rw [ex_held row hRL] at hown ⊢
  rcases hown.2 with ⟨h1, h2⟩ | ⟨g2, c2, cur, h1, _⟩
  · cases h2
  · obtain ⟨rfl, rfl⟩ : b = some ⟨g2, 0, none⟩ ∧ c = c2 := by simpa using h1
    exact ⟨g2, c, rfl, (World.ownsRow.cellAt hown 0 (by decide)).trans rfl, (World.ownsRow.cellAt hown 1 (by decide)).trans rfl, (World.ownsRow.cellAt hown 2 (by decide)).trans rfl, hb⟩
set_option maxRecDepth 100000 in
set_option maxHeartbeats 1000000 in
theorem first_any (w : World) : Calls Tryz.prog 8 #[] w fun e w' => e = .returned (.bool true) ∧ Below w.heap.size w w' := by
  go_enter Tryz.func8, Tryz.ntmps8
  go_wp2_with fail
  obtain ⟨wB, hwB⟩ : ∃ wB, ((w.alloc (.cells #[.int .i64 600] 3)).alloc (.cells #[.int .i64 1000, .slice (some ⟨w.heap.size, 0, none⟩) 1 1] 24)).alloc (.cells #[.int .i64 1, .int .i64 1, .int .i64 70, .int .i64 200, .int .i64 1, .int .i64 1, .int .i64 0, .int .i64 9, .slice none 0 0] 69) = wB := ⟨_, rfl⟩
  have hb : Below w.heap.size w wB := by rw [← hwB]; exact (((Below.refl _ _).alloc (Nat.le_refl _) _).alloc (by simp) _).alloc (by simp; omega) _
  have HI : Hid (IntsS wB (some ⟨w.heap.size, 0, none⟩) [600]) := Lib.hid (ex_ints (by rw [← hwB]; simp [go_sem]))
  have HS : Hid (SgnS wB (some ⟨w.heap.size + 1 + 1, 0, none⟩) [exS]) := Lib.hid (ex_sgn (by rw [← hwB]; have := heap_alloc_new ((w.alloc (.cells #[.int .i64 600] 3)).alloc (.cells #[.int .i64 1000, .slice (some ⟨w.heap.size, 0, none⟩) 1 1] 24)) (.cells #[.int .i64 1, .int .i64 1, .int .i64 70, .int .i64 200, .int .i64 1, .int .i64 1, .int .i64 0, .int .i64 9, .slice none 0 0] 69); simpa using this))
  rw [hwB]
  clear hwB
  refine (ex_call _ _ _ HI.out HS.out).mono ?_
  rintro e w1 ⟨g, c, rfl, c0, c1, c2, hb1⟩
  have hb := hb.trans (hb1.mono hb.size)
  clear hb1 HI HS
  go_wp2_with fail
  go_ret
  exact ⟨rfl, hb⟩
end Go.Proofs.YtlpdjinhkmgbgaaGreatDoor

namespace Go.Proofs.YtlpdjinhkmgbgaaGreatDoor
set_option linter.unusedVariables false
set_option linter.unusedSimpArgs false
open Go.RowKit

/-- Heavy says whether an ask is too large. -/
def HvyE (L : Int) (js : List Int) (l : List Sgn) (q : List Edc) (w : World) (e : Ending) (w' : World) : Prop :=
  ∃ b : Bool, (b = false → js.length ≤ 60 ∧ l.length ≤ 120 ∧ q.length ≤ 60 ∧ (lineB L js = true → L ≤ 500)) ∧ e = .returned (.bool b) ∧ Below w.heap.size w w'
set_option maxRecDepth 100000 in
set_option maxHeartbeats 2000000 in
theorem Heavy_any (L : Int) (a : Option Addr) (js : List Int) (ca : Nat) (aa : Option Addr) (l : List Sgn) (cl : Nat) (ae : Option Addr) (q : List Edc) (cq : Nat) (q0 q1 q2 q3 : Int) (w : World) (hI : IntsS w a js) (hA : SgnS w aa l) (hE : EdS w ae q) : Calls Tryz.prog 7 #[.agg #[.int .i64 L, .slice a js.length ca, .slice aa l.length cl, .slice ae q.length cq, .int .i64 q0, .int .i64 q1, .int .i64 q2, .int .i64 q3]] w (HvyE L js l q w) := by
  have HV := Lib.hid (fun W (hW : Below w.heap.size w W) => refValidLine_r L a js ca W (hI.below hW))
  obtain ⟨-, blk, off, ad, cp, hadr, hc⟩ := hA
  have HC : Hid (∀ i, i < l.length → w.cell? ⟨blk, off + i * 9 + 8, none⟩ = some (.slice (ad i) (gs l i).cv.length (cp i))) := Lib.hid fun i hi => (hc i hi).2.1
  have HL : Hid (0 < l.length → aa = some ⟨blk, off, none⟩) := Lib.hid fun h => hadr (List.ne_nil_of_length_pos h)
  have HCV : Hid (∀ i, i < l.length → (gs l i).cv.length ≤ 9223372036854775807) := Lib.hid fun i hi => (hc i hi).2.2.1
  have hq := hE.1
  have hj := hI.1
  clear hI hE hadr hc
  by_cases h1 : 60 < js.length
  · have h1i : (60 : Int) < (js.length : Int) := by omega
    clear HV HC HL
    go_enter Tryz.func7, Tryz.ntmps7
    go_wp2_with fail
    obtain ⟨wB, hwB⟩ : ∃ wB, w.alloc (.cells #[.int .i64 L, .slice a js.length ca, .slice aa l.length cl, .slice ae q.length cq, .int .i64 q0, .int .i64 q1, .int .i64 q2, .int .i64 q3] 28) = wB := ⟨_, rfl⟩
    have hb : Below w.heap.size w wB := by rw [← hwB]; exact (Below.refl _ _).alloc (Nat.le_refl _) _
    have p0 : wB.cell? ⟨w.heap.size, 0, none⟩ = some (.int .i64 L) := by rw [← hwB]; simp [go_sem]
    have p1 : wB.cell? ⟨w.heap.size, 1, none⟩ = some (.slice a js.length ca) := by rw [← hwB]; simp [go_sem]
    have p2 : wB.cell? ⟨w.heap.size, 2, none⟩ = some (.slice aa l.length cl) := by rw [← hwB]; simp [go_sem]
    have p3 : wB.cell? ⟨w.heap.size, 3, none⟩ = some (.slice ae q.length cq) := by rw [← hwB]; simp [go_sem]
    have p4 : wB.cell? ⟨w.heap.size, 4, none⟩ = some (.int .i64 q0) := by rw [← hwB]; simp [go_sem]
    have p5 : wB.cell? ⟨w.heap.size, 5, none⟩ = some (.int .i64 q1) := by rw [← hwB]; simp [go_sem]
    have p6 : wB.cell? ⟨w.heap.size, 6, none⟩ = some (.int .i64 q2) := by rw [← hwB]; simp [go_sem]
    have p7 : wB.cell? ⟨w.heap.size, 7, none⟩ = some (.int .i64 q3) := by rw [← hwB]; simp [go_sem]
    rw [hwB]
    clear hwB
    go_wp2_with fail
    go_ret
    exact ⟨true, (fun h => by cases h), rfl, hb⟩
  have h1i : ¬ (60 : Int) < (js.length : Int) := by omega
  by_cases h2 : 120 < l.length
  · have h2i : (120 : Int) < (l.length : Int) := by omega
    clear HV HC HL
    go_enter Tryz.func7, Tryz.ntmps7
    go_wp2_with fail
    obtain ⟨wB, hwB⟩ : ∃ wB, w.alloc (.cells #[.int .i64 L, .slice a js.length ca, .slice aa l.length cl, .slice ae q.length cq, .int .i64 q0, .int .i64 q1, .int .i64 q2, .int .i64 q3] 28) = wB := ⟨_, rfl⟩
    have hb : Below w.heap.size w wB := by rw [← hwB]; exact (Below.refl _ _).alloc (Nat.le_refl _) _
    have p0 : wB.cell? ⟨w.heap.size, 0, none⟩ = some (.int .i64 L) := by rw [← hwB]; simp [go_sem]
    have p1 : wB.cell? ⟨w.heap.size, 1, none⟩ = some (.slice a js.length ca) := by rw [← hwB]; simp [go_sem]
    have p2 : wB.cell? ⟨w.heap.size, 2, none⟩ = some (.slice aa l.length cl) := by rw [← hwB]; simp [go_sem]
    have p3 : wB.cell? ⟨w.heap.size, 3, none⟩ = some (.slice ae q.length cq) := by rw [← hwB]; simp [go_sem]
    have p4 : wB.cell? ⟨w.heap.size, 4, none⟩ = some (.int .i64 q0) := by rw [← hwB]; simp [go_sem]
    have p5 : wB.cell? ⟨w.heap.size, 5, none⟩ = some (.int .i64 q1) := by rw [← hwB]; simp [go_sem]
    have p6 : wB.cell? ⟨w.heap.size, 6, none⟩ = some (.int .i64 q2) := by rw [← hwB]; simp [go_sem]
    have p7 : wB.cell? ⟨w.heap.size, 7, none⟩ = some (.int .i64 q3) := by rw [← hwB]; simp [go_sem]
    rw [hwB]
    clear hwB
    go_wp2_with fail
    go_ret
    exact ⟨true, (fun h => by cases h), rfl, hb⟩
  have h2i : ¬ (120 : Int) < (l.length : Int) := by omega
  by_cases h3 : 60 < q.length
  · have h3i : (60 : Int) < (q.length : Int) := by omega
    clear HV HC HL
    go_enter Tryz.func7, Tryz.ntmps7
    go_wp2_with fail
    obtain ⟨wB, hwB⟩ : ∃ wB, w.alloc (.cells #[.int .i64 L, .slice a js.length ca, .slice aa l.length cl, .slice ae q.length cq, .int .i64 q0, .int .i64 q1, .int .i64 q2, .int .i64 q3] 28) = wB := ⟨_, rfl⟩
    have hb : Below w.heap.size w wB := by rw [← hwB]; exact (Below.refl _ _).alloc (Nat.le_refl _) _
    have p0 : wB.cell? ⟨w.heap.size, 0, none⟩ = some (.int .i64 L) := by rw [← hwB]; simp [go_sem]
    have p1 : wB.cell? ⟨w.heap.size, 1, none⟩ = some (.slice a js.length ca) := by rw [← hwB]; simp [go_sem]
    have p2 : wB.cell? ⟨w.heap.size, 2, none⟩ = some (.slice aa l.length cl) := by rw [← hwB]; simp [go_sem]
    have p3 : wB.cell? ⟨w.heap.size, 3, none⟩ = some (.slice ae q.length cq) := by rw [← hwB]; simp [go_sem]
    have p4 : wB.cell? ⟨w.heap.size, 4, none⟩ = some (.int .i64 q0) := by rw [← hwB]; simp [go_sem]
    have p5 : wB.cell? ⟨w.heap.size, 5, none⟩ = some (.int .i64 q1) := by rw [← hwB]; simp [go_sem]
    have p6 : wB.cell? ⟨w.heap.size, 6, none⟩ = some (.int .i64 q2) := by rw [← hwB]; simp [go_sem]
    have p7 : wB.cell? ⟨w.heap.size, 7, none⟩ = some (.int .i64 q3) := by rw [← hwB]; simp [go_sem]
    rw [hwB]
    clear hwB
    go_wp2_with fail
    go_ret
    exact ⟨true, (fun h => by cases h), rfl, hb⟩
  have h3i : ¬ (60 : Int) < (q.length : Int) := by omega
  cases h4 : lineB L js with
  | true =>
    rw [h4] at HV
    by_cases h5 : 500 < L
    · clear HC HL h4
      go_enter Tryz.func7, Tryz.ntmps7
      go_wp2_with fail
      obtain ⟨wB, hwB⟩ : ∃ wB, w.alloc (.cells #[.int .i64 L, .slice a js.length ca, .slice aa l.length cl, .slice ae q.length cq, .int .i64 q0, .int .i64 q1, .int .i64 q2, .int .i64 q3] 28) = wB := ⟨_, rfl⟩
      have hb : Below w.heap.size w wB := by rw [← hwB]; exact (Below.refl _ _).alloc (Nat.le_refl _) _
      have p0 : wB.cell? ⟨w.heap.size, 0, none⟩ = some (.int .i64 L) := by rw [← hwB]; simp [go_sem]
      have p1 : wB.cell? ⟨w.heap.size, 1, none⟩ = some (.slice a js.length ca) := by rw [← hwB]; simp [go_sem]
      have p2 : wB.cell? ⟨w.heap.size, 2, none⟩ = some (.slice aa l.length cl) := by rw [← hwB]; simp [go_sem]
      have p3 : wB.cell? ⟨w.heap.size, 3, none⟩ = some (.slice ae q.length cq) := by rw [← hwB]; simp [go_sem]
      have p4 : wB.cell? ⟨w.heap.size, 4, none⟩ = some (.int .i64 q0) := by rw [← hwB]; simp [go_sem]
      have p5 : wB.cell? ⟨w.heap.size, 5, none⟩ = some (.int .i64 q1) := by rw [← hwB]; simp [go_sem]
      have p6 : wB.cell? ⟨w.heap.size, 6, none⟩ = some (.int .i64 q2) := by rw [← hwB]; simp [go_sem]
      have p7 : wB.cell? ⟨w.heap.size, 7, none⟩ = some (.int .i64 q3) := by rw [← hwB]; simp [go_sem]
      rw [hwB]
      clear hwB
      go_wp2_with (go_at_call 26; refine (HV.out _ hb).mono ?_; rintro e w1 ⟨rfl, hb1⟩; have hbw := hb.trans (hb1.mono hb.size); replace p0 := cell_below p0 hb1; replace p1 := cell_below p1 hb1; replace p2 := cell_below p2 hb1; replace p3 := cell_below p3 hb1; replace p4 := cell_below p4 hb1; replace p5 := cell_below p5 hb1; replace p6 := cell_below p6 hb1; replace p7 := cell_below p7 hb1)
      go_ret
      exact ⟨true, (fun h => by cases h), rfl, hbw⟩
    · have HB : Hid (lineB L js = true → L ≤ 500) := Lib.hid (fun _ => by omega)
      clear h4
      go_enter Tryz.func7, Tryz.ntmps7
      go_wp2_with fail
      obtain ⟨wB, hwB⟩ : ∃ wB, w.alloc (.cells #[.int .i64 L, .slice a js.length ca, .slice aa l.length cl, .slice ae q.length cq, .int .i64 q0, .int .i64 q1, .int .i64 q2, .int .i64 q3] 28) = wB := ⟨_, rfl⟩
      have hb : Below w.heap.size w wB := by rw [← hwB]; exact (Below.refl _ _).alloc (Nat.le_refl _) _
      have p0 : wB.cell? ⟨w.heap.size, 0, none⟩ = some (.int .i64 L) := by rw [← hwB]; simp [go_sem]
      have p1 : wB.cell? ⟨w.heap.size, 1, none⟩ = some (.slice a js.length ca) := by rw [← hwB]; simp [go_sem]
      have p2 : wB.cell? ⟨w.heap.size, 2, none⟩ = some (.slice aa l.length cl) := by rw [← hwB]; simp [go_sem]
      have p3 : wB.cell? ⟨w.heap.size, 3, none⟩ = some (.slice ae q.length cq) := by rw [← hwB]; simp [go_sem]
      have p4 : wB.cell? ⟨w.heap.size, 4, none⟩ = some (.int .i64 q0) := by rw [← hwB]; simp [go_sem]
      have p5 : wB.cell? ⟨w.heap.size, 5, none⟩ = some (.int .i64 q1) := by rw [← hwB]; simp [go_sem]
      have p6 : wB.cell? ⟨w.heap.size, 6, none⟩ = some (.int .i64 q2) := by rw [← hwB]; simp [go_sem]
      have p7 : wB.cell? ⟨w.heap.size, 7, none⟩ = some (.int .i64 q3) := by rw [← hwB]; simp [go_sem]
      rw [hwB]
      clear hwB
      go_wp2_with (go_at_call 26; refine (HV.out _ hb).mono ?_; rintro e w1 ⟨rfl, hb1⟩; have hbw := hb.trans (hb1.mono hb.size); replace p0 := cell_below p0 hb1; replace p1 := cell_below p1 hb1; replace p2 := cell_below p2 hb1; replace p3 := cell_below p3 hb1; replace p4 := cell_below p4 hb1; replace p5 := cell_below p5 hb1; replace p6 := cell_below p6 hb1; replace p7 := cell_below p7 hb1)
      go_loopw [3] (fun i wr => ∃ k : Nat, k ≤ l.length ∧ i = .int .i64 k ∧ Below w1.heap.size w1 wr) (fun i _ => l.length - (intOf i).toNat)
      case atStart => exact ⟨0, Nat.zero_le _, rfl, Below.refl _ _⟩
      case round =>
        obtain ⟨k, hk, rfl, hbr⟩ := hrel
        have p2 := cell_below p2 hbr
        by_cases hlt : k < l.length
        · obtain rfl := HL.out (by omega)
          have hbo := hbw.trans (hbr.mono hbw.size)
          have c8 := cell_below (HC.out k hlt) hbo
          have hcv := HCV.out k hlt
          have hkl : (k : Int) < (l.length : Int) := by omega
          have hmeas : l.length - (k + 1) < l.length - k := by omega
          clear HC HL HCV
          generalize ad k = adk at *
          generalize cp k = cpk at *
          generalize (gs l k).cv.length = m at *
          by_cases hm : 20 < m
          · have hmi : (20 : Int) < (m : Int) := by omega
            go_wp2_with fail
            go_ret
            exact ⟨true, (fun h => by cases h), rfl, hbo⟩
          · have hmi : ¬ (20 : Int) < (m : Int) := by omega
            go_wp2_with fail
            go_roundw
            case rel => exact ⟨k + 1, by omega, by go_num, hbr⟩
            case measure => first | (simp [intOf]; exact hmeas) | simpa [intOf] using hmeas
        · obtain rfl : k = l.length := by omega
          go_wp2_with fail
          go_ret
          exact ⟨false, fun _ => ⟨by omega, by omega, by omega, HB.out⟩, rfl, hbw.trans (hbr.mono hbw.size)⟩
  | false =>
    rw [h4] at HV
    have HB : Hid (lineB L js = true → L ≤ 500) := Lib.hid (fun h => by rw [h4] at h; cases h)
    clear h4
    go_enter Tryz.func7, Tryz.ntmps7
    go_wp2_with fail
    obtain ⟨wB, hwB⟩ : ∃ wB, w.alloc (.cells #[.int .i64 L, .slice a js.length ca, .slice aa l.length cl, .slice ae q.length cq, .int .i64 q0, .int .i64 q1, .int .i64 q2, .int .i64 q3] 28) = wB := ⟨_, rfl⟩
    have hb : Below w.heap.size w wB := by rw [← hwB]; exact (Below.refl _ _).alloc (Nat.le_refl _) _
    have p0 : wB.cell? ⟨w.heap.size, 0, none⟩ = some (.int .i64 L) := by rw [← hwB]; simp [go_sem]
    have p1 : wB.cell? ⟨w.heap.size, 1, none⟩ = some (.slice a js.length ca) := by rw [← hwB]; simp [go_sem]
    have p2 : wB.cell? ⟨w.heap.size, 2, none⟩ = some (.slice aa l.length cl) := by rw [← hwB]; simp [go_sem]
    have p3 : wB.cell? ⟨w.heap.size, 3, none⟩ = some (.slice ae q.length cq) := by rw [← hwB]; simp [go_sem]
    have p4 : wB.cell? ⟨w.heap.size, 4, none⟩ = some (.int .i64 q0) := by rw [← hwB]; simp [go_sem]
    have p5 : wB.cell? ⟨w.heap.size, 5, none⟩ = some (.int .i64 q1) := by rw [← hwB]; simp [go_sem]
    have p6 : wB.cell? ⟨w.heap.size, 6, none⟩ = some (.int .i64 q2) := by rw [← hwB]; simp [go_sem]
    have p7 : wB.cell? ⟨w.heap.size, 7, none⟩ = some (.int .i64 q3) := by rw [← hwB]; simp [go_sem]
    rw [hwB]
    clear hwB
    go_wp2_with (go_at_call 26; refine (HV.out _ hb).mono ?_; rintro e w1 ⟨rfl, hb1⟩; have hbw := hb.trans (hb1.mono hb.size); replace p0 := cell_below p0 hb1; replace p1 := cell_below p1 hb1; replace p2 := cell_below p2 hb1; replace p3 := cell_below p3 hb1; replace p4 := cell_below p4 hb1; replace p5 := cell_below p5 hb1; replace p6 := cell_below p6 hb1; replace p7 := cell_below p7 hb1)
    go_loopw [3] (fun i wr => ∃ k : Nat, k ≤ l.length ∧ i = .int .i64 k ∧ Below w1.heap.size w1 wr) (fun i _ => l.length - (intOf i).toNat)
    case atStart => exact ⟨0, Nat.zero_le _, rfl, Below.refl _ _⟩
    case round =>
      obtain ⟨k, hk, rfl, hbr⟩ := hrel
      have p2 := cell_below p2 hbr
      by_cases hlt : k < l.length
      · obtain rfl := HL.out (by omega)
        have hbo := hbw.trans (hbr.mono hbw.size)
        have c8 := cell_below (HC.out k hlt) hbo
        have hcv := HCV.out k hlt
        have hkl : (k : Int) < (l.length : Int) := by omega
        have hmeas : l.length - (k + 1) < l.length - k := by omega
        clear HC HL HCV
        generalize ad k = adk at *
        generalize cp k = cpk at *
        generalize (gs l k).cv.length = m at *
        by_cases hm : 20 < m
        · have hmi : (20 : Int) < (m : Int) := by omega
          go_wp2_with fail
          go_ret
          exact ⟨true, (fun h => by cases h), rfl, hbo⟩
        · have hmi : ¬ (20 : Int) < (m : Int) := by omega
          go_wp2_with fail
          go_roundw
          case rel => exact ⟨k + 1, by omega, by go_num, hbr⟩
          case measure => first | (simp [intOf]; exact hmeas) | simpa [intOf] using hmeas
      · obtain rfl : k = l.length := by omega
        go_wp2_with fail
        go_ret
        exact ⟨false, fun _ => ⟨by omega, by omega, by omega, HB.out⟩, rfl, hbw.trans (hbr.mono hbw.size)⟩
end Go.Proofs.YtlpdjinhkmgbgaaGreatDoor

namespace Go.Proofs.YtlpdjinhkmgbgaaGreatDoor
set_option linter.unusedVariables false
set_option linter.unusedSimpArgs false
open Go.RowKit

theorem cl9_one (s : List Sgn) : ∀ x, x ∈ cl9 s → x.oneCell' = true := fun x hx => by
  unfold cl9 at hx
  obtain ⟨y, -, hy⟩ := List.mem_flatMap.1 hx
  simp only [List.mem_cons, List.not_mem_nil, or_false] at hy
  rcases hy with rfl | rfl | rfl | rfl | rfl | rfl | rfl | rfl | rfl <;> rfl
theorem app_signs {ops : Array Oper} {rest : List Oper} {o : Oper} {a : Act} {Q : Exit → Act → World → Prop} (w : World) (hgd : o.guard = none) (s x : Operand)
    (ho : o.op = .call { callee := .builtin .append, args := #[s, x], argTypes := #[25, 25] })
    (base : Nat) (b : Option Addr) (n c : Nat) (xs : List Value) (hs : a.eval s = .slice b n c) (hown : w.ownsRow base 69 9 (.slice b n c) n xs)
    (base2 : Nat) (ax : Option Addr) (l : List Sgn) (cx : Nat) (hx : a.eval x = .slice ax l.length cx) (hP : w.ownsRow base2 69 9 (.slice ax l.length cx) l.length (cl9 l)) (hlen : n + l.length ≤ 100000000) (hbase : base ≤ w.heap.size)
    (h : ∀ b' c' w', w'.ownsRow base 69 9 (.slice b' (n + l.length) c') (n + l.length) (xs ++ cl9 l) → Below base w w' → wpList Tryz.prog ops Q rest (a.put o.dst (.slice b' (n + l.length) c')) w') : wpList Tryz.prog ops Q (o :: rest) a w := by
  obtain ⟨n0, hi, hz0, hz1, hz2⟩ := info_parts signInfo
  by_cases h0 : l.length = 0
  · have hl := List.eq_nil_of_length_eq_zero h0
    subst hl
    refine wpList_append_zed hgd s x 25 ho base 69 n0 9 Tryz.underlying25 hi (.slice b n c) n xs hs hown ax cx hx ?_
    have := h b c w (by rw [show cl9 [] = [] from rfl, List.append_nil]; exact hown) (Below.refl _ _)
    exact this
  · obtain ⟨gx, hgx⟩ : ∃ gx, ax = some ⟨gx, 0, none⟩ := by
      rcases hP.2 with ⟨h1, h2⟩ | ⟨g2, c2, cur, h1, _⟩
      · omega
      · exact ⟨g2, by simpa using (Value.slice.inj h1).1⟩
    subst hgx
    refine wpList_append_lies w hgd s x 25 ho base 69 n0 _ 9 88 Tryz.underlying25 hi hz0 hz1 hz2 rfl (by decide) (.slice b n c) n xs hs hown ⟨gx, 0, none⟩ l.length cx (cl9 l) hx (cl9_len l) (fun j u hu => ?_) (cl9_one l) (by omega) (by unfold maxLen; omega) (by omega) hbase _ rfl ?_
    · have hj : j < l.length * 9 := by
        have := (List.getElem?_eq_some_iff.1 hu).1
        rw [cl9_len] at this
        omega
      rw [Addr.add_lit, Nat.zero_add]
      rw [World.ownsRow.cellAt hP j (by omega)]
      exact hu
    · intro g cap w' h1 h2 _ _
      exact h _ _ _ h1 ((Below.refl _ _).grown h2 hbase (fun z hz => owns_blockI hown hz))
theorem prp_cv {L : Int} {js : List Int} {q : List Edc} {h : Int} : ∀ k, ∀ s, s ∈ prpK L js q h k → s.cv = []
  | 0, s, hs => by cases hs
  | k + 1, s, hs => by
    rw [prpK, List.mem_append] at hs
    rcases hs with hs | hs
    · exact prp_cv k s hs
    · unfold wayN at hs
      obtain ⟨p, -, rfl⟩ := List.mem_map.1 hs
      rfl
theorem prp_len {L : Int} {js : List Int} {q : List Edc} {h : Int} : ∀ k, (prpK L js q h k).length ≤ k * L.toNat
  | 0 => by simp [prpK]
  | k + 1 => by
    rw [prpK, List.length_append]
    have h1 := prp_len (L := L) (js := js) (q := q) (h := h) k
    have h2 : (wayN L js q h (tpK k) (drK k)).length ≤ L.toNat := by unfold wayN; rw [List.length_map]; exact refN_len ..
    rw [Nat.succ_mul]
    omega
theorem numS_cv : ∀ (l : List Sgn) (i : Nat), (∀ s, s ∈ l → s.cv = []) → ∀ s, s ∈ numS i l → s.cv = []
  | [], _, _, s, hs => by cases hs
  | x :: r, i, h, s, hs => by
    rw [numS, List.mem_cons] at hs
    rcases hs with rfl | hs
    · exact h x (by simp)
    · exact numS_cv r (i + 1) (fun y hy => h y (by simp [hy])) s hs
theorem gs_memS {l : List Sgn} {i : Nat} (hi : i < l.length) : gs l i ∈ l := by
  unfold gs; rw [List.getD_eq_getElem?_getD, List.getElem?_eq_getElem hi]; exact List.getElem_mem _
theorem sgn_own {w : World} {base c : Nat} {a : Option Addr} {s : List Sgn} (h : w.ownsRow base 69 9 (.slice a s.length c) s.length (cl9 s)) (hn : s.length ≤ 9223372036854775807) (hcv : ∀ x, x ∈ s → x.cv = []) : SgnS w a s := by
  rcases h.2 with ⟨h1, h2⟩ | ⟨g2, c2, cur, h1, _⟩
  · have hs := List.eq_nil_of_length_eq_zero h2
    subst hs
    exact ⟨hn, 0, 0, fun _ => none, fun _ => 0, fun h => absurd rfl h, fun i hi => absurd hi (Nat.not_lt_zero _)⟩
  · obtain ⟨rfl, rfl⟩ : a = some ⟨g2, 0, none⟩ ∧ c = c2 := by simpa using h1
    refine ⟨hn, g2, 0, fun _ => none, fun _ => 0, fun _ => rfl, fun i hi => ?_⟩
    obtain ⟨i0, i1, i2, i3, i4, i5, i6, i7, i8⟩ := cl9_c s i hi
    have hc := hcv _ (gs_memS hi)
    rw [hc, Nat.zero_add]
    refine ⟨⟨?_, ?_, ?_, ?_, ?_, ?_, ?_, ?_⟩, ?_, pairs_nilR w⟩
    · rw [World.ownsRow.cellAt h (i * 9) (by omega)]; exact i0
    · rw [World.ownsRow.cellAt h (i * 9 + 1) (by omega)]; exact i1
    · rw [World.ownsRow.cellAt h (i * 9 + 2) (by omega)]; exact i2
    · rw [World.ownsRow.cellAt h (i * 9 + 3) (by omega)]; exact i3
    · rw [World.ownsRow.cellAt h (i * 9 + 4) (by omega)]; exact i4
    · rw [World.ownsRow.cellAt h (i * 9 + 5) (by omega)]; exact i5
    · rw [World.ownsRow.cellAt h (i * 9 + 6) (by omega)]; exact i6
    · rw [World.ownsRow.cellAt h (i * 9 + 7) (by omega)]; exact i7
    · rw [World.ownsRow.cellAt h (i * 9 + 8) (by omega)]; exact i8
/-- Signs with an error. -/
def SgA (M : List Sgn) (E : Int) (w : World) (e : Ending) (w' : World) : Prop := ∃ b c, e = .returned (.tuple #[.slice b M.length c, .int .i64 E]) ∧ SgnS w' b M ∧ Below w.heap.size w w'
/-- What a proposal is. -/
def prpR (L : Int) (js : List Int) (q : List Edc) (h : Int) : List Sgn := if (prpK L js q h 4).length ≤ 100 then numS 0 (prpK L js q h 4) else []
def prpE (L : Int) (js : List Int) (q : List Edc) (h : Int) : Int := if (prpK L js q h 4).length ≤ 100 then 0 else 2
set_option maxRecDepth 100000 in
set_option maxHeartbeats 1000000 in
theorem Propose_bad (L : Int) (a : Option Addr) (js : List Int) (ca : Nat) (ae : Option Addr) (q : List Edc) (cq : Nat) (h : Int) (hV : lstE L js [] q ≠ 0) (w : World) (hI : IntsS w a js) (hE : EdS w ae q) :
    Calls Tryz.prog 14 #[.agg #[.int .i64 L, .slice a js.length ca], .slice ae q.length cq, .int .i64 h] w fun e w' => e = .returned (.tuple #[.slice none 0 0, .int .i64 (lstE L js [] q)]) ∧ Below w.heap.size w w' := by
  have H1 := Lib.hid (fun W (hW : Below w.heap.size w W) => listsError_r L a js ca none [] 0 ae q cq W (hI.below hW) (sg_nil W) (hE.below hW))
  clear hI hE
  generalize lstE L js [] q = E at *
  have d1 : (E != 0) = true := by simp [hV]
  clear hV
  go_enter Tryz.func14, Tryz.ntmps14
  go_wp2_with fail
  obtain ⟨wB, hwB⟩ : ∃ wB, w.alloc (.cells #[.int .i64 L, .slice a js.length ca] 24) = wB := ⟨_, rfl⟩
  have hb : Below w.heap.size w wB := by rw [← hwB]; exact (Below.refl _ _).alloc (Nat.le_refl _) _
  have l0 : wB.cell? ⟨w.heap.size, 0, none⟩ = some (.int .i64 L) := by rw [← hwB]; simp [go_sem]
  have l1 : wB.cell? ⟨w.heap.size, 1, none⟩ = some (.slice a js.length ca) := by rw [← hwB]; simp [go_sem]
  rw [hwB]
  clear hwB
  go_wp2_with (go_at_call 27; refine (H1.out _ hb).mono ?_; rintro e w1 ⟨rfl, hb1⟩)
  go_ret2
  exact ⟨rfl, hb.trans (hb1.mono hb.size)⟩
set_option maxRecDepth 100000 in
set_option maxHeartbeats 1000000 in
theorem Propose_arg (L : Int) (a : Option Addr) (js : List Int) (ca : Nat) (ae : Option Addr) (q : List Edc) (cq : Nat) (h : Int) (hV : lstE L js [] q = 0) (hx : ((btw h 0 10000000)) = false) (w : World) (hI : IntsS w a js) (hE : EdS w ae q) :
    Calls Tryz.prog 14 #[.agg #[.int .i64 L, .slice a js.length ca], .slice ae q.length cq, .int .i64 h] w fun e w' => e = .returned (.tuple #[.slice none 0 0, .int .i64 2]) ∧ Below w.heap.size w w' := by
  have hLb := (lst_good hV).1
  have H1 := Lib.hid (fun W (hW : Below w.heap.size w W) => by
    have := listsError_r L a js ca none [] 0 ae q cq W (hI.below hW) (sg_nil W) (hE.below hW)
    rw [hV] at this
    exact this)
  have K0 := Lib.hid (fun W => isHour_r h W)
  clear hI hE hV hLb
  generalize btw h 0 10000000 = b0 at *
  cases b0 with
  | false =>
    clear hx
    go_enter Tryz.func14, Tryz.ntmps14
    go_wp2_with fail
    obtain ⟨wB, hwB⟩ : ∃ wB, w.alloc (.cells #[.int .i64 L, .slice a js.length ca] 24) = wB := ⟨_, rfl⟩
    have hb : Below w.heap.size w wB := by rw [← hwB]; exact (Below.refl _ _).alloc (Nat.le_refl _) _
    have l0 : wB.cell? ⟨w.heap.size, 0, none⟩ = some (.int .i64 L) := by rw [← hwB]; simp [go_sem]
    have l1 : wB.cell? ⟨w.heap.size, 1, none⟩ = some (.slice a js.length ca) := by rw [← hwB]; simp [go_sem]
    rw [hwB]
    clear hwB
    go_wp2_with (first | (go_at_call 27; refine (H1.out _ hb).mono ?_; rintro e w1 ⟨rfl, hb1⟩; replace hb := hb.trans (hb1.mono hb.size); replace l0 := cell_below l0 hb1; replace l1 := cell_below l1 hb1; clear hb1) | (go_at_call 28; refine (K0.out _).mono ?_; rintro e w2 ⟨rfl, rfl⟩))
    go_ret2
    exact ⟨rfl, hb⟩
  | true =>
    cases hx
set_option maxRecDepth 100000 in
set_option maxHeartbeats 4000000 in
theorem Propose_good (L : Int) (a : Option Addr) (js : List Int) (ca : Nat) (ae : Option Addr) (q : List Edc) (cq : Nat) (h : Int) (hV : lstE L js [] q = 0) (hh : btw h 0 10000000 = true) (w : World) (hG : WayTab w) (hI : IntsS w a js) (hE : EdS w ae q) :
    Calls Tryz.prog 14 #[.agg #[.int .i64 L, .slice a js.length ca], .slice ae q.length cq, .int .i64 h] w (SgA (prpR L js q h) (prpE L js q h) w) := by
  obtain ⟨hl, hL1, hL2⟩ := lst_line hV
  have H1 := Lib.hid (fun W (hW : Below w.heap.size w W) => by
    have := listsError_r L a js ca none [] 0 ae q cq W (hI.below hW) (sg_nil W) (hE.below hW)
    rw [hV] at this
    exact this)
  have K0 := Lib.hid (fun W => hh ▸ isHour_r h W)
  have HNe0 := Lib.hid (fun tp dir W (ht : tp = 1 ∨ tp = 2) (hd : dirB dir = true) (hW : Below w.heap.size w W) => needed_r L a js ca ae q cq h tp dir hV hh ht hd W (hI.below hW) (hE.below hW))
  have HLn : Hid (∀ k, (prpK L js q h k).length ≤ k * 100000) := Lib.hid fun k => Nat.le_trans (prp_len k) (Nat.mul_le_mul_left _ (by omega))
  have HWl : Hid (∀ tp dir, (wayN L js q h tp dir).length ≤ 100000) := Lib.hid fun tp dir => by unfold wayN; rw [List.length_map]; exact Nat.le_trans (refN_len ..) (by omega)
  obtain ⟨hgz, q0, q1, q2, q3, q4, q5, q6, q7⟩ := hG
  clear hI hE hV hh hl hL1 hL2
  go_enter Tryz.func14, Tryz.ntmps14
  go_wp2_with fail
  obtain ⟨wB, hwB⟩ : ∃ wB, w.alloc (.cells #[.int .i64 L, .slice a js.length ca] 24) = wB := ⟨_, rfl⟩
  have hb : Below w.heap.size w wB := by rw [← hwB]; exact (Below.refl _ _).alloc (Nat.le_refl _) _
  have l0 : wB.cell? ⟨w.heap.size, 0, none⟩ = some (.int .i64 L) := by rw [← hwB]; simp [go_sem]
  have l1 : wB.cell? ⟨w.heap.size, 1, none⟩ = some (.slice a js.length ca) := by rw [← hwB]; simp [go_sem]
  rw [hwB]
  clear hwB
  replace hgz := Nat.lt_of_lt_of_le hgz hb.size
  replace q0 := cell_below q0 hb
  replace q1 := cell_below q1 hb
  replace q2 := cell_below q2 hb
  replace q3 := cell_below q3 hb
  replace q4 := cell_below q4 hb
  replace q5 := cell_below q5 hb
  replace q6 := cell_below q6 hb
  replace q7 := cell_below q7 hb
  go_upto_region 7 with (first | (go_at_call 27; refine (H1.out _ hb).mono ?_; rintro e w1 ⟨rfl, hb1⟩; replace hb := hb.trans (hb1.mono hb.size); replace l0 := cell_below l0 hb1; replace l1 := cell_below l1 hb1; replace q0 := cell_below q0 hb1; replace q1 := cell_below q1 hb1; replace q2 := cell_below q2 hb1; replace q3 := cell_below q3 hb1; replace q4 := cell_below q4 hb1; replace q5 := cell_below q5 hb1; replace q6 := cell_below q6 hb1; replace q7 := cell_below q7 hb1; clear hb1) | (go_at_call 28; refine (K0.out _).mono ?_; rintro e w2 ⟨rfl, rfl⟩))
  obtain ⟨wB, rfl⟩ : ∃ wx : World, wx = w1 := ⟨_, rfl⟩
  have L0 := Lib.hid l0
  have L1 := Lib.hid l1
  have HB := Lib.hid hb
  clear H1 K0
  go_wp2_with fail
  clear q0 q1 q2 q3 q4 q5 q6 q7 l0 l1 hb
  go_loopw [9, 23] (fun v i wr => ∃ (k : Nat) (av : Option Addr) (cv : Nat), k ≤ 4 ∧ i = .int .i64 k ∧ v = .slice av (prpK L js q h k).length cv ∧ Hid (wr.ownsRow wB.heap.size 69 9 (.slice av (prpK L js q h k).length cv) (prpK L js q h k).length (cl9 (prpK L js q h k))) ∧ Below wB.heap.size wB wr) (fun _ i _ => 4 - (intOf i).toNat)
  case atStart => exact ⟨0, none, 0, Nat.zero_le _, rfl, rfl, Lib.hid (World.ownsRow_nil _ _ _ _), Below.refl _ _⟩
  case round =>
    obtain ⟨k, av, cv, hk, rfl, rfl, HRow, hbr⟩ := hrel
    by_cases hlt : k < 4
    · obtain ⟨tp, dir, hx, HSt, htp, hdir⟩ : ∃ tp dir : Int, (∀ W : World, (Instr.index 74 (.agg #[.int .i64 1, .int .i64 1, .int .i64 1, .int .i64 (-1), .int .i64 2, .int .i64 1, .int .i64 2, .int .i64 (-1)]) (.int .i64 k)).run Tryz.prog W = .ok (.agg #[.int .i64 tp, .int .i64 dir]) W) ∧ Hid (prpK L js q h (k + 1) = prpK L js q h k ++ wayN L js q h tp dir) ∧ (tp = 1 ∨ tp = 2) ∧ dirB dir = true := by
        rcases (by omega : k = 0 ∨ k = 1 ∨ k = 2 ∨ k = 3) with rfl | rfl | rfl | rfl
        · exact ⟨1, 1, fun _ => by kernel_rfl, Lib.hid rfl, by decide, by decide⟩
        · exact ⟨1, (-1), fun _ => by kernel_rfl, Lib.hid rfl, by decide, by decide⟩
        · exact ⟨2, 1, fun _ => by kernel_rfl, Lib.hid rfl, by decide, by decide⟩
        · exact ⟨2, (-1), fun _ => by kernel_rfl, Lib.hid rfl, by decide, by decide⟩
      have hk4 : (k : Int) < 4 := by omega
      have hln := HLn.out k
      have hwl := HWl.out tp dir
      have HNe := Lib.hid (fun W (hW : Below w.heap.size w W) => HNe0.out tp dir W htp hdir hW)
      clear htp hdir HNe0
      obtain ⟨M0, hM0⟩ : ∃ M0, prpK L js q h k = M0 := ⟨_, rfl⟩
      rw [hM0] at HSt HRow hln ⊢
      clear hM0
      obtain ⟨WN, hWN⟩ : ∃ WN, wayN L js q h tp dir = WN := ⟨_, rfl⟩
      rw [hWN] at HSt HNe hwl
      clear hWN
      have HAP : Hid (M0.length + WN.length = (prpK L js q h (k + 1)).length ∧ cl9 M0 ++ cl9 WN = cl9 (prpK L js q h (k + 1))) := Lib.hid (by rw [HSt.out, cl9_apps, List.length_append]; exact ⟨rfl, rfl⟩)
      go_upto_region 10 with (fail)
      obtain ⟨wz, hwz⟩ : ∃ wz, wr.alloc (.cells #[.int .i64 tp, .int .i64 dir] 73) = wz := ⟨_, rfl⟩
      have hbz : Below wB.heap.size wB wz := by rw [← hwz]; exact hbr.alloc hbr.size _
      have p0 : wz.cell? ⟨wr.heap.size, 0, none⟩ = some (.int .i64 tp) := by rw [← hwz]; simp [go_sem]
      have p1 : wz.cell? ⟨wr.heap.size, 1, none⟩ = some (.int .i64 dir) := by rw [← hwz]; simp [go_sem]
      have HRow1 := Lib.hid (HRow.out.alloc (.cells #[.int .i64 tp, .int .i64 dir] 73))
      rw [hwz] at HRow1 ⊢
      clear hwz HRow hx hbr
      have l0 := cell_below L0.out hbz
      have l1 := cell_below L1.out hbz
      have hbw := HB.out.trans (hbz.mono HB.out.size)
      go_wp2_with (first | (go_at_call 38; refine (HNe.out _ hbw).mono ?_; rintro e w9 ⟨b9, c9, rfl, hN9, hb9⟩; have HN9 := Lib.hid hN9; have HRow2 := Lib.hid (owns_belowI HRow1.out hb9); have hb92 := hbz.trans (hb9.mono hbz.size); have hbs := hb92.size; clear hN9) | (at_builtin; go_loud (refine app_signs _ rfl _ _ rfl wB.heap.size av M0.length cv (cl9 M0) (by rfl) HRow2.out wz.heap.size b9 WN c9 (by rfl) HN9.out (by omega) hbs ?_)))
      intro b6 c6 w6 ho6 hb6
      go_wp2_with fail
      go_roundw
      case rel => exact ⟨k + 1, b6, c6, by omega, by go_num, by rw [← HAP.out.1], Lib.hid (by rw [← HAP.out.1, ← HAP.out.2]; exact ho6), hb92.trans hb6⟩
      case measure => simp [intOf]; omega
    · obtain rfl : k = 4 := by omega
      have hln := HLn.out 4
      have HR0 : Hid (prpR L js q h = if (prpK L js q h 4).length ≤ 100 then numS 0 (prpK L js q h 4) else []) := Lib.hid rfl
      have HE0 : Hid (prpE L js q h = if (prpK L js q h 4).length ≤ 100 then 0 else 2) := Lib.hid rfl
      have HCv : Hid (∀ s, s ∈ numS 0 (prpK L js q h 4) → s.cv = []) := Lib.hid (numS_cv _ 0 (prp_cv 4))
      clear L0 L1 HNe0 HLn HWl
      generalize prpK L js q h 4 = X at *
      generalize prpR L js q h = RES at *
      generalize prpE L js q h = E at *
      by_cases hX : X.length ≤ 100
      · have HR : Hid (RES = numS 0 X ∧ E = 0) := Lib.hid ⟨by rw [HR0.out, if_pos hX], by rw [HE0.out, if_pos hX]⟩
        have HRow0 : Hid (wr.ownsRow wB.heap.size 69 9 (.slice av (mixS X 0).length cv) (mixS X 0).length (cl9 (mixS X 0))) := Lib.hid (by rw [mixS_zero]; exact HRow.out)
        have x0 : ¬ ((100 : Int) < (X.length : Int)) := by omega
        have x1 : ¬ (100 < X.length) := by omega
        have x2 : decide ((100 : Int) < (X.length : Int)) = false := decide_eq_false x0
        clear HR0 HE0 HRow hln
        go_wp2_with fail
        clear x0 x1 x2
        go_loopw [39] (fun i wq => ∃ j : Nat, j ≤ X.length ∧ i = .int .i64 j ∧ Hid (wq.ownsRow wB.heap.size 69 9 (.slice av X.length cv) X.length (cl9 (mixS X j))) ∧ Below wB.heap.size wB wq) (fun i _ => X.length - (intOf i).toNat)
        case atStart => exact ⟨0, Nat.zero_le _, rfl, Lib.hid (by have := HRow0.out; rwa [mixS_len] at this), hbr⟩
        case round =>
          obtain ⟨j, hj, rfl, HRow, hbr⟩ := hrel
          by_cases hjl : j < X.length
          · obtain ⟨gj, hgj⟩ : ∃ gj, av = some ⟨gj, 0, none⟩ := by
              rcases HRow.out.2 with ⟨h1, h2⟩ | ⟨g2, c2, cur, h1, _⟩
              · omega
              · exact ⟨g2, by simpa using (Value.slice.inj h1).1⟩
            subst hgj
            have y9 := World.ownsRow.cellAt HRow.out (j * 9) (by omega)
            rw [(cl9_c (mixS X j) j (by rw [mixS_len]; exact hjl)).1] at y9
            have fx := World.ownsRow.frozenAt HRow.out (j * 9)
            have hgl : wB.heap.size ≤ gj := (own_lt HRow.out _ rfl).2.1
            have HSET : Hid (∀ W : World, W.ownsRow wB.heap.size 69 9 (.slice (some ⟨gj, 0, none⟩) X.length cv) X.length (cl9 (mixS X j)) → (W.setCell ⟨gj, j * 9, none⟩ (.int .i64 ((j : Int) + 1))).ownsRow wB.heap.size 69 9 (.slice (some ⟨gj, 0, none⟩) X.length cv) X.length (cl9 (mixS X (j + 1)))) := Lib.hid fun W h => by
              have := (World.ownsRow.stored h (j * 9) (.int .i64 ((j : Int) + 1))).1
              rw [cl9_set _ _ _ (by rw [mixS_len]; exact hjl), ← mixS_succ hjl] at this
              exact this
            generalize (gs (mixS X j) j).n = o9 at *
            have j0 : (0 : Int) ≤ (j : Int) := by omega
            have j1 : (j : Int) < (X.length : Int) := by omega
            have jw : IntKind.i64.wrap ((j : Int) + 1) = (j : Int) + 1 := IntWalk.i64_in _ (by omega)
            clear HR HCv HRow0
            go_wp2_with fail
            go_roundw
            case rel => exact ⟨j + 1, by omega, by go_num, Lib.hid (HSET.out _ HRow.out), hbr.setCell (p := ⟨gj, j * 9, none⟩) hgl _⟩
            case measure => simp [intOf]; omega
          · obtain rfl : j = X.length := by omega
            have HEnd : Hid (SgA RES E w (.returned (.tuple #[.slice av X.length cv, .int .i64 0])) wr) := Lib.hid (by
              have h1 := HRow.out
              rw [mixS_all] at h1
              rw [HR.out.1, HR.out.2]
              exact ⟨av, cv, by rw [numS_len], sgn_own (by rw [numS_len]; exact h1) (by rw [numS_len]; omega) HCv.out, HB.out.trans (hbr.mono HB.out.size)⟩)
            clear HR HCv HRow0 HRow
            go_wp2_with fail
            go_ret2
            exact HEnd.out
      · have HEnd : Hid (SgA RES E w (.returned (.tuple #[.slice none 0 0, .int .i64 2])) wr) := Lib.hid (by
          rw [HR0.out, HE0.out, if_neg hX, if_neg hX]
          exact ⟨none, 0, rfl, sg_nil wr, HB.out.trans (hbr.mono HB.out.size)⟩)
        have x0 : (100 : Int) < (X.length : Int) := by omega
        have x1 : 100 < X.length := by omega
        have x2 : decide ((100 : Int) < (X.length : Int)) = true := decide_eq_true x0
        clear HR0 HE0 HRow HCv hX
        go_wp2_with fail
        go_ret2
        exact HEnd.out
theorem Propose_any (L : Int) (a : Option Addr) (js : List Int) (ca : Nat) (ae : Option Addr) (q : List Edc) (cq : Nat) (h : Int) (b8 : Bool) (w : World) (hG : WayTab w) (hI : IntsS w a js) (hE : EdS w ae q) :
    Calls Tryz.prog 14 #[.agg #[.int .i64 L, .slice a js.length ca], .slice ae q.length cq, .int .i64 h] w (SgA (if whyK (lineB L js) false b8 true (edcsB L js q) (btw h 0 10000000) = 0 then prpR L js q h else []) (if whyK (lineB L js) false b8 true (edcsB L js q) (btw h 0 10000000) = 0 then prpE L js q h else whyK (lineB L js) false b8 true (edcsB L js q) (btw h 0 10000000)) w) := by
  obtain ⟨k1, k2⟩ := lst_e L js q b8 (btw h 0 10000000)
  by_cases hV : lstE L js [] q = 0
  · rw [k2 hV]
    cases hx : btw h 0 10000000 with
    | false =>
      rw [if_pos rfl, if_neg (by decide), if_neg (by decide)]
      refine (Propose_arg L a js ca ae q cq h hV hx w hI hE).mono ?_
      rintro e w' ⟨rfl, hb⟩
      exact ⟨none, 0, rfl, sg_nil w', hb⟩
    | true =>
      rw [if_neg (show ¬ (true = false) by decide), if_pos rfl, if_pos rfl]
      exact Propose_good L a js ca ae q cq h hV hx w hG hI hE
  · rw [k1 hV, if_neg hV, if_neg hV]
    refine (Propose_bad L a js ca ae q cq h hV w hI hE).mono ?_
    rintro e w' ⟨rfl, hb⟩
    exact ⟨none, 0, rfl, sg_nil w', hb⟩
end Go.Proofs.YtlpdjinhkmgbgaaGreatDoor

namespace Go.Proofs.YtlpdjinhkmgbgaaGreatDoor
set_option linter.unusedVariables false
set_option linter.unusedSimpArgs false
open Go.RowKit

set_option maxRecDepth 100000 in
set_option maxHeartbeats 1000000 in
theorem topic_r (n : Int) (w : World) : Calls Tryz.prog 44 #[.int .i64 n] w fun e w' => e = .returned (.bool (topB n)) ∧ w = w' := by
  by_cases h1 : n = 1
  · subst h1
    go_enter Tryz.func44, Tryz.ntmps44
    go_wp2_with fail
    go_ret
    exact ⟨rfl, rfl⟩
  · have d1 : (n == 1) = false := beq_false_of_ne h1
    have hr : Hid (topB n = (n == 2)) := Lib.hid (by unfold topB; rw [d1, Bool.false_or])
    clear h1
    go_enter Tryz.func44, Tryz.ntmps44
    go_wp2_with fail
    go_ret
    exact ⟨by rw [hr.out] <;> rfl, rfl⟩
end Go.Proofs.YtlpdjinhkmgbgaaGreatDoor

namespace Go.Proofs.YtlpdjinhkmgbgaaGreatDoor
set_option linter.unusedVariables false
set_option linter.unusedSimpArgs false
open Go.RowKit

/-- right says whether an ask has valid parts. -/
def RgtE (L : Int) (js : List Int) (l : List Sgn) (q : List Edc) (q0 q1 q2 : Int) (w : World) (e : Ending) (w' : World) : Prop :=
  ∃ b : Bool, (b = true → lstE L js l q = 0 ∧ L ≤ 200 ∧ btw q0 0 10000000 = true ∧ dirB q1 = true ∧ topB q2 = true) ∧ e = .returned (.bool b) ∧ Below w.heap.size w w'
theorem lst_zero {L : Int} {js : List Int} {l : List Sgn} {q : List Edc} (h1 : sgnsB L js l = true) (h2 : edcsB L js q = true) : lstE L js l q = 0 := by
  unfold lstE
  rw [sgns_line h1, h1, h2]
  rfl
/-- The metre of an ask, within its line. -/
theorem metre_u (L q3 : Int) (h1 : 1 ≤ L) (h2 : L ≤ 200) : ∃ U M : Int, IntKind.u64.wrap q3 = U ∧ U.tmod L = M ∧ 0 ≤ M ∧ M < L ∧ IntKind.u64.wrap L = L ∧ wrap64 M = M ∧ btw M 0 (L - 1) = true := by
  have hw : ∀ x : Int, IntKind.u64.wrap x = x % 18446744073709551616 := fun x => by
    unfold IntKind.wrap
    simp [IntKind.signed, IntKind.bits]
  have hU : 0 ≤ IntKind.u64.wrap q3 := by rw [hw]; exact Int.emod_nonneg _ (by decide)
  have hM0 : 0 ≤ (IntKind.u64.wrap q3).tmod L := Int.tmod_nonneg _ hU
  have hM1 : (IntKind.u64.wrap q3).tmod L < L := Int.tmod_lt_of_pos _ (by omega)
  refine ⟨_, _, rfl, rfl, hM0, hM1, by rw [hw]; omega, ?_, ?_⟩
  · unfold wrap64; omega
  · unfold btw; rw [decide_eq_true hM0, decide_eq_true (by omega)]; rfl
set_option linter.unnecessarySimpa false
set_option maxRecDepth 100000 in
set_option maxHeartbeats 4000000 in
theorem right_r (L : Int) (a : Option Addr) (js : List Int) (ca : Nat) (aa : Option Addr) (l : List Sgn) (cl : Nat) (ae : Option Addr) (q : List Edc) (cq : Nat) (q0 q1 q2 q3 : Int) (w : World) (hI : IntsS w a js) (hA : SgnS w aa l) (hE : EdS w ae q) : Calls Tryz.prog 17 #[.agg #[.int .i64 L, .slice a js.length ca, .slice aa l.length cl, .slice ae q.length cq, .int .i64 q0, .int .i64 q1, .int .i64 q2, .int .i64 q3]] w (RgtE L js l q q0 q1 q2 w) := by
  have HH := Lib.hid (fun W (hW : Below w.heap.size w W) => Heavy_any L a js ca aa l cl ae q cq q0 q1 q2 q3 W (hI.below hW) (hA.below hW) (hE.below hW))
  have HS := Lib.hid (fun W (hW : Below w.heap.size w W) => refValidSigns_r L a js ca aa l cl W (hI.below hW) (hA.below hW))
  have HE := Lib.hid (fun W (hW : Below w.heap.size w W) => refValidEdicts_r L a js ca ae q cq W (hI.below hW) (hE.below hW))
  have K0 := Lib.hid (fun W => hour_r q0 W)
  have K1 := Lib.hid (fun W => way_r q1 W)
  have K2 := Lib.hid (fun W => topic_r q2 W)
  clear hI hA hE
  obtain ⟨s1, h⟩ : ∃ s1, sgnsB L js l = s1 := ⟨_, rfl⟩
  rw [h] at HS
  have HS1 := Lib.hid h
  clear h
  obtain ⟨s2, h⟩ : ∃ s2, edcsB L js q = s2 := ⟨_, rfl⟩
  rw [h] at HE
  have HS2 := Lib.hid h
  clear h
  obtain ⟨s3, h⟩ : ∃ s3, btw q0 0 10000000 = s3 := ⟨_, rfl⟩
  rw [h] at K0
  have HS3 := Lib.hid h
  clear h
  obtain ⟨s4, h⟩ : ∃ s4, dirB q1 = s4 := ⟨_, rfl⟩
  rw [h] at K1
  have HS4 := Lib.hid h
  clear h
  obtain ⟨s5, h⟩ : ∃ s5, topB q2 = s5 := ⟨_, rfl⟩
  rw [h] at K2
  have HS5 := Lib.hid h
  clear h
  go_enter Tryz.func17, Tryz.ntmps17
  go_wp2_with fail
  obtain ⟨wB, hwB⟩ : ∃ wB, w.alloc (.cells #[.int .i64 L, .slice a js.length ca, .slice aa l.length cl, .slice ae q.length cq, .int .i64 q0, .int .i64 q1, .int .i64 q2, .int .i64 q3] 28) = wB := ⟨_, rfl⟩
  have hb : Below w.heap.size w wB := by rw [← hwB]; exact (Below.refl _ _).alloc (Nat.le_refl _) _
  have p0 : wB.cell? ⟨w.heap.size, 0, none⟩ = some (.int .i64 L) := by rw [← hwB]; simp [go_sem]
  have p1 : wB.cell? ⟨w.heap.size, 1, none⟩ = some (.slice a js.length ca) := by rw [← hwB]; simp [go_sem]
  have p2 : wB.cell? ⟨w.heap.size, 2, none⟩ = some (.slice aa l.length cl) := by rw [← hwB]; simp [go_sem]
  have p3 : wB.cell? ⟨w.heap.size, 3, none⟩ = some (.slice ae q.length cq) := by rw [← hwB]; simp [go_sem]
  have p4 : wB.cell? ⟨w.heap.size, 4, none⟩ = some (.int .i64 q0) := by rw [← hwB]; simp [go_sem]
  have p5 : wB.cell? ⟨w.heap.size, 5, none⟩ = some (.int .i64 q1) := by rw [← hwB]; simp [go_sem]
  have p6 : wB.cell? ⟨w.heap.size, 6, none⟩ = some (.int .i64 q2) := by rw [← hwB]; simp [go_sem]
  have p7 : wB.cell? ⟨w.heap.size, 7, none⟩ = some (.int .i64 q3) := by rw [← hwB]; simp [go_sem]
  rw [hwB]
  clear hwB
  refine (HH.out _ hb).mono ?_
  rintro e wX ⟨bv, hHv, rfl, hb1⟩
  replace p0 := cell_below p0 hb1
  replace p1 := cell_below p1 hb1
  replace p2 := cell_below p2 hb1
  replace p3 := cell_below p3 hb1
  replace p4 := cell_below p4 hb1
  replace p5 := cell_below p5 hb1
  replace p6 := cell_below p6 hb1
  replace p7 := cell_below p7 hb1
  have hbw := hb.trans (hb1.mono hb.size)
  clear HH hb1 hHv
  cases bv with
  | true =>
    go_wp2_with fail
    go_ret
    exact ⟨false, (fun h => by cases h), rfl, hbw⟩
  | false =>
    cases s1 with
    | false =>
      go_wp2_with (first | (go_at_call 34; refine (HS.out _ hbw).mono ?_; rintro e w9 ⟨rfl, hb9⟩; replace hbw := hbw.trans (hb9.mono hbw.size); replace p0 := cell_below p0 hb9; replace p1 := cell_below p1 hb9; replace p2 := cell_below p2 hb9; replace p3 := cell_below p3 hb9; replace p4 := cell_below p4 hb9; replace p5 := cell_below p5 hb9; replace p6 := cell_below p6 hb9; replace p7 := cell_below p7 hb9; clear hb9) | (go_at_call 35; refine (HE.out _ hbw).mono ?_; rintro e w9 ⟨rfl, hb9⟩; replace hbw := hbw.trans (hb9.mono hbw.size); replace p0 := cell_below p0 hb9; replace p1 := cell_below p1 hb9; replace p2 := cell_below p2 hb9; replace p3 := cell_below p3 hb9; replace p4 := cell_below p4 hb9; replace p5 := cell_below p5 hb9; replace p6 := cell_below p6 hb9; replace p7 := cell_below p7 hb9; clear hb9) | (go_at_call 11; refine (K0.out _).mono ?_; rintro e w9 ⟨rfl, rfl⟩) | (go_at_call 43; refine (K1.out _).mono ?_; rintro e w9 ⟨rfl, rfl⟩) | (go_at_call 44; refine (K2.out _).mono ?_; rintro e w9 ⟨rfl, rfl⟩))
      go_ret
      exact ⟨false, (fun h => by cases h), rfl, hbw⟩
    | true =>
      cases s2 with
      | false =>
        go_wp2_with (first | (go_at_call 34; refine (HS.out _ hbw).mono ?_; rintro e w9 ⟨rfl, hb9⟩; replace hbw := hbw.trans (hb9.mono hbw.size); replace p0 := cell_below p0 hb9; replace p1 := cell_below p1 hb9; replace p2 := cell_below p2 hb9; replace p3 := cell_below p3 hb9; replace p4 := cell_below p4 hb9; replace p5 := cell_below p5 hb9; replace p6 := cell_below p6 hb9; replace p7 := cell_below p7 hb9; clear hb9) | (go_at_call 35; refine (HE.out _ hbw).mono ?_; rintro e w9 ⟨rfl, hb9⟩; replace hbw := hbw.trans (hb9.mono hbw.size); replace p0 := cell_below p0 hb9; replace p1 := cell_below p1 hb9; replace p2 := cell_below p2 hb9; replace p3 := cell_below p3 hb9; replace p4 := cell_below p4 hb9; replace p5 := cell_below p5 hb9; replace p6 := cell_below p6 hb9; replace p7 := cell_below p7 hb9; clear hb9) | (go_at_call 11; refine (K0.out _).mono ?_; rintro e w9 ⟨rfl, rfl⟩) | (go_at_call 43; refine (K1.out _).mono ?_; rintro e w9 ⟨rfl, rfl⟩) | (go_at_call 44; refine (K2.out _).mono ?_; rintro e w9 ⟨rfl, rfl⟩))
        go_ret
        exact ⟨false, (fun h => by cases h), rfl, hbw⟩
      | true =>
        by_cases h2 : L ≤ 200
        · have d2 : decide (L ≤ 200) = true := decide_eq_true h2
          cases s3 with
          | false =>
            go_wp2_with (first | (go_at_call 34; refine (HS.out _ hbw).mono ?_; rintro e w9 ⟨rfl, hb9⟩; replace hbw := hbw.trans (hb9.mono hbw.size); replace p0 := cell_below p0 hb9; replace p1 := cell_below p1 hb9; replace p2 := cell_below p2 hb9; replace p3 := cell_below p3 hb9; replace p4 := cell_below p4 hb9; replace p5 := cell_below p5 hb9; replace p6 := cell_below p6 hb9; replace p7 := cell_below p7 hb9; clear hb9) | (go_at_call 35; refine (HE.out _ hbw).mono ?_; rintro e w9 ⟨rfl, hb9⟩; replace hbw := hbw.trans (hb9.mono hbw.size); replace p0 := cell_below p0 hb9; replace p1 := cell_below p1 hb9; replace p2 := cell_below p2 hb9; replace p3 := cell_below p3 hb9; replace p4 := cell_below p4 hb9; replace p5 := cell_below p5 hb9; replace p6 := cell_below p6 hb9; replace p7 := cell_below p7 hb9; clear hb9) | (go_at_call 11; refine (K0.out _).mono ?_; rintro e w9 ⟨rfl, rfl⟩) | (go_at_call 43; refine (K1.out _).mono ?_; rintro e w9 ⟨rfl, rfl⟩) | (go_at_call 44; refine (K2.out _).mono ?_; rintro e w9 ⟨rfl, rfl⟩))
            go_ret
            exact ⟨false, (fun h => by cases h), rfl, hbw⟩
          | true =>
            cases s4 with
            | false =>
              go_wp2_with (first | (go_at_call 34; refine (HS.out _ hbw).mono ?_; rintro e w9 ⟨rfl, hb9⟩; replace hbw := hbw.trans (hb9.mono hbw.size); replace p0 := cell_below p0 hb9; replace p1 := cell_below p1 hb9; replace p2 := cell_below p2 hb9; replace p3 := cell_below p3 hb9; replace p4 := cell_below p4 hb9; replace p5 := cell_below p5 hb9; replace p6 := cell_below p6 hb9; replace p7 := cell_below p7 hb9; clear hb9) | (go_at_call 35; refine (HE.out _ hbw).mono ?_; rintro e w9 ⟨rfl, hb9⟩; replace hbw := hbw.trans (hb9.mono hbw.size); replace p0 := cell_below p0 hb9; replace p1 := cell_below p1 hb9; replace p2 := cell_below p2 hb9; replace p3 := cell_below p3 hb9; replace p4 := cell_below p4 hb9; replace p5 := cell_below p5 hb9; replace p6 := cell_below p6 hb9; replace p7 := cell_below p7 hb9; clear hb9) | (go_at_call 11; refine (K0.out _).mono ?_; rintro e w9 ⟨rfl, rfl⟩) | (go_at_call 43; refine (K1.out _).mono ?_; rintro e w9 ⟨rfl, rfl⟩) | (go_at_call 44; refine (K2.out _).mono ?_; rintro e w9 ⟨rfl, rfl⟩))
              go_ret
              exact ⟨false, (fun h => by cases h), rfl, hbw⟩
            | true =>
              cases s5 with
              | false =>
                go_wp2_with (first | (go_at_call 34; refine (HS.out _ hbw).mono ?_; rintro e w9 ⟨rfl, hb9⟩; replace hbw := hbw.trans (hb9.mono hbw.size); replace p0 := cell_below p0 hb9; replace p1 := cell_below p1 hb9; replace p2 := cell_below p2 hb9; replace p3 := cell_below p3 hb9; replace p4 := cell_below p4 hb9; replace p5 := cell_below p5 hb9; replace p6 := cell_below p6 hb9; replace p7 := cell_below p7 hb9; clear hb9) | (go_at_call 35; refine (HE.out _ hbw).mono ?_; rintro e w9 ⟨rfl, hb9⟩; replace hbw := hbw.trans (hb9.mono hbw.size); replace p0 := cell_below p0 hb9; replace p1 := cell_below p1 hb9; replace p2 := cell_below p2 hb9; replace p3 := cell_below p3 hb9; replace p4 := cell_below p4 hb9; replace p5 := cell_below p5 hb9; replace p6 := cell_below p6 hb9; replace p7 := cell_below p7 hb9; clear hb9) | (go_at_call 11; refine (K0.out _).mono ?_; rintro e w9 ⟨rfl, rfl⟩) | (go_at_call 43; refine (K1.out _).mono ?_; rintro e w9 ⟨rfl, rfl⟩) | (go_at_call 44; refine (K2.out _).mono ?_; rintro e w9 ⟨rfl, rfl⟩))
                go_ret
                exact ⟨false, (fun h => by cases h), rfl, hbw⟩
              | true =>
                go_wp2_with (first | (go_at_call 34; refine (HS.out _ hbw).mono ?_; rintro e w9 ⟨rfl, hb9⟩; replace hbw := hbw.trans (hb9.mono hbw.size); replace p0 := cell_below p0 hb9; replace p1 := cell_below p1 hb9; replace p2 := cell_below p2 hb9; replace p3 := cell_below p3 hb9; replace p4 := cell_below p4 hb9; replace p5 := cell_below p5 hb9; replace p6 := cell_below p6 hb9; replace p7 := cell_below p7 hb9; clear hb9) | (go_at_call 35; refine (HE.out _ hbw).mono ?_; rintro e w9 ⟨rfl, hb9⟩; replace hbw := hbw.trans (hb9.mono hbw.size); replace p0 := cell_below p0 hb9; replace p1 := cell_below p1 hb9; replace p2 := cell_below p2 hb9; replace p3 := cell_below p3 hb9; replace p4 := cell_below p4 hb9; replace p5 := cell_below p5 hb9; replace p6 := cell_below p6 hb9; replace p7 := cell_below p7 hb9; clear hb9) | (go_at_call 11; refine (K0.out _).mono ?_; rintro e w9 ⟨rfl, rfl⟩) | (go_at_call 43; refine (K1.out _).mono ?_; rintro e w9 ⟨rfl, rfl⟩) | (go_at_call 44; refine (K2.out _).mono ?_; rintro e w9 ⟨rfl, rfl⟩))
                go_ret
                exact ⟨true, fun _ => ⟨lst_zero HS1.out HS2.out, h2, HS3.out, HS4.out, HS5.out⟩, rfl, hbw⟩
        · have d2 : decide (L ≤ 200) = false := decide_eq_false h2
          go_wp2_with (first | (go_at_call 34; refine (HS.out _ hbw).mono ?_; rintro e w9 ⟨rfl, hb9⟩; replace hbw := hbw.trans (hb9.mono hbw.size); replace p0 := cell_below p0 hb9; replace p1 := cell_below p1 hb9; replace p2 := cell_below p2 hb9; replace p3 := cell_below p3 hb9; replace p4 := cell_below p4 hb9; replace p5 := cell_below p5 hb9; replace p6 := cell_below p6 hb9; replace p7 := cell_below p7 hb9; clear hb9) | (go_at_call 35; refine (HE.out _ hbw).mono ?_; rintro e w9 ⟨rfl, hb9⟩; replace hbw := hbw.trans (hb9.mono hbw.size); replace p0 := cell_below p0 hb9; replace p1 := cell_below p1 hb9; replace p2 := cell_below p2 hb9; replace p3 := cell_below p3 hb9; replace p4 := cell_below p4 hb9; replace p5 := cell_below p5 hb9; replace p6 := cell_below p6 hb9; replace p7 := cell_below p7 hb9; clear hb9) | (go_at_call 11; refine (K0.out _).mono ?_; rintro e w9 ⟨rfl, rfl⟩) | (go_at_call 43; refine (K1.out _).mono ?_; rintro e w9 ⟨rfl, rfl⟩) | (go_at_call 44; refine (K2.out _).mono ?_; rintro e w9 ⟨rfl, rfl⟩))
          go_ret
          exact ⟨false, (fun h => by cases h), rfl, hbw⟩
end Go.Proofs.YtlpdjinhkmgbgaaGreatDoor
