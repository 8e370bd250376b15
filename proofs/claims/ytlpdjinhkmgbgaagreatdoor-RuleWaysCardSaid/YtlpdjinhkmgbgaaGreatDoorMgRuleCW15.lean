/-
  The sanity check of the laws of package rule. By an AI agent.; Heavy of package rule's laws. By an AI agent.; The law RuleHolds. By an AI agent.; Compare with an error; the comparison of gaps. By an AI agent.; The reference's all, musts, stretches, Held and Wanted. By an AI agent.
-/
import Derived.Test.YtlpdjinhkmgbgaaGreatDoorMgRuleCW1
import Derived.Test.YtlpdjinhkmgbgaaGreatDoorMgRuleCW2
import Derived.Test.YtlpdjinhkmgbgaaGreatDoorMgRuleCW8
import Derived.Test.YtlpdjinhkmgbgaaGreatDoorMgRuleCW9
import Derived.Test.YtlpdjinhkmgbgaaGreatDoorMgRuleCW10
import Derived.Test.YtlpdjinhkmgbgaaGreatDoorMgRuleCW14
import Derived.BigQuiet
import Derived.BigRegion
import Derived.Deep.RegionHeld3
import Derived.Deep.DeepCutAuto
import Derived.StillTailTactics
import Derived.Deep.AppendLies

namespace Go.Proofs.YtlpdjinhkmgbgaaGreatDoor
set_option linter.unusedVariables false
set_option linter.unusedSimpArgs false
open Go.RowKit

def exS : Sgn := ⟨1, 1, 70, 200, 1, 1, 0, 9, []⟩
theorem ex_srt : srt [0, 1000, 200, 600] = [0, 200, 600, 1000] := by simp [srt, List.mergeSort]
theorem ex_srt1 : srt [1] = [1] := by simp [srt]
theorem ex_lst : lstE 1000 [600] [exS] [] = 0 := by
  have e1 : nosK [exS] [exS].length = [1] := rfl
  have e2 : nosE [] ([] : List Edc).length = [] := rfl
  have e3 : srt ([] : List Int) = [] := by simp [srt]
  unfold lstE sgnsB edcsB numB
  rw [e1, e2, e3, ex_srt1]
  decide
theorem ex_held (row : List Pst) (h : RowL 1000 [600] 1 3 [exS] row) : hldM 1000 1 1 row = [(200, 600, 70)] := by
  obtain ⟨ad, cp, l1, hp, -, rfl⟩ := h
  have e : rowK 1000 [600] 1 3 [exS] ad cp [exS].length = [(mkP 1000 [600] 1 exS, ad 0, cp 0)] := rfl
  rw [e] at hp
  obtain rfl := List.perm_singleton.1 hp
  have e2 : (finP [(mkP 1000 [600] 1 exS, ad 0, cp 0)] ([(mkP 1000 [600] 1 exS, ad 0, cp 0)].length - 1)).map (·.1) = [mkP 1000 [600] 1 exS] := rfl
  rw [e2]
  have e3 : cutsK 1000 1 [mkP 1000 [600] 1 exS] [mkP 1000 [600] 1 exS].length = [0, 1000, 200, 600] := by decide
  unfold hldM ascL
  rw [e3, ex_srt]
  decide
theorem pairs_nilR (w : World) : PairsS w none [] := ⟨by decide, fun i hi => absurd hi (Nat.not_lt_zero i), 0, 0, fun h => (h rfl).elim, fun i hi => absurd hi (Nat.not_lt_zero i)⟩
theorem ex_ints {w : World} {b : Nat} (h : w.cell? ⟨b, 0, none⟩ = some (.int .i64 600)) : IntsS w (some ⟨b, 0, none⟩) [600] := ⟨by decide, fun i hi => by
  have hi : i < 1 := hi
  obtain rfl : i = 0 := by omega
  exact ⟨by decide, by decide⟩, b, 0, fun _ => rfl, fun i hi => by
  have hi : i < 1 := hi
  obtain rfl : i = 0 := by omega
  exact h⟩
theorem ex_sgn {w : World} {b : Nat} (h : w.heap[b]? = some (.cells #[.int .i64 1, .int .i64 1, .int .i64 70, .int .i64 200, .int .i64 1, .int .i64 1, .int .i64 0, .int .i64 9, .slice none 0 0] 69)) : SgnS w (some ⟨b, 0, none⟩) [exS] := ⟨by decide, b, 0, fun _ => none, fun _ => 0, fun _ => rfl, fun i hi => by
  have hi : i < 1 := hi
  obtain rfl : i = 0 := by omega
  exact ⟨⟨by simp [World.cell?, h]; rfl, by simp [World.cell?, h]; rfl, by simp [World.cell?, h]; rfl, by simp [World.cell?, h]; rfl, by simp [World.cell?, h]; rfl, by simp [World.cell?, h]; rfl, by simp [World.cell?, h]; rfl, by simp [World.cell?, h]; rfl⟩, by simp [World.cell?, h]; rfl, pairs_nilR _⟩⟩
/-- The example's stretch. -/
def ExE (w : World) (e : Ending) (w' : World) : Prop := ∃ g c, e = .returned (.tuple #[.slice (some ⟨g, 0, none⟩) 1 c, .int .i64 0]) ∧ w'.cell? ⟨g, 0, none⟩ = some (.int .i64 200) ∧ w'.cell? ⟨g, 1, none⟩ = some (.int .i64 600) ∧ w'.cell? ⟨g, 2, none⟩ = some (.int .i64 70) ∧ Below w.heap.size w w'
theorem ex_call (b1 b2 : Nat) (w : World) (h1 : IntsS w (some ⟨b1, 0, none⟩) [600]) (h2 : SgnS w (some ⟨b2, 0, none⟩) [exS]) : Calls Tryz.prog 18 #[.agg #[.int .i64 1000, .slice (some ⟨b1, 0, none⟩) 1 1], .slice (some ⟨b2, 0, none⟩) 1 1, .int .i64 3, .int .i64 1, .int .i64 1] w (ExE w) := by
  refine (Held_good 1000 (some ⟨b1, 0, none⟩) [600] 1 (some ⟨b2, 0, none⟩) [exS] 1 3 1 1 ex_lst (by decide) (by decide) (by decide) w h1 h2).mono ?_
  rintro e w' ⟨row, b, c, hRL, rfl, hown, hb⟩
  rw [ex_held row hRL] at hown ⊢
  rcases hown.2 with ⟨h1, h2⟩ | ⟨g2, c2, cur, h1, _⟩
  · cases h2
  · obtain ⟨rfl, rfl⟩ : b = some ⟨g2, 0, none⟩ ∧ c = c2 := by simpa using h1
    exact ⟨g2, c, rfl, (World.ownsRow.cellAt hown 0 (by decide)).trans rfl, (World.ownsRow.cellAt hown 1 (by decide)).trans rfl, (World.ownsRow.cellAt hown 2 (by decide)).trans rfl, hb⟩
set_option maxRecDepth 100000 in
set_option maxHeartbeats 1000000 in
theorem first_any (w : World) : Calls Tryz.prog 8 #[] w fun e w' => e = .returned (.bool true) ∧ Below w.heap.size w w' := by
  go_enter Tryz.func8, Tryz.ntmps8
  go_wp2_with fail
  obtain ⟨wB, hwB⟩ : ∃ wB, ((w.alloc (.cells #[.int .i64 600] 3)).alloc (.cells #[.int .i64 1000, .slice (some ⟨w.heap.size, 0, none⟩) 1 1] 24)).alloc (.cells #[.int .i64 1, .int .i64 1, .int .i64 70, .int .i64 200, .int .i64 1, .int .i64 1, .int .i64 0, .int .i64 9, .slice none 0 0] 69) = wB := ⟨_, rfl⟩
  have hb : Below w.heap.size w wB := by rw [← hwB]; exact (((Below.refl _ _).alloc (Nat.le_refl _) _).alloc (by simp) _).alloc (by simp; omega) _
  have HI : Hid (IntsS wB (some ⟨w.heap.size, 0, none⟩) [600]) := Lib.hid (ex_ints (by rw [← hwB]; simp [go_sem]))
  have HS : Hid (SgnS wB (some ⟨w.heap.size + 1 + 1, 0, none⟩) [exS]) := Lib.hid (ex_sgn (by rw [← hwB]; have := heap_alloc_new ((w.alloc (.cells #[.int .i64 600] 3)).alloc (.cells #[.int .i64 1000, .slice (some ⟨w.heap.size, 0, none⟩) 1 1] 24)) (.cells #[.int .i64 1, .int .i64 1, .int .i64 70, .int .i64 200, .int .i64 1, .int .i64 1, .int .i64 0, .int .i64 9, .slice none 0 0] 69); simpa using this))
  rw [hwB]
  clear hwB
  refine (ex_call _ _ _ HI.out HS.out).mono ?_
  rintro e w1 ⟨g, c, rfl, c0, c1, c2, hb1⟩
  have hb := hb.trans (hb1.mono hb.size)
  clear hb1 HI HS
  go_wp2_with fail
  go_ret
  exact ⟨rfl, hb⟩
end Go.Proofs.YtlpdjinhkmgbgaaGreatDoor

namespace Go.Proofs.YtlpdjinhkmgbgaaGreatDoor
set_option linter.unusedVariables false
set_option linter.unusedSimpArgs false
open Go.RowKit

/-- Heavy says whether an ask is too large. -/
def HvyE (L : Int) (js : List Int) (l : List Sgn) (q : List Edc) (w : World) (e : Ending) (w' : World) : Prop :=
  ∃ b : Bool, (b = false → js.length ≤ 60 ∧ l.length ≤ 120 ∧ q.length ≤ 60 ∧ (lineB L js = true → L ≤ 500)) ∧ e = .returned (.bool b) ∧ Below w.heap.size w w'
set_option maxRecDepth 100000 in
set_option maxHeartbeats 2000000 in
theorem Heavy_any (L : Int) (a : Option Addr) (js : List Int) (ca : Nat) (aa : Option Addr) (l : List Sgn) (cl : Nat) (ae : Option Addr) (q : List Edc) (cq : Nat) (q0 q1 q2 q3 : Int) (w : World) (hI : IntsS w a js) (hA : SgnS w aa l) (hE : EdS w ae q) : Calls Tryz.prog 7 #[.agg #[.int .i64 L, .slice a js.length ca, .slice aa l.length cl, .slice ae q.length cq, .int .i64 q0, .int .i64 q1, .int .i64 q2, .int .i64 q3]] w (HvyE L js l q w) := by
  have HV := Lib.hid (fun W (hW : Below w.heap.size w W) => refValidLine_r L a js ca W (hI.below hW))
  obtain ⟨-, blk, off, ad, cp, hadr, hc⟩ := hA
  have HC : Hid (∀ i, i < l.length → w.cell? ⟨blk, off + i * 9 + 8, none⟩ = some (.slice (ad i) (gs l i).cv.length (cp i))) := Lib.hid fun i hi => (hc i hi).2.1
  have HL : Hid (0 < l.length → aa = some ⟨blk, off, none⟩) := Lib.hid fun h => hadr (List.ne_nil_of_length_pos h)
  have HCV : Hid (∀ i, i < l.length → (gs l i).cv.length ≤ 9223372036854775807) := Lib.hid fun i hi => (hc i hi).2.2.1
  have hq := hE.1
  have hj := hI.1
  clear hI hE hadr hc
  by_cases h1 : 60 < js.length
  · have h1i : (60 : Int) < (js.length : Int) := by omega
    clear HV HC HL
    go_enter Tryz.func7, Tryz.ntmps7
    go_wp2_with fail
    obtain ⟨wB, hwB⟩ : ∃ wB, w.alloc (.cells #[.int .i64 L, .slice a js.length ca, .slice aa l.length cl, .slice ae q.length cq, .int .i64 q0, .int .i64 q1, .int .i64 q2, .int .i64 q3] 28) = wB := ⟨_, rfl⟩
    have hb : Below w.heap.size w wB := by rw [← hwB]; exact (Below.refl _ _).alloc (Nat.le_refl _) _
    have p0 : wB.cell? ⟨w.heap.size, 0, none⟩ = some (.int .i64 L) := by rw [← hwB]; simp [go_sem]
    have p1 : wB.cell? ⟨w.heap.size, 1, none⟩ = some (.slice a js.length ca) := by rw [← hwB]; simp [go_sem]
    have p2 : wB.cell? ⟨w.heap.size, 2, none⟩ = some (.slice aa l.length cl) := by rw [← hwB]; simp [go_sem]
    have p3 : wB.cell? ⟨w.heap.size, 3, none⟩ = some (.slice ae q.length cq) := by rw [← hwB]; simp [go_sem]
    have p4 : wB.cell? ⟨w.heap.size, 4, none⟩ = some (.int .i64 q0) := by rw [← hwB]; simp [go_sem]
    have p5 : wB.cell? ⟨w.heap.size, 5, none⟩ = some (.int .i64 q1) := by rw [← hwB]; simp [go_sem]
    have p6 : wB.cell? ⟨w.heap.size, 6, none⟩ = some (.int .i64 q2) := by rw [← hwB]; simp [go_sem]
    have p7 : wB.cell? ⟨w.heap.size, 7, none⟩ = some (.int .i64 q3) := by rw [← hwB]; simp [go_sem]
    rw [hwB]
    clear hwB
    go_wp2_with fail
    go_ret
    exact ⟨true, (fun h => by cases h), rfl, hb⟩
  have h1i : ¬ (60 : Int) < (js.length : Int) := by omega
  by_cases h2 : 120 < l.length
  · have h2i : (120 : Int) < (l.length : Int) := by omega
    clear HV HC HL
    go_enter Tryz.func7, Tryz.ntmps7
    go_wp2_with fail
    obtain ⟨wB, hwB⟩ : ∃ wB, w.alloc (.cells #[.int .i64 L, .slice a js.length ca, .slice aa l.length cl, .slice ae q.length cq, .int .i64 q0, .int .i64 q1, .int .i64 q2, .int .i64 q3] 28) = wB := ⟨_, rfl⟩
    have hb : Below w.heap.size w wB := by rw [← hwB]; exact (Below.refl _ _).alloc (Nat.le_refl _) _
    have p0 : wB.cell? ⟨w.heap.size, 0, none⟩ = some (.int .i64 L) := by rw [← hwB]; simp [go_sem]
    have p1 : wB.cell? ⟨w.heap.size, 1, none⟩ = some (.slice a js.length ca) := by rw [← hwB]; simp [go_sem]
    have p2 : wB.cell? ⟨w.heap.size, 2, none⟩ = some (.slice aa l.length cl) := by rw [← hwB]; simp [go_sem]
    have p3 : wB.cell? ⟨w.heap.size, 3, none⟩ = some (.slice ae q.length cq) := by rw [← hwB]; simp [go_sem]
    have p4 : wB.cell? ⟨w.heap.size, 4, none⟩ = some (.int .i64 q0) := by rw [← hwB]; simp [go_sem]
    have p5 : wB.cell? ⟨w.heap.size, 5, none⟩ = some (.int .i64 q1) := by rw [← hwB]; simp [go_sem]
    have p6 : wB.cell? ⟨w.heap.size, 6, none⟩ = some (.int .i64 q2) := by rw [← hwB]; simp [go_sem]
    have p7 : wB.cell? ⟨w.heap.size, 7, none⟩ = some (.int .i64 q3) := by rw [← hwB]; simp [go_sem]
    rw [hwB]
    clear hwB
    go_wp2_with fail
    go_ret
    exact ⟨true, (fun h => by cases h), rfl, hb⟩
  have h2i : ¬ (120 : Int) < (l.length : Int) := by omega
  by_cases h3 : 60 < q.length
  · have h3i : (60 : Int) < (q.length : Int) := by omega
    clear HV HC HL
    go_enter Tryz.func7, Tryz.ntmps7
    go_wp2_with fail
    obtain ⟨wB, hwB⟩ : ∃ wB, w.alloc (.cells #[.int .i64 L, .slice a js.length ca, .slice aa l.length cl, .slice ae q.length cq, .int .i64 q0, .int .i64 q1, .int .i64 q2, .int .i64 q3] 28) = wB := ⟨_, rfl⟩
    have hb : Below w.heap.size w wB := by rw [← hwB]; exact (Below.refl _ _).alloc (Nat.le_refl _) _
    have p0 : wB.cell? ⟨w.heap.size, 0, none⟩ = some (.int .i64 L) := by rw [← hwB]; simp [go_sem]
    have p1 : wB.cell? ⟨w.heap.size, 1, none⟩ = some (.slice a js.length ca) := by rw [← hwB]; simp [go_sem]
    have p2 : wB.cell? ⟨w.heap.size, 2, none⟩ = some (.slice aa l.length cl) := by rw [← hwB]; simp [go_sem]
    have p3 : wB.cell? ⟨w.heap.size, 3, none⟩ = some (.slice ae q.length cq) := by rw [← hwB]; simp [go_sem]
    have p4 : wB.cell? ⟨w.heap.size, 4, none⟩ = some (.int .i64 q0) := by rw [← hwB]; simp [go_sem]
    have p5 : wB.cell? ⟨w.heap.size, 5, none⟩ = some (.int .i64 q1) := by rw [← hwB]; simp [go_sem]
    have p6 : wB.cell? ⟨w.heap.size, 6, none⟩ = some (.int .i64 q2) := by rw [← hwB]; simp [go_sem]
    have p7 : wB.cell? ⟨w.heap.size, 7, none⟩ = some (.int .i64 q3) := by rw [← hwB]; simp [go_sem]
    rw [hwB]
    clear hwB
    go_wp2_with fail
    go_ret
    exact ⟨true, (fun h => by cases h), rfl, hb⟩
  have h3i : ¬ (60 : Int) < (q.length : Int) := by omega
  cases h4 : lineB L js with
  | true =>
    rw [h4] at HV
    by_cases h5 : 500 < L
    · clear HC HL h4
      go_enter Tryz.func7, Tryz.ntmps7
      go_wp2_with fail
      obtain ⟨wB, hwB⟩ : ∃ wB, w.alloc (.cells #[.int .i64 L, .slice a js.length ca, .slice aa l.length cl, .slice ae q.length cq, .int .i64 q0, .int .i64 q1, .int .i64 q2, .int .i64 q3] 28) = wB := ⟨_, rfl⟩
      have hb : Below w.heap.size w wB := by rw [← hwB]; exact (Below.refl _ _).alloc (Nat.le_refl _) _
      have p0 : wB.cell? ⟨w.heap.size, 0, none⟩ = some (.int .i64 L) := by rw [← hwB]; simp [go_sem]
      have p1 : wB.cell? ⟨w.heap.size, 1, none⟩ = some (.slice a js.length ca) := by rw [← hwB]; simp [go_sem]
      have p2 : wB.cell? ⟨w.heap.size, 2, none⟩ = some (.slice aa l.length cl) := by rw [← hwB]; simp [go_sem]
      have p3 : wB.cell? ⟨w.heap.size, 3, none⟩ = some (.slice ae q.length cq) := by rw [← hwB]; simp [go_sem]
      have p4 : wB.cell? ⟨w.heap.size, 4, none⟩ = some (.int .i64 q0) := by rw [← hwB]; simp [go_sem]
      have p5 : wB.cell? ⟨w.heap.size, 5, none⟩ = some (.int .i64 q1) := by rw [← hwB]; simp [go_sem]
      have p6 : wB.cell? ⟨w.heap.size, 6, none⟩ = some (.int .i64 q2) := by rw [← hwB]; simp [go_sem]
      have p7 : wB.cell? ⟨w.heap.size, 7, none⟩ = some (.int .i64 q3) := by rw [← hwB]; simp [go_sem]
      rw [hwB]
      clear hwB
      go_wp2_with (go_at_call 26; refine (HV.out _ hb).mono ?_; rintro e w1 ⟨rfl, hb1⟩; have hbw := hb.trans (hb1.mono hb.size); replace p0 := cell_below p0 hb1; replace p1 := cell_below p1 hb1; replace p2 := cell_below p2 hb1; replace p3 := cell_below p3 hb1; replace p4 := cell_below p4 hb1; replace p5 := cell_below p5 hb1; replace p6 := cell_below p6 hb1; replace p7 := cell_below p7 hb1)
      go_ret
      exact ⟨true, (fun h => by cases h), rfl, hbw⟩
    · have HB : Hid (lineB L js = true → L ≤ 500) := Lib.hid (fun _ => by omega)
      clear h4
      go_enter Tryz.func7, Tryz.ntmps7
      go_wp2_with fail
      obtain ⟨wB, hwB⟩ : ∃ wB, w.alloc (.cells #[.int .i64 L, .slice a js.length ca, .slice aa l.length cl, .slice ae q.length cq, .int .i64 q0, .int .i64 q1, .int .i64 q2, .int .i64 q3] 28) = wB := ⟨_, rfl⟩
      have hb : Below w.heap.size w wB := by rw [← hwB]; exact (Below.refl _ _).alloc (Nat.le_refl _) _
      have p0 : wB.cell? ⟨w.heap.size, 0, none⟩ = some (.int .i64 L) := by rw [← hwB]; simp [go_sem]
      have p1 : wB.cell? ⟨w.heap.size, 1, none⟩ = some (.slice a js.length ca) := by rw [← hwB]; simp [go_sem]
      have p2 : wB.cell? ⟨w.heap.size, 2, none⟩ = some (.slice aa l.length cl) := by rw [← hwB]; simp [go_sem]
      have p3 : wB.cell? ⟨w.heap.size, 3, none⟩ = some (.slice ae q.length cq) := by rw [← hwB]; simp [go_sem]
      have p4 : wB.cell? ⟨w.heap.size, 4, none⟩ = some (.int .i64 q0) := by rw [← hwB]; simp [go_sem]
      have p5 : wB.cell? ⟨w.heap.size, 5, none⟩ = some (.int .i64 q1) := by rw [← hwB]; simp [go_sem]
      have p6 : wB.cell? ⟨w.heap.size, 6, none⟩ = some (.int .i64 q2) := by rw [← hwB]; simp [go_sem]
      have p7 : wB.cell? ⟨w.heap.size, 7, none⟩ = some (.int .i64 q3) := by rw [← hwB]; simp [go_sem]
      rw [hwB]
      clear hwB
      go_wp2_with (go_at_call 26; refine (HV.out _ hb).mono ?_; rintro e w1 ⟨rfl, hb1⟩; have hbw := hb.trans (hb1.mono hb.size); replace p0 := cell_below p0 hb1; replace p1 := cell_below p1 hb1; replace p2 := cell_below p2 hb1; replace p3 := cell_below p3 hb1; replace p4 := cell_below p4 hb1; replace p5 := cell_below p5 hb1; replace p6 := cell_below p6 hb1; replace p7 := cell_below p7 hb1)
      go_loopw [3] (fun i wr => ∃ k : Nat, k ≤ l.length ∧ i = .int .i64 k ∧ Below w1.heap.size w1 wr) (fun i _ => l.length - (intOf i).toNat)
      case atStart => exact ⟨0, Nat.zero_le _, rfl, Below.refl _ _⟩
      case round =>
        obtain ⟨k, hk, rfl, hbr⟩ := hrel
        have p2 := cell_below p2 hbr
        by_cases hlt : k < l.length
        · obtain rfl := HL.out (by omega)
          have hbo := hbw.trans (hbr.mono hbw.size)
          have c8 := cell_below (HC.out k hlt) hbo
          have hcv := HCV.out k hlt
          have hkl : (k : Int) < (l.length : Int) := by omega
          have hmeas : l.length - (k + 1) < l.length - k := by omega
          clear HC HL HCV
          generalize ad k = adk at *
          generalize cp k = cpk at *
          generalize (gs l k).cv.length = m at *
          by_cases hm : 20 < m
          · have hmi : (20 : Int) < (m : Int) := by omega
            go_wp2_with fail
            go_ret
            exact ⟨true, (fun h => by cases h), rfl, hbo⟩
          · have hmi : ¬ (20 : Int) < (m : Int) := by omega
            go_wp2_with fail
            go_roundw
            case rel => exact ⟨k + 1, by omega, by go_num, hbr⟩
            case measure => first | (simp [intOf]; exact hmeas) | simpa [intOf] using hmeas
        · obtain rfl : k = l.length := by omega
          go_wp2_with fail
          go_ret
          exact ⟨false, fun _ => ⟨by omega, by omega, by omega, HB.out⟩, rfl, hbw.trans (hbr.mono hbw.size)⟩
  | false =>
    rw [h4] at HV
    have HB : Hid (lineB L js = true → L ≤ 500) := Lib.hid (fun h => by rw [h4] at h; cases h)
    clear h4
    go_enter Tryz.func7, Tryz.ntmps7
    go_wp2_with fail
    obtain ⟨wB, hwB⟩ : ∃ wB, w.alloc (.cells #[.int .i64 L, .slice a js.length ca, .slice aa l.length cl, .slice ae q.length cq, .int .i64 q0, .int .i64 q1, .int .i64 q2, .int .i64 q3] 28) = wB := ⟨_, rfl⟩
    have hb : Below w.heap.size w wB := by rw [← hwB]; exact (Below.refl _ _).alloc (Nat.le_refl _) _
    have p0 : wB.cell? ⟨w.heap.size, 0, none⟩ = some (.int .i64 L) := by rw [← hwB]; simp [go_sem]
    have p1 : wB.cell? ⟨w.heap.size, 1, none⟩ = some (.slice a js.length ca) := by rw [← hwB]; simp [go_sem]
    have p2 : wB.cell? ⟨w.heap.size, 2, none⟩ = some (.slice aa l.length cl) := by rw [← hwB]; simp [go_sem]
    have p3 : wB.cell? ⟨w.heap.size, 3, none⟩ = some (.slice ae q.length cq) := by rw [← hwB]; simp [go_sem]
    have p4 : wB.cell? ⟨w.heap.size, 4, none⟩ = some (.int .i64 q0) := by rw [← hwB]; simp [go_sem]
    have p5 : wB.cell? ⟨w.heap.size, 5, none⟩ = some (.int .i64 q1) := by rw [← hwB]; simp [go_sem]
    have p6 : wB.cell? ⟨w.heap.size, 6, none⟩ = some (.int .i64 q2) := by rw [← hwB]; simp [go_sem]
    have p7 : wB.cell? ⟨w.heap.size, 7, none⟩ = some (.int .i64 q3) := by rw [← hwB]; simp [go_sem]
    rw [hwB]
    clear hwB
    go_wp2_with (go_at_call 26; refine (HV.out _ hb).mono ?_; rintro e w1 ⟨rfl, hb1⟩; have hbw := hb.trans (hb1.mono hb.size); replace p0 := cell_below p0 hb1; replace p1 := cell_below p1 hb1; replace p2 := cell_below p2 hb1; replace p3 := cell_below p3 hb1; replace p4 := cell_below p4 hb1; replace p5 := cell_below p5 hb1; replace p6 := cell_below p6 hb1; replace p7 := cell_below p7 hb1)
    go_loopw [3] (fun i wr => ∃ k : Nat, k ≤ l.length ∧ i = .int .i64 k ∧ Below w1.heap.size w1 wr) (fun i _ => l.length - (intOf i).toNat)
    case atStart => exact ⟨0, Nat.zero_le _, rfl, Below.refl _ _⟩
    case round =>
      obtain ⟨k, hk, rfl, hbr⟩ := hrel
      have p2 := cell_below p2 hbr
      by_cases hlt : k < l.length
      · obtain rfl := HL.out (by omega)
        have hbo := hbw.trans (hbr.mono hbw.size)
        have c8 := cell_below (HC.out k hlt) hbo
        have hcv := HCV.out k hlt
        have hkl : (k : Int) < (l.length : Int) := by omega
        have hmeas : l.length - (k + 1) < l.length - k := by omega
        clear HC HL HCV
        generalize ad k = adk at *
        generalize cp k = cpk at *
        generalize (gs l k).cv.length = m at *
        by_cases hm : 20 < m
        · have hmi : (20 : Int) < (m : Int) := by omega
          go_wp2_with fail
          go_ret
          exact ⟨true, (fun h => by cases h), rfl, hbo⟩
        · have hmi : ¬ (20 : Int) < (m : Int) := by omega
          go_wp2_with fail
          go_roundw
          case rel => exact ⟨k + 1, by omega, by go_num, hbr⟩
          case measure => first | (simp [intOf]; exact hmeas) | simpa [intOf] using hmeas
      · obtain rfl : k = l.length := by omega
        go_wp2_with fail
        go_ret
        exact ⟨false, fun _ => ⟨by omega, by omega, by omega, HB.out⟩, rfl, hbw.trans (hbr.mono hbw.size)⟩
end Go.Proofs.YtlpdjinhkmgbgaaGreatDoor

namespace Go.Proofs.YtlpdjinhkmgbgaaGreatDoor
set_option linter.unusedVariables false
set_option linter.unusedSimpArgs false
open Go.RowKit

set_option maxRecDepth 100000 in
set_option maxHeartbeats 1000000 in
theorem topic_r (n : Int) (w : World) : Calls Tryz.prog 44 #[.int .i64 n] w fun e w' => e = .returned (.bool (topB n)) ∧ w = w' := by
  by_cases h1 : n = 1
  · subst h1
    go_enter Tryz.func44, Tryz.ntmps44
    go_wp2_with fail
    go_ret
    exact ⟨rfl, rfl⟩
  · have d1 : (n == 1) = false := beq_false_of_ne h1
    have hr : Hid (topB n = (n == 2)) := Lib.hid (by unfold topB; rw [d1, Bool.false_or])
    clear h1
    go_enter Tryz.func44, Tryz.ntmps44
    go_wp2_with fail
    go_ret
    exact ⟨by rw [hr.out] <;> rfl, rfl⟩
end Go.Proofs.YtlpdjinhkmgbgaaGreatDoor

namespace Go.Proofs.YtlpdjinhkmgbgaaGreatDoor
set_option linter.unusedVariables false
set_option linter.unusedSimpArgs false
open Go.RowKit

set_option maxRecDepth 100000 in
set_option maxHeartbeats 1000000 in
theorem Compare_bad (L : Int) (a : Option Addr) (js : List Int) (ca : Nat) (aa : Option Addr) (l : List Sgn) (cl : Nat) (ae : Option Addr) (q : List Edc) (cq : Nat) (h : Int) (hV : lstE L js l q ≠ 0) (w : World) (hI : IntsS w a js) (hA : SgnS w aa l) (hE : EdS w ae q) :
    Calls Tryz.prog 9 #[.agg #[.int .i64 L, .slice a js.length ca], .slice aa l.length cl, .slice ae q.length cq, .int .i64 h] w fun e w' => e = .returned (.tuple #[.slice none 0 0, .int .i64 (lstE L js l q)]) ∧ Below w.heap.size w w' := by
  have H1 := Lib.hid (fun W (hW : Below w.heap.size w W) => listsError_r L a js ca aa l cl ae q cq W (hI.below hW) (hA.below hW) (hE.below hW))
  clear hI hA hE
  generalize lstE L js l q = E at *
  have d1 : (E != 0) = true := by simp [hV]
  clear hV
  go_enter Tryz.func9, Tryz.ntmps9
  go_wp2_with fail
  obtain ⟨wB, hwB⟩ : ∃ wB, w.alloc (.cells #[.int .i64 L, .slice a js.length ca] 24) = wB := ⟨_, rfl⟩
  have hb : Below w.heap.size w wB := by rw [← hwB]; exact (Below.refl _ _).alloc (Nat.le_refl _) _
  have l0 : wB.cell? ⟨w.heap.size, 0, none⟩ = some (.int .i64 L) := by rw [← hwB]; simp [go_sem]
  have l1 : wB.cell? ⟨w.heap.size, 1, none⟩ = some (.slice a js.length ca) := by rw [← hwB]; simp [go_sem]
  rw [hwB]
  clear hwB
  go_wp2_with (go_at_call 27; refine (H1.out _ hb).mono ?_; rintro e w1 ⟨rfl, hb1⟩)
  go_ret2
  exact ⟨rfl, hb.trans (hb1.mono hb.size)⟩
set_option maxRecDepth 100000 in
set_option maxHeartbeats 1000000 in
theorem Compare_arg (L : Int) (a : Option Addr) (js : List Int) (ca : Nat) (aa : Option Addr) (l : List Sgn) (cl : Nat) (ae : Option Addr) (q : List Edc) (cq : Nat) (h : Int) (hV : lstE L js l q = 0) (hx : ((btw h 0 10000000)) = false) (w : World) (hI : IntsS w a js) (hA : SgnS w aa l) (hE : EdS w ae q) :
    Calls Tryz.prog 9 #[.agg #[.int .i64 L, .slice a js.length ca], .slice aa l.length cl, .slice ae q.length cq, .int .i64 h] w fun e w' => e = .returned (.tuple #[.slice none 0 0, .int .i64 2]) ∧ Below w.heap.size w w' := by
  have hLb := (lst_good hV).1
  have H1 := Lib.hid (fun W (hW : Below w.heap.size w W) => by
    have := listsError_r L a js ca aa l cl ae q cq W (hI.below hW) (hA.below hW) (hE.below hW)
    rw [hV] at this
    exact this)
  have K0 := Lib.hid (fun W => isHour_r h W)
  clear hI hA hE hV hLb
  generalize btw h 0 10000000 = b0 at *
  cases b0 with
  | false =>
    clear hx
    go_enter Tryz.func9, Tryz.ntmps9
    go_wp2_with fail
    obtain ⟨wB, hwB⟩ : ∃ wB, w.alloc (.cells #[.int .i64 L, .slice a js.length ca] 24) = wB := ⟨_, rfl⟩
    have hb : Below w.heap.size w wB := by rw [← hwB]; exact (Below.refl _ _).alloc (Nat.le_refl _) _
    have l0 : wB.cell? ⟨w.heap.size, 0, none⟩ = some (.int .i64 L) := by rw [← hwB]; simp [go_sem]
    have l1 : wB.cell? ⟨w.heap.size, 1, none⟩ = some (.slice a js.length ca) := by rw [← hwB]; simp [go_sem]
    rw [hwB]
    clear hwB
    go_wp2_with (first | (go_at_call 27; refine (H1.out _ hb).mono ?_; rintro e w1 ⟨rfl, hb1⟩; replace hb := hb.trans (hb1.mono hb.size); replace l0 := cell_below l0 hb1; replace l1 := cell_below l1 hb1; clear hb1) | (go_at_call 28; refine (K0.out _).mono ?_; rintro e w2 ⟨rfl, rfl⟩))
    go_ret2
    exact ⟨rfl, hb⟩
  | true =>
    cases hx
set_option maxRecDepth 100000 in
set_option maxHeartbeats 1000000 in
theorem sameGaps_r (a b : Option Addr) (l : List (Gp6)) (ca cb : Nat) (w : World) (hA : GapS w a l) (hB : GapS w b l) :
    Calls Tryz.prog 12 #[.slice a l.length ca, .slice b l.length cb] w fun e w' => e = .returned (.bool true) ∧ Below w.heap.size w w' := by
  obtain ⟨hlen, blk, off, hadr, hc⟩ := hA
  obtain ⟨-, blk2, off2, hadr2, hc2⟩ := hB
  have HC := Lib.hid hc
  have HC2 := Lib.hid hc2
  have HL : Hid (0 < l.length → a = some ⟨blk, off, none⟩) := Lib.hid fun h => hadr (List.ne_nil_of_length_pos h)
  have HL2 : Hid (0 < l.length → b = some ⟨blk2, off2, none⟩) := Lib.hid fun h => hadr2 (List.ne_nil_of_length_pos h)
  clear hc hc2 hadr hadr2
  have n4 : ((l.length : Int) != l.length) = false := by simp
  go_enter Tryz.func12, Tryz.ntmps12
  go_wp2_with fail
  go_loopw [5] (fun i wr => ∃ k : Nat, k ≤ l.length ∧ i = .int .i64 k ∧ Below w.heap.size w wr) (fun i _ => l.length - (intOf i).toNat)
  case atStart => exact ⟨0, Nat.zero_le _, rfl, Below.refl _ _⟩
  case round =>
    obtain ⟨k, hk, rfl, hb⟩ := hrel
    by_cases hlt : k < l.length
    · obtain rfl := HL.out (by omega)
      obtain rfl := HL2.out (by omega)
      obtain ⟨x0, x1, x2, x3, x4, x5⟩ := HC.out k hlt
      have x0 := cell_below x0 hb
      have x1 := cell_below x1 hb
      have x2 := cell_below x2 hb
      have x3 := cell_below x3 hb
      have x4 := cell_below x4 hb
      have x5 := cell_below x5 hb
      obtain ⟨y0, y1, y2, y3, y4, y5⟩ := HC2.out k hlt
      have y0 := cell_below y0 hb
      have y1 := cell_below y1 hb
      have y2 := cell_below y2 hb
      have y3 := cell_below y3 hb
      have y4 := cell_below y4 hb
      have y5 := cell_below y5 hb
      clear HC HC2 HL HL2
      generalize (gg6 l k).1 = z0 at *
      generalize (gg6 l k).2.1 = z1 at *
      generalize (gg6 l k).2.2.1 = z2 at *
      generalize (gg6 l k).2.2.2.1 = z3 at *
      generalize (gg6 l k).2.2.2.2.1 = z4 at *
      generalize (gg6 l k).2.2.2.2.2 = z5 at *
      have e0 : (z0 != z0) = false := by simp
      have e0b : (z0 == z0) = true := by simp
      have e1 : (z1 != z1) = false := by simp
      have e1b : (z1 == z1) = true := by simp
      have e2 : (z2 != z2) = false := by simp
      have e2b : (z2 == z2) = true := by simp
      have e3 : (z3 != z3) = false := by simp
      have e3b : (z3 == z3) = true := by simp
      have e4 : (z4 != z4) = false := by simp
      have e4b : (z4 == z4) = true := by simp
      have e5 : (z5 != z5) = false := by simp
      have e5b : (z5 == z5) = true := by simp
      have g0 : (0 : Int) ≤ (k : Int) := by omega
      have g1 : (k : Int) < l.length := by omega
      go_wp2_with fail
      go_quiet (fail)
      go_wp2_with fail
      go_roundw
      case rel => exact ⟨k + 1, by omega, by go_num, below_drewN hb _⟩
      case measure => simp [intOf]; omega
    · go_wp2_with fail
      go_ret
      exact ⟨rfl, hb⟩
theorem Compare_any (L : Int) (a : Option Addr) (js : List Int) (ca : Nat) (aa : Option Addr) (l : List Sgn) (cl : Nat) (ae : Option Addr) (q : List Edc) (cq : Nat) (h : Int) (w : World) (hG : WayTab w) (hI : IntsS w a js) (hA : SgnS w aa l) (hE : EdS w ae q) :
    Calls Tryz.prog 9 #[.agg #[.int .i64 L, .slice a js.length ca], .slice aa l.length cl, .slice ae q.length cq, .int .i64 h] w (GapA (if whyK (lineB L js) true (sgnsB L js l) true (edcsB L js q) (btw h 0 10000000) = 0 then gapK L js l q h 4 else []) (whyK (lineB L js) true (sgnsB L js l) true (edcsB L js q) (btw h 0 10000000)) w) := by
  obtain ⟨k1, k2⟩ := lst_se L js l q (btw h 0 10000000)
  by_cases hV : lstE L js l q = 0
  · rw [k2 hV]
    cases hx : btw h 0 10000000 with
    | false =>
      rw [if_pos rfl, if_neg (by decide)]
      refine (Compare_arg L a js ca aa l cl ae q cq h hV hx w hI hA hE).mono ?_
      rintro e w' ⟨rfl, hb⟩
      exact ⟨none, 0, rfl, gap_nil _, hb⟩
    | true =>
      rw [if_neg (show ¬ (true = false) by decide), if_pos rfl]
      exact Compare_good L a js ca aa l cl ae q cq h hV hx w hG hI hA hE
  · rw [k1 hV, if_neg hV]
    refine (Compare_bad L a js ca aa l cl ae q cq h hV w hI hA hE).mono ?_
    rintro e w' ⟨rfl, hb⟩
    exact ⟨none, 0, rfl, gap_nil _, hb⟩
end Go.Proofs.YtlpdjinhkmgbgaaGreatDoor

namespace Go.Proofs.YtlpdjinhkmgbgaaGreatDoor
set_option linter.unusedVariables false
set_option linter.unusedSimpArgs false
open Go.RowKit

theorem clI_app' (a b : List Int) : clI (a ++ b) = clI a ++ clI b := by unfold clI; simp
/-- The values of a function on n metres. -/
def valK (f : Int → Int) (n : Nat) : List Int := (List.range n).map fun i => f (i : Nat)
theorem valK_succ (f : Int → Int) (n : Nat) : clI (valK f (n + 1)) = clI (valK f n) ++ [.int .i64 (f n)] := by
  unfold valK; rw [List.range_succ, List.map_append, clI_app']; rfl
theorem valK_len (f : Int → Int) (n : Nat) : (valK f n).length = n := by unfold valK; simp
theorem valK_get (f : Int → Int) {n i : Nat} (h : i < n) : gi (valK f n) i = f i := by
  unfold gi valK; rw [List.getD_eq_getElem?_getD, List.getElem?_map, List.getElem?_range h]; rfl
theorem hS_bd {L : Int} {js : List Int} {dir t k : Int} : ∀ (r : List Sgn) (v : Int), (∀ s, s ∈ r → 0 ≤ s.v ∧ s.v ≤ 100000) → 0 ≤ v ∧ v ≤ 100000 → 0 ≤ hS L js dir t k r v ∧ hS L js dir t k r v ≤ 100000
  | [], v, _, hv => hv
  | s :: r, v, h, hv => by
    rw [hS]
    split
    · exact hv
    · refine hS_bd r _ (fun x hx => h x (by simp [hx])) ?_
      have := h s (by simp)
      unfold stpS strK
      split
      · omega
      · split
        · split
          · omega
          · split <;> omega
        · exact hv
theorem hldV_bd {L : Int} {js : List Int} {l : List Sgn} {q : List Edc} (hV : lstE L js l q = 0) (h dir t m : Int) : 0 ≤ hldV L js l h dir t m ∧ hldV L js l h dir t m ≤ 100000 := by
  refine hS_bd _ 0 (fun s hs => ?_) (by omega)
  obtain ⟨j, hj, e⟩ := insR_mem hs
  rw [← e]
  exact ((lst_good hV).2.2.1 j hj).2
theorem mustK_bd {q : List Edc} {h t d m : Int} (hb : ∀ j, j < q.length → 0 ≤ (ge q j).v ∧ (ge q j).v ≤ 100000) : ∀ n, n ≤ q.length → 0 ≤ (mustK q h t d m n).2 ∧ (mustK q h t d m n).2 ≤ 100000
  | 0, _ => by simp [mustK]
  | n + 1, hn => by
    rw [mustK]
    split
    · exact hb n (by omega)
    · exact mustK_bd hb n (by omega)
theorem edc_v {L : Int} {x : Edc} (h : edcB L x = true) : 0 ≤ x.v ∧ x.v ≤ 100000 := by
  unfold edcB edV at h
  simp only [Bool.and_eq_true, Bool.or_eq_true, decide_eq_true_eq, beq_iff_eq] at h
  rcases h.1.1.1.1.1 with h1 | h1
  · have := btw_ge h1.2; omega
  · omega
theorem mustV_bd {L : Int} {js : List Int} {l : List Sgn} {q : List Edc} (hV : lstE L js l q = 0) (h t d m : Int) : 0 ≤ mustV q h t d m ∧ mustV q h t d m ≤ 100000 :=
  mustK_bd (fun j hj => edc_v (edc_in (lst_edcs hV) j hj)) q.length (Nat.le_refl _)
/-- Values come back. -/
def ValA (f : Int → Int) (n : Nat) (w : World) (e : Ending) (w' : World) : Prop := ∃ b c, e = .returned (.slice b n c) ∧ IntsS w' b (valK f n) ∧ Below w.heap.size w w'
/-- Values come back, in a block of their own. -/
def ValO (f : Int → Int) (n : Nat) (w : World) (e : Ending) (w' : World) : Prop := ∃ b c, e = .returned (.slice b n c) ∧ IntsS w' b (valK f n) ∧ (∀ x, b = some x → w.heap.size ≤ x.block) ∧ Below w.heap.size w w'
set_option maxRecDepth 100000 in
set_option maxHeartbeats 2000000 in
theorem refAllO_r (N : Nat) (a : Option Addr) (js : List Int) (ca : Nat) (aa : Option Addr) (l : List Sgn) (cl : Nat) (h dir tp : Int) (hV : lstE N js l [] = 0) (h2 : topB tp = true) (w : World) (hI : IntsS w a js) (hA : SgnS w aa l) :
    Calls Tryz.prog 36 #[.agg #[.int .i64 N, .slice a js.length ca], .slice aa l.length cl, .int .i64 h, .int .i64 dir, .int .i64 tp] w (ValO (fun m => hldV N js l h dir tp m) N w) := by
  obtain ⟨hLb, hJ, hC, hn⟩ := lst_good hV
  obtain ⟨g1, g2, g3, g4⟩ := ins_good hV dir h
  have HR := Lib.hid (fun W (hW : Below w.heap.size w W) => show Calls Tryz.prog 80 #[.agg #[.int .i64 N, .slice a js.length ca], .slice aa l.length cl, .int .i64 h, .int .i64 dir] W (RrR (insR N dir h l l.length) W) from refRow_r N a js.length ca aa l cl h dir hLb.1 hLb.2 (fun j hj => (hC j hj).1) hn W (hA.below hW))
  have HBg0 := Lib.hid (fun m W (hm : -1000000 ≤ m ∧ m ≤ 1000000) => refBeginning_r N a js.length ca dir m hLb.1 hLb.2 hm.1 hm.2 W)
  have HHo0 := Lib.hid (fun b c k W (hk : -1000000 ≤ k ∧ k ≤ 1000000) (hW : Below w.heap.size w W) hS9 => refHolding_r N a js ca b (insR N dir h l l.length) c dir tp k hLb.1 hLb.2 hJ g3 g1 g2 g4 (top_or h2) hk.1 hk.2 W (hI.below hW) hS9)
  have HVal : Hid (∀ m, hS N js dir tp (begK N dir m) (insR N dir h l l.length) 0 = hldV N js l h dir tp m) := Lib.hid fun m => rfl
  have HBk : Hid (∀ m : Int, 0 ≤ m → m < N → 0 ≤ begK N dir m ∧ begK N dir m < N) := Lib.hid fun m h1 h2 => beg_bd hLb.1 hLb.2 h1 h2
  have HI64 : Hid (∀ m, I64 (hldV N js l h dir tp m)) := Lib.hid fun m => by have := hldV_bd hV h dir tp m; unfold I64; omega
  obtain ⟨n0, hi, hzz0, hz1, hz2⟩ := info_parts infoInt
  have hN : N ≤ 100000 := by have := hLb.2; omega
  clear hI hA hV h2 hJ hC hLb hn g1 g2 g3 g4
  obtain ⟨f, hf⟩ : ∃ f : Int → Int, (fun m => hldV N js l h dir tp m) = f := ⟨_, rfl⟩
  rw [hf]
  have HVal : Hid (∀ m, hS N js dir tp (begK N dir m) (insR N dir h l l.length) 0 = f m) := Lib.hid fun m => by rw [HVal.out, ← hf]
  have HI2 : Hid (∀ m, I64 (f m)) := Lib.hid fun m => by rw [← hf]; exact HI64.out m
  clear HI64
  clear hf
  generalize insR N dir h l l.length = R at *
  go_enter Tryz.func36, Tryz.ntmps36
  go_upto_region 1 with (fail)
  obtain ⟨wB, hwB⟩ : ∃ wB, w.alloc (.cells #[.int .i64 N, .slice a js.length ca] 24) = wB := ⟨_, rfl⟩
  have hb : Below w.heap.size w wB := by rw [← hwB]; exact (Below.refl _ _).alloc (Nat.le_refl _) _
  have l0 : wB.cell? ⟨w.heap.size, 0, none⟩ = some (.int .i64 N) := by rw [← hwB]; simp [go_sem]
  have l1 : wB.cell? ⟨w.heap.size, 1, none⟩ = some (.slice a js.length ca) := by rw [← hwB]; simp [go_sem]
  rw [hwB]
  clear hwB
  go_wp2_with (go_at_call 80; refine (HR.out _ hb).mono ?_; rintro e w2 ⟨b, c, rfl, hP, hb2⟩)
  have HP := Lib.hid hP
  have L0 := Lib.hid (cell_below l0 hb2)
  have L1 := Lib.hid (cell_below l1 hb2)
  have HB := Lib.hid (hb.trans (hb2.mono hb.size))
  clear hP hb2 hb l0 l1 HR
  go_loopw [12, 13] (fun v i9 wr => ∃ k : Nat, k ≤ N ∧ i9 = .int .i64 k ∧ (∃ a c, v = .slice a k c) ∧ Hid (wr.ownsRow w2.heap.size 3 1 v k (clI (valK f k))) ∧ Below w2.heap.size w2 wr) (fun _ i9 _ => N - (intOf i9).toNat)
  case atStart => exact ⟨0, Nat.zero_le _, rfl, ⟨none, 0, rfl⟩, Lib.hid ⟨rfl, .inl ⟨rfl, rfl⟩⟩, Below.refl _ _⟩
  case round =>
    obtain ⟨k, hk, rfl, ⟨av, cv, rfl⟩, HRow, hbr⟩ := hrel
    have l0 := cell_below L0.out hbr
    have l1 := cell_below L1.out hbr
    have hz0 := block_lt L0.out
    by_cases hlt : k < N
    · have hbk := HBk.out k (by omega) (by omega)
      have HBg := Lib.hid (fun W => HBg0.out k W (by omega))
      have HHo := Lib.hid (fun W (hW : Below w2.heap.size w2 W) => HHo0.out b c (begK N dir k) W (by omega) (HB.out.trans (hW.mono HB.out.size)) (HP.out.below hW))
      have hv := HVal.out k
      have HNk := Lib.hid (valK_succ f k)
      have hsr := hbr.size
      rw [hv] at HHo
      clear hv HBg0 HHo0 HVal HBk HI2
      generalize begK N dir k = bk at *
      obtain ⟨V, hVv⟩ : ∃ V, f k = V := ⟨_, rfl⟩
      rw [hVv] at HHo HNk
      clear hVv
      go_wp2_with fail
      refine wp_region_held_drew (S := fun w' => Below w2.heap.size wr w') (by kernel_rfl) ((Below.refl _ _).drew) (fun hHeld => ?_)
      refine takeU (i := 0) (some 25) (.slice av k cv) (by kernel_rfl) (by kernel_rfl) (by kernel_rfl) (by kernel_rfl) (by kernel_rfl) (fun _ => by kernel_rfl) (fun _ _ _ h => h) hHeld ?_
      refine wpAnyH_take (i := 1) (oi := { dst := some 26, op := Go.Op.load 24 (Go.Operand.tmp 5), type := 24, pos := "ref.go:206", after := #[], guard := none }) (v := .agg #[.int .i64 N, .slice a js.length ca]) rfl (by kernel_rfl) (by kernel_rfl) (by kernel_rfl) (fun _ _ _ h => h) (.inl ⟨by kernel_rfl, fun w9 h9 => by
        clear hHeld
        have d0 := (h9.cell (p := ⟨w.heap.size, 0, none⟩) hz0).trans l0
        have d1 := (h9.cell (p := ⟨w.heap.size, 1, none⟩) hz0).trans l1
        clear h9
        go_simp⟩) hHeld ?_
      refine takeU (i := 2) (some 27) (.slice b R.length c) (by kernel_rfl) (by kernel_rfl) (by kernel_rfl) (by kernel_rfl) (by kernel_rfl) (fun _ => by kernel_rfl) (fun _ _ _ h => h) hHeld ?_
      refine takeU (i := 3) (some 28) (.int .i64 dir) (by kernel_rfl) (by kernel_rfl) (by kernel_rfl) (by kernel_rfl) (by kernel_rfl) (fun _ => by kernel_rfl) (fun _ _ _ h => h) hHeld ?_
      refine takeU (i := 4) (some 29) (.int .i64 tp) (by kernel_rfl) (by kernel_rfl) (by kernel_rfl) (by kernel_rfl) (by kernel_rfl) (fun _ => by kernel_rfl) (fun _ _ _ h => h) hHeld ?_
      refine wpAnyH_take (i := 5) (oi := { dst := some 30, op := Go.Op.load 24 (Go.Operand.tmp 5), type := 24, pos := "ref.go:206", after := #[], guard := none }) (v := .agg #[.int .i64 N, .slice a js.length ca]) rfl (by kernel_rfl) (by kernel_rfl) (by kernel_rfl) (fun _ _ _ h => h) (.inl ⟨by kernel_rfl, fun w9 h9 => by
        clear hHeld
        have d0 := (h9.cell (p := ⟨w.heap.size, 0, none⟩) hz0).trans l0
        have d1 := (h9.cell (p := ⟨w.heap.size, 1, none⟩) hz0).trans l1
        clear h9
        go_simp⟩) hHeld ?_
      refine takeU (i := 6) (some 31) (.int .i64 dir) (by kernel_rfl) (by kernel_rfl) (by kernel_rfl) (by kernel_rfl) (by kernel_rfl) (fun _ => by kernel_rfl) (fun _ _ _ h => h) hHeld ?_
      refine takeU (i := 7) (some 32) (.int .i64 k) (by kernel_rfl) (by kernel_rfl) (by kernel_rfl) (by kernel_rfl) (by kernel_rfl) (fun _ => by kernel_rfl) (fun _ _ _ h => h) hHeld ?_
      try simp only [Act.put, List.setIfInBounds_toArray, List.set_cons_zero, List.set_cons_succ]
      refine wpAnyH_ready (rs := [8]) (by kernel_rfl) (by simp) ?_
      refine AllReadyH.cons (o := { dst := some 33, op := Go.Op.call { callee := Go.Callee.value (Go.Operand.func 41), args := #[Go.Operand.tmp 30, Go.Operand.tmp 31, Go.Operand.tmp 32], argTypes := #[24, 3, 3] }, type := 3, pos := "ref.go:206", after := #[{ on := 5, ground := Go.Ground.data }, { on := 6, ground := Go.Ground.data }, { on := 7, ground := Go.Ground.data }], guard := none }) rfl (fun K hK => ?_) AllReadyH.nil
      go_simp
      go_at_call 41
      refine (HBg.out _).mono ?_
      rintro e w89 ⟨rfl, hb89⟩
      have hP8 := ((Below.refl wr.heap.size wr).drew).trans (hb89.mono ((Below.refl wr.heap.size wr).drew).size)
      refine hK.out _ _ (hHeld.trans (hb89.mono (Nat.le_trans hsr hHeld.size))) (fun hHeld => ?_)
      clear hK K hb89
      try simp only [Act.put, List.setIfInBounds_toArray, List.set_cons_zero, List.set_cons_succ]
      try simp only [Act.put, List.setIfInBounds_toArray, List.set_cons_zero, List.set_cons_succ]
      refine wpAnyH_ready (rs := [9]) (by kernel_rfl) (by simp) ?_
      refine AllReadyH.cons (o := { dst := some 34, op := Go.Op.call { callee := Go.Callee.value (Go.Operand.func 81), args := #[Go.Operand.tmp 26, Go.Operand.tmp 27, Go.Operand.tmp 28, Go.Operand.tmp 29, Go.Operand.tmp 33], argTypes := #[24, 25, 3, 3, 3] }, type := 3, pos := "ref.go:206", after := #[{ on := 1, ground := Go.Ground.data }, { on := 2, ground := Go.Ground.data }, { on := 3, ground := Go.Ground.data }, { on := 4, ground := Go.Ground.data }, { on := 8, ground := Go.Ground.data }, { on := 8, ground := Go.Ground.chain }], guard := none }) rfl (fun K hK => ?_) AllReadyH.nil
      go_simp
      go_at_call 81
      refine (HHo.out _ (hbr.trans hHeld)).mono ?_
      rintro e w99 ⟨rfl, hb99⟩
      have hP9 := (hP8).trans (hb99.mono (hP8).size)
      refine hK.out _ _ (hHeld.trans (hb99.mono (Nat.le_trans hsr hHeld.size))) (fun hHeld => ?_)
      clear hK K hb99
      try simp only [Act.put, List.setIfInBounds_toArray, List.set_cons_zero, List.set_cons_succ]
      try simp only [Act.put, List.setIfInBounds_toArray, List.set_cons_zero, List.set_cons_succ]
      refine wpAnyH_ready (rs := [10]) (by kernel_rfl) (by simp) ?_
      refine AllReadyH.cons (o := { dst := some 35, op := Go.Op.buildSlice 22 1 #[(0, Go.Operand.tmp 34)], type := 22, pos := "ref.go:206", after := #[{ on := 9, ground := Go.Ground.data }], guard := none }) rfl (fun K hK => ?_) AllReadyH.nil
      have hH0 := hHeld
      go_simp
      refine hK.out _ _ (hHeld.alloc (Nat.le_trans hsr hHeld.size) _) (fun hHeld => ?_)
      clear hK K
      refine wpAnyH_ready (rs := [11]) (by kernel_rfl) (by simp) ?_
      refine AllReadyH.cons (o := { dst := some 36, op := Go.Op.call { callee := Go.Callee.builtin Go.Builtin.append, args := #[Go.Operand.tmp 25, Go.Operand.tmp 35], argTypes := #[22, 22] }, type := 22, pos := "ref.go:206", after := #[{ on := 0, ground := Go.Ground.data }, { on := 10, ground := Go.Ground.data }, { on := 9, ground := Go.Ground.chain }], guard := none }) rfl (fun K hK => ?_) AllReadyH.nil
      have hOW0 := Lib.hid (owns_belowI HRow.out ((hP9).alloc (hP9).size (.cells #[.int .i64 V] 3)))
      refine step_append_lies _ (by rfl) _ _ _ (by rfl) w2.heap.size 3 n0 _ 1 8 Tryz.underlying22 hi hzz0 hz1 hz2 rfl (by decide) (.slice av k cv) k _ (by rfl) hOW0.out ⟨w99.heap.size, 0, none⟩ 1 1 [.int .i64 V] (by rfl) (by rfl) (World.news_of_block (w := w99.alloc (.cells #[.int .i64 V] 3)) (B := w99.heap.size) (cs := #[.int .i64 V]) (t := 3) (fr := (0, 0)) (heap_alloc_new _ _)) (by simp [Value.oneCell']) (by decide) (by unfold maxLen; omega) (by omega) (by simp; have := hH0.size; omega) _ rfl ?_
      intro g6 c6 w6 hown6 hgrow6 hat6 hlt6
      refine hK.out _ _ (hHeld.grown hgrow6 (by simp; have := hH0.size; omega) (fun z hz => owns_blockI hOW0.out hz)) (fun hHeld => ?_)
      have HO6 := Lib.hid hown6
      clear hK K hgrow6 hat6 hlt6 hown6 hOW0 hH0
      try simp only [Act.put, List.setIfInBounds_toArray, List.set_cons_zero, List.set_cons_succ]
      refine takeU (i := 12) (some 12) (.slice (some ⟨g6, 0, none⟩) (k + 1) c6) (by kernel_rfl) (by kernel_rfl) (by kernel_rfl) (by kernel_rfl) (by kernel_rfl) (fun _ => by kernel_rfl) (fun _ _ _ h => h) hHeld ?_
      refine wpAnyH_done (by kernel_rfl) ?_ _
      try simp only [Act.put, List.setIfInBounds_toArray, List.set_cons_zero, List.set_cons_succ]
      go_wp2_with fail
      go_roundw
      case rel => exact ⟨k + 1, by omega, by go_num, ⟨_, c6, rfl⟩, Lib.hid (by rw [HNk.out]; exact HO6.out), hbr.trans hHeld⟩
      case measure => simp [intOf]; omega
    · obtain rfl : k = N := by omega
      have HEnd : Hid (ValO f k w (.returned (.slice av k cv)) wr) := Lib.hid ⟨av, cv, rfl, by
        have h1 := HRow.out
        have h2 : IntsS wr av (valK f k) := ints_own (by rw [valK_len]; exact h1) (by rw [valK_len]; omega) (fun j hj => by
          rw [valK_len] at hj
          show I64 (gi _ _)
          rw [valK_get f hj]; exact HI2.out _)
        exact h2, fun x hx => Nat.le_trans HB.out.size (own_lt HRow.out x hx).2.1, HB.out.trans (hbr.mono HB.out.size)⟩
      clear HRow HBg0 HHo0 HVal HBk HI2 HP
      go_wp2_with fail
      go_ret
      exact HEnd.out
set_option maxRecDepth 100000 in
set_option maxHeartbeats 2000000 in
theorem refMustsO_r (N : Nat) (a : Option Addr) (js : List Int) (ca : Nat) (ae : Option Addr) (q : List Edc) (cq : Nat) (h dir tp : Int) (hV : lstE N js [] q = 0) (w : World) (hE : EdS w ae q) :
    Calls Tryz.prog 37 #[.agg #[.int .i64 N, .slice a js.length ca], .slice ae q.length cq, .int .i64 h, .int .i64 dir, .int .i64 tp] w (ValO (fun m => mustV q h tp dir m) N w) := by
  have HM0 := Lib.hid (fun m W (hW : Below w.heap.size w W) => refMust_r ae q cq h tp dir m W (hE.below hW))
  have HI64 : Hid (∀ m, I64 (mustV q h tp dir m)) := Lib.hid fun m => by have := mustV_bd hV h tp dir m; unfold I64; omega
  obtain ⟨n0, hi, hzz0, hz1, hz2⟩ := info_parts infoInt
  have hN : N ≤ 100000 := by have := lst_line hV; omega
  clear hE hV
  obtain ⟨f, hf⟩ : ∃ f : Int → Int, (fun m => mustV q h tp dir m) = f := ⟨_, rfl⟩
  have HVal : Hid (∀ m, mustV q h tp dir m = f m) := Lib.hid fun m => by rw [← hf]
  have HI2 : Hid (∀ m, I64 (f m)) := Lib.hid fun m => by rw [← hf]; exact HI64.out m
  clear HI64
  rw [hf]
  clear hf
  go_enter Tryz.func37, Tryz.ntmps37
  go_wp2_with fail
  obtain ⟨w2, hwB⟩ : ∃ wB, w.alloc (.cells #[.int .i64 N, .slice a js.length ca] 24) = wB := ⟨_, rfl⟩
  have hb : Below w.heap.size w w2 := by rw [← hwB]; exact (Below.refl _ _).alloc (Nat.le_refl _) _
  have l0 : w2.cell? ⟨w.heap.size, 0, none⟩ = some (.int .i64 N) := by rw [← hwB]; simp [go_sem]
  rw [hwB]
  clear hwB
  have L0 := Lib.hid l0
  have HB := Lib.hid hb
  clear l0 hb
  go_wp2_with fail
  go_loopw [11, 12] (fun v i9 wr => ∃ k : Nat, k ≤ N ∧ i9 = .int .i64 k ∧ (∃ a c, v = .slice a k c) ∧ Hid (wr.ownsRow w2.heap.size 3 1 v k (clI (valK f k))) ∧ Below w2.heap.size w2 wr) (fun _ i9 _ => N - (intOf i9).toNat)
  case atStart => exact ⟨0, Nat.zero_le _, rfl, ⟨none, 0, rfl⟩, Lib.hid ⟨rfl, .inl ⟨rfl, rfl⟩⟩, Below.refl _ _⟩
  case round =>
    obtain ⟨k, hk, rfl, ⟨av, cv, rfl⟩, HRow, hbr⟩ := hrel
    have l0 := cell_below L0.out hbr
    by_cases hlt : k < N
    · have HM := Lib.hid (HM0.out k wr (HB.out.trans (hbr.mono HB.out.size)))
      rw [HVal.out] at HM
      have HNk := Lib.hid (valK_succ f k)
      have hsr := hbr.size
      clear HM0 HVal HI2
      obtain ⟨V, hVv⟩ : ∃ V, f k = V := ⟨_, rfl⟩
      rw [hVv] at HM HNk
      clear hVv
      go_upto_region 5 with (fail)
      go_wp2_with (first | (go_at_call 40; refine HM.out.mono ?_; rintro e w3 ⟨rfl, hb3⟩; have hOW0 := Lib.hid ((owns_belowI HRow.out hb3).alloc (.cells #[.int .i64 V] 3)); have hbq : Below w2.heap.size w2 (w3.alloc (.cells #[.int .i64 V] 3)) := (hbr.trans (hb3.mono hsr)).alloc (Nat.le_trans hsr hb3.size) _; have hs3 := hb3.size) | (at_builtin; go_loud (refine wpList_append_lies _ rfl _ _ 22 rfl w2.heap.size 3 n0 _ 1 8 Tryz.underlying22 hi hzz0 hz1 hz2 rfl (by decide) (.slice av k cv) k _ (by rfl) hOW0.out ⟨w3.heap.size, 0, none⟩ 1 1 [.int .i64 V] (by rfl) (by rfl) ?d1 ?d2 (by decide) ?d3 ?d4 ?d5 _ rfl ?_)))
      case d1 =>
        refine World.news_of_block (cs := #[.int .i64 V]) (t := 3) (fr := (0, 0)) ?_
        exact heap_alloc_new _ _
      case d2 => simp [Value.oneCell']
      case d3 => unfold maxLen; omega
      case d4 => omega
      case d5 => first | (simp; omega) | simp | omega
      intro g6 c6 w6 hown6 hgrow6 hat6 hlt6
      have hb6 : Below w2.heap.size w2 w6 := hbq.grown hgrow6 (by first | (simp; omega) | simp | omega) (fun z hz => owns_blockI hOW0.out hz)
      have HRow6 := Lib.hid hown6
      clear hown6 hOW0 hbq hgrow6 hat6 hlt6
      go_wp2_with fail
      go_roundw
      case rel => exact ⟨k + 1, by omega, by go_num, ⟨_, c6, rfl⟩, Lib.hid (by rw [HNk.out]; exact HRow6.out), hb6⟩
      case measure => simp [intOf]; omega
    · obtain rfl : k = N := by omega
      have HEnd : Hid (ValO f k w (.returned (.slice av k cv)) wr) := Lib.hid ⟨av, cv, rfl, by
        have h1 := HRow.out
        have h2 : IntsS wr av (valK f k) := ints_own (by rw [valK_len]; exact h1) (by rw [valK_len]; omega) (fun j hj => by
          rw [valK_len] at hj
          show I64 (gi _ _)
          rw [valK_get f hj]; exact HI2.out _)
        exact h2, fun x hx => Nat.le_trans HB.out.size (own_lt HRow.out x hx).2.1, HB.out.trans (hbr.mono HB.out.size)⟩
      clear HRow HM0 HVal HI2
      go_wp2_with fail
      go_ret
      exact HEnd.out
theorem val_of {f : Int → Int} {n : Nat} {w : World} {e : Ending} {w' : World} (h : ValO f n w e w') : ValA f n w e w' := by
  obtain ⟨b, c, h1, h2, -, h3⟩ := h
  exact ⟨b, c, h1, h2, h3⟩
theorem refAll_r (N : Nat) (a : Option Addr) (js : List Int) (ca : Nat) (aa : Option Addr) (l : List Sgn) (cl : Nat) (h dir tp : Int) (hV : lstE N js l [] = 0) (h2 : topB tp = true) (w : World) (hI : IntsS w a js) (hA : SgnS w aa l) :
    Calls Tryz.prog 36 #[.agg #[.int .i64 N, .slice a js.length ca], .slice aa l.length cl, .int .i64 h, .int .i64 dir, .int .i64 tp] w (ValA (fun m => hldV N js l h dir tp m) N w) := (refAllO_r N a js ca aa l cl h dir tp hV h2 w hI hA).mono fun e w' h => val_of h
theorem refMusts_r (N : Nat) (a : Option Addr) (js : List Int) (ca : Nat) (ae : Option Addr) (q : List Edc) (cq : Nat) (h dir tp : Int) (hV : lstE N js [] q = 0) (w : World) (hE : EdS w ae q) :
    Calls Tryz.prog 37 #[.agg #[.int .i64 N, .slice a js.length ca], .slice ae q.length cq, .int .i64 h, .int .i64 dir, .int .i64 tp] w (ValA (fun m => mustV q h tp dir m) N w) := (refMustsO_r N a js ca ae q cq h dir tp hV w hE).mono fun e w' h => val_of h
end Go.Proofs.YtlpdjinhkmgbgaaGreatDoor
