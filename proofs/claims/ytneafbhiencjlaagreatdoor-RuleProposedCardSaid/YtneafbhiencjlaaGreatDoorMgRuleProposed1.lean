/-
  ValidLine of package rule and of its reference. By an AI agent.; Signs in memory; signValid of package rule. By an AI agent.; slices.Values, AppendSeq and Collect of ints at the seat of package rule: the ints of a slice, in a slice of one's own. By an AI agent.; Library functions laid at this program, in plain words. By an AI agent.; slices.Sort, Compact and Sorted of ints at the seat of package rule, over rows of one's own. By an AI agent.
-/
import Derived.Test.YtneafbhiencjlaaGreatDoorMgRuleProposed0
import Derived.Deep.RegionHeld3
import Derived.BigQuiet
import Derived.RangeFuncNested
import Derived.RangeFuncBox
import Derived.RangeFuncBound
import Derived.RangeFuncCalls
import Derived.RangeFuncLeaves
import Derived.RangeFuncWrites
import Derived.Shelf.Abstract
import Derived.Shelf.RegionOpen
import Derived.WalkKit
import Derived.OwnWalkIn
import Derived.TacticsInMore
import Derived.LoopNIn
import Derived.LoopIn
import Derived.Maps.AppendAt
import Derived.Shelf.SortM.Plain
import Derived.Shelf.SortM.SortNone
import Derived.Ground.SlgmProg
import Derived.Shelf.SlicesG.CompactI
import Derived.Ground.SlgnProg
import Derived.Shelf.SlSortCmp.WholeK
import Derived.Ground.SlsfProg
import Derived.Test.YtneafbhiencjlaaGreatDoorProg
import Derived.Sort.OwnSortedInts

namespace Go.Proofs.YtneafbhiencjlaaGreatDoor
set_option linter.unusedVariables false
set_option linter.unusedSimpArgs false
open Go.RowKit

theorem pos_neR {i : Nat} {α : Type} {l : List α} (hi : i < l.length) : l ≠ [] := by rintro rfl; simp at hi
theorem below_onR {w W W' : World} (h : Below w.heap.size w W) (hb : Below W.heap.size W W') : Below w.heap.size w W' := h.trans (hb.mono h.size)
/-- The junction ahead of number k, or 0. -/
def prvR (js : List Int) : Nat → Int
  | 0 => 0
  | k + 1 => gi js k
def jOk (L : Int) (js : List Int) (k : Nat) : Bool := decide (prvR js k < gi js k) && decide (gi js k < L)
/-- Is a line valid? -/
def lineB (L : Int) (js : List Int) : Bool := btw L 1 100000 && decide (js.length ≤ 50) && !(anyK (fun k => !(jOk L js k)) js.length)
theorem line_bad {L : Int} {js : List Int} {k : Nat} (hk : k < js.length) (h : jOk L js k = false) : lineB L js = false := by
  unfold lineB; rw [anyK_true (j := k) (by simp [h]) _ hk]; simp
theorem line_end {L : Int} {js : List Int} (h : ∀ k, k < js.length → jOk L js k = true) : lineB L js = (btw L 1 100000 && decide (js.length ≤ 50)) := by
  unfold lineB; rw [(anyK_iff _).2 (fun k hk => by simp [h k hk])]; simp
theorem jOk_pos {L : Int} {js : List Int} : ∀ k, (∀ j, j < k → jOk L js j = true) → 0 ≤ prvR js k
  | 0, _ => Int.le_refl _
  | k + 1, h => by
    have h1 := h k (by omega)
    have h2 := jOk_pos k fun j hj => h j (by omega)
    unfold jOk at h1
    rw [Bool.and_eq_true, decide_eq_true_eq] at h1
    show 0 ≤ gi js k
    omega
set_option maxRecDepth 100000 in
set_option maxHeartbeats 1000000 in
theorem ValidLine_r (L : Int) (a : Option Addr) (js : List Int) (ca : Nat) (w : World) (hI : IntsS w a js) :
    Calls Tryz.prog 42 #[.agg #[.int .i64 L, .slice a js.length ca]] w fun e w' => e = .returned (.bool (lineB L js)) ∧ Below w.heap.size w w' := by
  obtain ⟨hlen, -, blk, off, hadr, hc⟩ := hI
  have HC := Lib.hid hc
  have HL : Hid (0 < js.length → a = some ⟨blk, off, none⟩) := Lib.hid fun h => hadr (pos_neR (i := 0) h)
  clear hc hadr
  cases hw : btw L 1 100000 with
  | false =>
    have HW := Lib.hid hw
    have HR : Hid (lineB L js = false) := Lib.hid (by unfold lineB; rw [hw]; rfl)
    clear hw HC HL
    go_enter Tryz.func42, Tryz.ntmps42
    go_wp2_with fail
    obtain ⟨wB, hwB⟩ : ∃ wB, w.alloc (.cells #[.int .i64 L, .slice a js.length ca] 24) = wB := ⟨_, rfl⟩
    have hb : Below w.heap.size w wB := by rw [← hwB]; exact (Below.refl _ _).alloc (Nat.le_refl _) _
    have p0 : wB.cell? ⟨w.heap.size, 0, none⟩ = some (.int .i64 L) := by rw [← hwB]; simp [go_sem]
    have p1 : wB.cell? ⟨w.heap.size, 1, none⟩ = some (.slice a js.length ca) := by rw [← hwB]; simp [go_sem]
    rw [hwB]
    clear hwB
    go_wp2_with (go_at_call 59; refine (within_r _ _ _ _).mono ?_; rintro e w7 ⟨rfl, rfl⟩; rw [HW.out])
    go_ret
    exact ⟨by rw [HR.out]; rfl, hb⟩
  | true =>
    have HW := Lib.hid hw
    by_cases h50 : js.length ≤ 50
    · have d50 : decide (50 < (js.length : Int)) = false := decide_eq_false (by omega)
      have HE : Hid ((∀ k, k < js.length → jOk L js k = true) → lineB L js = true) := Lib.hid fun h => by rw [line_end h, hw, decide_eq_true h50]; rfl
      have HB : Hid (∀ k, k < js.length → jOk L js k = false → lineB L js = false) := Lib.hid fun k hk h => line_bad hk h
      have HP : Hid (∀ k, prvR js (k + 1) = gi js k) := Lib.hid fun k => rfl
      clear hw
      go_enter Tryz.func42, Tryz.ntmps42
      go_wp2_with fail
      obtain ⟨wB, hwB⟩ : ∃ wB, w.alloc (.cells #[.int .i64 L, .slice a js.length ca] 24) = wB := ⟨_, rfl⟩
      have hb : Below w.heap.size w wB := by rw [← hwB]; exact (Below.refl _ _).alloc (Nat.le_refl _) _
      have p0 : wB.cell? ⟨w.heap.size, 0, none⟩ = some (.int .i64 L) := by rw [← hwB]; simp [go_sem]
      have p1 : wB.cell? ⟨w.heap.size, 1, none⟩ = some (.slice a js.length ca) := by rw [← hwB]; simp [go_sem]
      rw [hwB]
      clear hwB
      go_wp2_with (go_at_call 59; refine (within_r _ _ _ _).mono ?_; rintro e w7 ⟨rfl, rfl⟩; rw [HW.out])
      go_loopw [3, 19] (fun p i wr => ∃ k : Nat, k ≤ js.length ∧ i = .int .i64 k ∧ p = .int .i64 (prvR js k) ∧ Hid (∀ j, j < k → jOk L js j = true) ∧ Below wB.heap.size wB wr) (fun _ i _ => js.length - (intOf i).toNat)
      case atStart => exact ⟨0, Nat.zero_le _, rfl, rfl, Lib.hid fun j hj => absurd hj (Nat.not_lt_zero _), Below.refl _ _⟩
      case round =>
        obtain ⟨k, hk, rfl, rfl, HN, hbr⟩ := hrel
        have p0 := cell_below p0 hbr
        have p1 := cell_below p1 hbr
        by_cases hlt : k < js.length
        · obtain rfl := HL.out (by omega)
          have c0 := cell_below (HC.out k hlt) (below_onR hb hbr)
          have hmeas : js.length - (k + 1) < js.length - k := by omega
          have HS : Hid (jOk L js k = true → ∀ j, j < k + 1 → jOk L js j = true) := Lib.hid fun h j hj => by
            by_cases e : j = k
            · subst e; exact h
            · exact HN.out j (by omega)
          have HBk := Lib.hid (HB.out k hlt)
          have HPk := Lib.hid (HP.out k)
          have HJ : Hid (jOk L js k = (decide (prvR js k < gi js k) && decide (gi js k < L))) := Lib.hid rfl
          clear HC HL HE HB HP HN HW
          generalize prvR js k = p at *
          generalize gi js k = x at *
          by_cases h1 : p < x
          · by_cases h2 : x < L
            · have HSk := Lib.hid (HS.out (by rw [HJ.out, decide_eq_true h1, decide_eq_true h2]; rfl))
              clear HS HBk HJ
              go_wp2_with fail
              go_roundw
              case rel => exact ⟨k + 1, by omega, by go_num, by rw [HPk.out], HSk, hbr⟩
              case measure => first | (simp [intOf]; exact hmeas) | simpa [intOf] using hmeas
            · have HR := Lib.hid (HBk.out (by rw [HJ.out, decide_eq_false h2, Bool.and_false]))
              clear HS HBk HJ
              go_wp2_with fail
              go_ret
              exact ⟨by rw [HR.out]; rfl, below_onR hb hbr⟩
          · have HR := Lib.hid (HBk.out (by rw [HJ.out, decide_eq_false h1, Bool.false_and]))
            clear HS HBk HJ
            go_wp2_with fail
            go_ret
            exact ⟨by rw [HR.out]; rfl, below_onR hb hbr⟩
        · obtain rfl : k = js.length := by omega
          have HR := Lib.hid (HE.out HN.out)
          clear HC HL HE HB HP HN HW
          go_wp2_with fail
          go_ret
          exact ⟨by rw [HR.out]; rfl, below_onR hb hbr⟩
    · have d50 : decide (50 < (js.length : Int)) = true := decide_eq_true (by omega)
      have HR : Hid (lineB L js = false) := Lib.hid (by unfold lineB; rw [decide_eq_false h50, Bool.and_false, Bool.false_and])
      clear hw HC HL
      go_enter Tryz.func42, Tryz.ntmps42
      go_wp2_with fail
      obtain ⟨wB, hwB⟩ : ∃ wB, w.alloc (.cells #[.int .i64 L, .slice a js.length ca] 24) = wB := ⟨_, rfl⟩
      have hb : Below w.heap.size w wB := by rw [← hwB]; exact (Below.refl _ _).alloc (Nat.le_refl _) _
      have p0 : wB.cell? ⟨w.heap.size, 0, none⟩ = some (.int .i64 L) := by rw [← hwB]; simp [go_sem]
      have p1 : wB.cell? ⟨w.heap.size, 1, none⟩ = some (.slice a js.length ca) := by rw [← hwB]; simp [go_sem]
      rw [hwB]
      clear hwB
      go_wp2_with (go_at_call 59; refine (within_r _ _ _ _).mono ?_; rintro e w7 ⟨rfl, rfl⟩; rw [HW.out])
      go_ret
      exact ⟨by rw [HR.out]; rfl, hb⟩
set_option maxRecDepth 100000 in
set_option maxHeartbeats 1000000 in
theorem refValidLine_r (L : Int) (a : Option Addr) (js : List Int) (ca : Nat) (w : World) (hI : IntsS w a js) :
    Calls Tryz.prog 48 #[.agg #[.int .i64 L, .slice a js.length ca]] w fun e w' => e = .returned (.bool (lineB L js)) ∧ Below w.heap.size w w' := by
  obtain ⟨hlen, -, blk, off, hadr, hc⟩ := hI
  have HC := Lib.hid hc
  have HL : Hid (0 < js.length → a = some ⟨blk, off, none⟩) := Lib.hid fun h => hadr (pos_neR (i := 0) h)
  have HE : Hid ((∀ k, k < js.length → jOk L js k = true) → lineB L js = (btw L 1 100000 && decide (js.length ≤ 50))) := Lib.hid fun h => line_end h
  have HB : Hid (∀ k, k < js.length → jOk L js k = false → lineB L js = false) := Lib.hid fun k hk h => line_bad hk h
  have HPos : Hid (∀ k, (∀ j, j < k → jOk L js j = true) → 0 ≤ prvR js k) := Lib.hid fun k h => jOk_pos k h
  clear hc hadr
  go_enter Tryz.func48, Tryz.ntmps48
  go_wp2_with fail
  obtain ⟨wB, hwB⟩ : ∃ wB, w.alloc (.cells #[.int .i64 L, .slice a js.length ca] 24) = wB := ⟨_, rfl⟩
  have hb : Below w.heap.size w wB := by rw [← hwB]; exact (Below.refl _ _).alloc (Nat.le_refl _) _
  have p0 : wB.cell? ⟨w.heap.size, 0, none⟩ = some (.int .i64 L) := by rw [← hwB]; simp [go_sem]
  have p1 : wB.cell? ⟨w.heap.size, 1, none⟩ = some (.slice a js.length ca) := by rw [← hwB]; simp [go_sem]
  rw [hwB]
  clear hwB
  go_loopw [3] (fun i wr => ∃ k : Nat, k ≤ js.length ∧ i = .int .i64 k ∧ Hid (∀ j, j < k → jOk L js j = true) ∧ Below wB.heap.size wB wr) (fun i _ => js.length - (intOf i).toNat)
  case atStart => exact ⟨0, Nat.zero_le _, rfl, Lib.hid fun j hj => absurd hj (Nat.not_lt_zero _), Below.refl _ _⟩
  case round =>
    obtain ⟨k, hk, rfl, HN, hbr⟩ := hrel
    have p0 := cell_below p0 hbr
    have p1 := cell_below p1 hbr
    by_cases hlt : k < js.length
    · obtain rfl := HL.out (by omega)
      have c0 := cell_below (HC.out k hlt) (below_onR hb hbr)
      have hkl : (k : Int) < (js.length : Int) := by omega
      have hk0 : (0 : Int) ≤ (k : Int) := by omega
      have hmeas : js.length - (k + 1) < js.length - k := by omega
      have HS : Hid (jOk L js k = true → ∀ j, j < k + 1 → jOk L js j = true) := Lib.hid fun h j hj => by
        by_cases e : j = k
        · subst e; exact h
        · exact HN.out j (by omega)
      have HBk := Lib.hid (HB.out k hlt)
      have hpos := HPos.out k HN.out
      by_cases hk1 : k = 0
      · subst hk1
        have HJ : Hid (jOk L js 0 = (decide (0 < gi js 0) && decide (gi js 0 < L))) := Lib.hid rfl
        have c0 : wr.cell? ⟨blk, off, none⟩ = some (.int .i64 (gi js 0)) := c0
        clear HC HL HE HB HPos HN hpos
        generalize gi js 0 = x at *
        by_cases h1 : x ≤ 0
        · have d1 : decide (x ≤ 0) = true := decide_eq_true h1
          have HR := Lib.hid (HBk.out (by rw [HJ.out, decide_eq_false (by omega), Bool.false_and]))
          clear HS HBk HJ
          go_wp2_with fail
          go_quiet (fail)
          go_wp2_with fail
          go_ret
          exact ⟨by rw [HR.out]; rfl, below_onR hb (below_drewN hbr _)⟩

        · have d1 : decide (x ≤ 0) = false := decide_eq_false h1
          by_cases h2 : L ≤ x
          · have d2 : decide (L ≤ x) = true := decide_eq_true h2
            have HR := Lib.hid (HBk.out (by rw [HJ.out, decide_eq_false (by omega : ¬ x < L), Bool.and_false]))
            clear HS HBk HJ
            go_wp2_with fail
            go_quiet (fail)
            go_wp2_with fail
            go_ret
            exact ⟨by rw [HR.out]; rfl, below_onR hb (below_drewN hbr _)⟩

          · have d2 : decide (L ≤ x) = false := decide_eq_false h2
            have HSk := Lib.hid (HS.out (by rw [HJ.out, decide_eq_true (by omega), decide_eq_true (by omega)]; rfl))
            clear HS HBk HJ
            go_wp2_with fail
            go_quiet (fail)
            go_wp2_with fail
            go_roundw
            case rel => exact ⟨0 + 1, by omega, by go_num, HSk, below_drewN hbr _⟩
            case measure => first | (simp [intOf]; exact hmeas) | simpa [intOf] using hmeas


      · obtain ⟨j, hj⟩ : ∃ j, k = j + 1 := ⟨k - 1, by omega⟩
        have HJ : Hid (jOk L js k = (decide (gi js j < gi js k) && decide (gi js k < L))) := Lib.hid (by rw [hj]; rfl)
        have hpos : 0 ≤ gi js j := by have h := hpos; rw [hj] at h; exact h
        have c1 := cell_below (HC.out j (by omega)) (below_onR hb hbr)
        have hj0 : (0 : Int) ≤ (j : Int) := by omega
        have hjl : (j : Int) < (js.length : Int) := by omega
        have hji : (k : Int) - 1 = (j : Int) := by omega
        have hjw : IntKind.i64.wrap ((k : Int) - 1) = (j : Int) := by rw [hji]; exact IntWalk.i64_in _ (by omega)
        have dk : decide (0 < k) = true := decide_eq_true (by omega)
        clear HC HL HE HB HPos HN hj
        generalize gi js k = x at *
        generalize gi js j = p at *
        by_cases h1 : x ≤ 0
        · have d1 : decide (x ≤ 0) = true := decide_eq_true h1
          have HR := Lib.hid (HBk.out (by rw [HJ.out, decide_eq_false (by omega), Bool.false_and]))
          clear HS HBk HJ
          go_wp2_with fail
          go_quiet (fail)
          go_wp2_with fail
          go_ret
          exact ⟨by rw [HR.out]; rfl, below_onR hb (below_drewN hbr _)⟩

        · have d1 : decide (x ≤ 0) = false := decide_eq_false h1
          by_cases h2 : L ≤ x
          · have d2 : decide (L ≤ x) = true := decide_eq_true h2
            have HR := Lib.hid (HBk.out (by rw [HJ.out, decide_eq_false (by omega : ¬ x < L), Bool.and_false]))
            clear HS HBk HJ
            go_wp2_with fail
            go_quiet (fail)
            go_wp2_with fail
            go_ret
            exact ⟨by rw [HR.out]; rfl, below_onR hb (below_drewN hbr _)⟩

          · have d2 : decide (L ≤ x) = false := decide_eq_false h2
            by_cases h3 : x ≤ p
            · have d3 : decide (x ≤ p) = true := decide_eq_true h3
              have HR := Lib.hid (HBk.out (by rw [HJ.out, decide_eq_false (by omega), Bool.false_and]))
              clear HS HBk HJ
              go_wp2_with fail
              go_quiet (fail)
              go_wp2_with fail
              go_ret
              exact ⟨by rw [HR.out]; rfl, below_onR hb (below_drewN hbr _)⟩

            · have d3 : decide (x ≤ p) = false := decide_eq_false h3
              have HSk := Lib.hid (HS.out (by rw [HJ.out, decide_eq_true (by omega), decide_eq_true (by omega)]; rfl))
              clear HS HBk HJ
              go_wp2_with fail
              go_quiet (fail)
              go_wp2_with fail
              go_roundw
              case rel => exact ⟨k + 1, by omega, by go_num, HSk, below_drewN hbr _⟩
              case measure => first | (simp [intOf]; exact hmeas) | simpa [intOf] using hmeas


    · obtain rfl : k = js.length := by omega
      have HR0 := Lib.hid (HE.out HN.out)
      clear HC HL HE HB HPos HN
      cases hw : btw L 1 100000 with
      | false =>
        have HW := Lib.hid hw
        have HR : Hid (lineB L js = false) := Lib.hid (by rw [HR0.out, hw]; rfl)
        clear hw HR0
        go_wp2_with (go_at_call 51; refine (refWithin_r _ _ _ _).mono ?_; rintro e w7 ⟨rfl, rfl⟩; rw [HW.out])
        go_ret
        exact ⟨by rw [HR.out]; rfl, below_onR hb hbr⟩
      | true =>
        have HW := Lib.hid hw
        have HR : Hid (lineB L js = decide ((js.length : Int) ≤ 50)) := Lib.hid (by
          rw [HR0.out, hw, Bool.true_and]
          by_cases h : js.length ≤ 50
          · rw [decide_eq_true h, decide_eq_true (by omega)]
          · rw [decide_eq_false h, decide_eq_false (by omega)])
        clear hw HR0
        go_wp2_with (go_at_call 51; refine (refWithin_r _ _ _ _).mono ?_; rintro e w7 ⟨rfl, rfl⟩; rw [HW.out])
        go_ret
        exact ⟨by rw [HR.out] <;> rfl, below_onR hb hbr⟩
end Go.Proofs.YtneafbhiencjlaaGreatDoor

namespace Go.Proofs.YtneafbhiencjlaaGreatDoor
set_option linter.unusedVariables false
set_option linter.unusedSimpArgs false
open Go.RowKit

abbrev Spn := Int × Int
theorem pos_ne {n i : Nat} {α : Type} {l : List α} (hi : i < l.length) : l ≠ [] := by rintro rfl; simp at hi
/-- A sign, without its place in memory. -/
structure Sgn where
  n : Int
  k : Int
  v : Int
  c : Int
  d : Int
  rk : Int
  up : Int
  dn : Int
  cv : List Spn
def gs (l : List Sgn) (i : Nat) : Sgn := l.getD i ⟨0, 0, 0, 0, 0, 0, 0, 0, []⟩
/-- A slice of signs. -/
def SgnS (w : World) (a : Option Addr) (l : List Sgn) : Prop :=
  l.length ≤ 9223372036854775807 ∧ ∃ (blk off : Nat) (ad : Nat → Option Addr) (cp : Nat → Nat), (l ≠ [] → a = some ⟨blk, off, none⟩) ∧ ∀ i, i < l.length → (w.cell? ⟨blk, off + i * 9, none⟩ = some (.int .i64 (gs l i).n) ∧ w.cell? ⟨blk, off + i * 9 + 1, none⟩ = some (.int .i64 (gs l i).k) ∧ w.cell? ⟨blk, off + i * 9 + 2, none⟩ = some (.int .i64 (gs l i).v) ∧ w.cell? ⟨blk, off + i * 9 + 3, none⟩ = some (.int .i64 (gs l i).c) ∧ w.cell? ⟨blk, off + i * 9 + 4, none⟩ = some (.int .i64 (gs l i).d) ∧ w.cell? ⟨blk, off + i * 9 + 5, none⟩ = some (.int .i64 (gs l i).rk) ∧ w.cell? ⟨blk, off + i * 9 + 6, none⟩ = some (.int .i64 (gs l i).up) ∧ w.cell? ⟨blk, off + i * 9 + 7, none⟩ = some (.int .i64 (gs l i).dn)) ∧ w.cell? ⟨blk, off + i * 9 + 8, none⟩ = some (.slice (ad i) (gs l i).cv.length (cp i)) ∧ PairsS w (ad i) (gs l i).cv
theorem SgnS.below {w w' : World} {a : Option Addr} {l : List Sgn} (h : SgnS w a l) (hb : Below w.heap.size w w') : SgnS w' a l := by
  obtain ⟨h0, blk, off, ad, cp, h2, h3⟩ := h
  exact ⟨h0, blk, off, ad, cp, h2, fun i hi => by
    obtain ⟨⟨c0, c1, c2, c3, c4, c5, c6, c7⟩, c8, hp⟩ := h3 i hi
    exact ⟨⟨cell_below c0 hb, cell_below c1 hb, cell_below c2 hb, cell_below c3 hb, cell_below c4 hb, cell_below c5 hb, cell_below c6 hb, cell_below c7 hb⟩, cell_below c8 hb, hp.below hb⟩⟩
/-- Are covers right? -/
def covB (l : List Spn) : Bool := !(anyK (fun j => !(timeB (gp l j).1 (gp l j).2)) l.length)
/-- Is a sign valid, its number aside? -/
def sgnB (L : Int) (s : Sgn) : Bool := valB s.k s.v && btw s.c 0 L && dirB s.d && btw s.rk 1 9 && timeB s.up s.dn && decide (s.cv.length ≤ 10) && covB s.cv
theorem cov1_r (x y : Int) (w : World) :
    Calls Tryz.prog 91 (#[.agg #[.int .i64 x, .int .i64 y]] ++ #[]) w fun e w' => e = .returned (.bool (!(timeB x y))) ∧ Below w.heap.size w w' := by
  have HT := Lib.hid (fun W => isTime_r x y W)
  generalize timeB x y = b at *
  go_enter Tryz.func91, Tryz.ntmps91
  go_wp2_with (go_at_call 89; refine (HT.out _).mono ?_; rintro e w' ⟨rfl, rfl⟩)
  go_ret
  exact ⟨rfl, (Below.refl _ _).alloc (Nat.le_refl _) _⟩
set_option maxRecDepth 100000 in
set_option maxHeartbeats 1000000 in
theorem idxCv_any (aa : Option Addr) (l : List (Spn)) (ca : Nat) (lb : Array Value) (p : Nat → Bool) (w : World) (hA : PairsS w aa l)
    (hp : ∀ j W, j < l.length → Below w.heap.size w W → Calls Tryz.prog 91 (#[.agg #[.int .i64 (gp l j).1, .int .i64 (gp l j).2]] ++ lb) W fun e w' => e = .returned (.bool (p j)) ∧ Below W.heap.size W w') :
    Calls Tryz.prog 122 #[.slice aa l.length ca, .func (.func 91) #[] lb] w fun e w' => e = .returned (.int .i64 (idxK p l.length)) ∧ Below w.heap.size w w' := by
  obtain ⟨hlen, -, blk, off, hadr, hc⟩ := hA
  have HP := Lib.hid hp
  have HC := Lib.hid hc
  have HH : Hid (∀ k, k < l.length → p k = true → (∀ j, j < k → p j = false) → idxK p l.length = k) := Lib.hid fun k hk h hb => idxK_hit h hb _ hk
  have HM : Hid ((∀ j, j < l.length → p j = false) → idxK p l.length = -1) := Lib.hid fun h => idxK_miss _ h
  have HL : Hid (0 < l.length → aa = some ⟨blk, off, none⟩) := Lib.hid fun h => hadr (pos_ne (n := 0) h)
  generalize idxK p l.length = R at *
  clear hp hc hadr
  go_enter Tryz.func122, Tryz.ntmps122
  go_wp2_with fail
  go_loopw [8] (fun i wr => ∃ k : Nat, k ≤ l.length ∧ i = .int .i64 k ∧ Below w.heap.size w wr ∧ Hid (∀ j, j < k → p j = false)) (fun i _ => l.length - (intOf i).toNat)
  case atStart => exact ⟨0, Nat.zero_le _, rfl, Below.refl _ _, Lib.hid fun j hj => absurd hj (Nat.not_lt_zero _)⟩
  case round =>
    obtain ⟨k, hk, rfl, hb, HA⟩ := hrel
    by_cases hlt : k < l.length
    · obtain rfl := HL.out (by omega)
      obtain ⟨c0, c1⟩ := HC.out k hlt
      have c0 := cell_below c0 hb
      have c1 := cell_below c1 hb
      have HK := Lib.hid (fun W => HP.out k W hlt)
      have HHk := Lib.hid (HH.out k hlt)
      have HN : Hid (p k = false → ∀ j, j < k + 1 → p j = false) := Lib.hid fun h j hj => by
        by_cases e : j = k
        · subst e; exact h
        · exact HA.out j (by omega)
      clear HP HC HM HL HH
      generalize (gp l k).1 = x0 at *
      generalize (gp l k).2 = x1 at *
      cases hpk : p k with
      | true =>
        have HR := Lib.hid (HHk.out hpk HA.out)
        rw [hpk] at HK
        clear hpk HHk HN
        go_wp2_with fail
        refine (HK.out _ hb).mono ?_
        rintro e w1 ⟨rfl, hb1⟩
        go_wp2_with fail
        go_ret
        rw [HR.out]
        exact ⟨rfl, hb.trans (hb1.mono hb.size)⟩
      | false =>
        have HR := Lib.hid (HN.out hpk)
        rw [hpk] at HK
        clear hpk HHk HN
        go_wp2_with fail
        refine (HK.out _ hb).mono ?_
        rintro e w1 ⟨rfl, hb1⟩
        go_wp2_with fail
        go_roundw
        case rel => exact ⟨k + 1, by omega, by go_num, hb.trans (hb1.mono hb.size), HR⟩
        case measure => simp [intOf]; omega
    · obtain rfl : k = l.length := by omega
      have HR := Lib.hid (HM.out HA.out)
      go_wp2_with fail
      go_ret
      rw [HR.out]
      exact ⟨rfl, hb⟩

set_option maxRecDepth 100000 in
theorem containsCv_any (aa : Option Addr) (l : List (Spn)) (ca : Nat) (lb : Array Value) (p : Nat → Bool) (w : World) (hA : PairsS w aa l)
    (hp : ∀ j W, j < l.length → Below w.heap.size w W → Calls Tryz.prog 91 (#[.agg #[.int .i64 (gp l j).1, .int .i64 (gp l j).2]] ++ lb) W fun e w' => e = .returned (.bool (p j)) ∧ Below W.heap.size W w') :
    Calls Tryz.prog 90 #[.slice aa l.length ca, .func (.func 91) #[] lb] w fun e w' => e = .returned (.bool (anyK p l.length)) ∧ Below w.heap.size w w' := by
  have H := Lib.hid (idxCv_any aa l ca lb p w hA hp)
  have hq := Lib.hid (idxK_any p l.length)
  clear hp hA
  generalize idxK p l.length = R at *
  generalize anyK p l.length = B at *
  have hq := hq.out
  subst hq
  go_enter Tryz.func90, Tryz.ntmps90
  go_wp2_with fail
  refine H.out.mono ?_
  rintro e w1 ⟨rfl, hb1⟩
  go_wp2_with fail
  all_goals
    go_ret
    exact ⟨by simp_all, hb1⟩

set_option maxRecDepth 100000 in
set_option maxHeartbeats 1000000 in
theorem signValid_r (L : Int) (a : Option Addr) (js : List Int) (ca : Nat) (s : Sgn) (ad : Option Addr) (cp : Nat) (w : World) (hP : PairsS w ad s.cv) :
    Calls Tryz.prog 45 #[.agg #[.int .i64 L, .slice a js.length ca], .agg #[.int .i64 s.n, .int .i64 s.k, .int .i64 s.v, .int .i64 s.c, .int .i64 s.d, .int .i64 s.rk, .int .i64 s.up, .int .i64 s.dn, .slice ad s.cv.length cp]] w fun e w' => e = .returned (.bool (sgnB L s)) ∧ Below w.heap.size w w' := by
  have H0 := Lib.hid (fun W => valueValid_r s.k s.v W)
  have H1 := Lib.hid (fun W => within_r 0 L s.c W)
  have H2 := Lib.hid (fun W => isDir_r s.d W)
  have H3 := Lib.hid (fun W => within_r 1 9 s.rk W)
  have H4 := Lib.hid (fun W => isTime_r s.up s.dn W)
  have H5 := Lib.hid (fun W (hW : Below w.heap.size w W) => containsCv_any ad s.cv cp #[] (fun j => !(timeB (gp s.cv j).1 (gp s.cv j).2)) W (hP.below hW) (fun j W' _ _ => cov1_r _ _ W'))
  have hlen := hP.1
  have HV : Hid (sgnB L s = (valB s.k s.v && btw s.c 0 L && dirB s.d && btw s.rk 1 9 && timeB s.up s.dn && decide (s.cv.length ≤ 10) && covB s.cv)) := Lib.hid rfl
  have hcv : anyK (fun j => !(timeB (gp s.cv j).1 (gp s.cv j).2)) s.cv.length = !(covB s.cv) := by unfold covB; simp
  rw [hcv] at H5
  clear hcv hP
  cases g0 : valB s.k s.v with
  | false =>
    rw [g0] at H0
    have HR : Hid (sgnB L s = false) := Lib.hid (by rw [HV.out, g0]; simp)
    clear HV H5 g0
    go_enter Tryz.func45, Tryz.ntmps45
    go_wp2_with fail
    obtain ⟨wB, hwB⟩ : ∃ wB, (w.alloc (.cells #[.int .i64 L, .slice a js.length ca] 24)).alloc (.cells #[.int .i64 s.n, .int .i64 s.k, .int .i64 s.v, .int .i64 s.c, .int .i64 s.d, .int .i64 s.rk, .int .i64 s.up, .int .i64 s.dn, .slice ad s.cv.length cp] 51) = wB := ⟨_, rfl⟩
    have hb : Below w.heap.size w wB := by rw [← hwB]; exact ((Below.refl _ _).alloc (Nat.le_refl _) _).alloc (by simp) _
    have p0 : wB.cell? ⟨w.heap.size, 0, none⟩ = some (.int .i64 L) := by rw [← hwB]; simp [go_sem]
    have q0 : wB.cell? ⟨w.heap.size + 1, 0, none⟩ = some (.int .i64 s.n) := by rw [← hwB]; simp [go_sem]
    have q1 : wB.cell? ⟨w.heap.size + 1, 1, none⟩ = some (.int .i64 s.k) := by rw [← hwB]; simp [go_sem]
    have q2 : wB.cell? ⟨w.heap.size + 1, 2, none⟩ = some (.int .i64 s.v) := by rw [← hwB]; simp [go_sem]
    have q3 : wB.cell? ⟨w.heap.size + 1, 3, none⟩ = some (.int .i64 s.c) := by rw [← hwB]; simp [go_sem]
    have q4 : wB.cell? ⟨w.heap.size + 1, 4, none⟩ = some (.int .i64 s.d) := by rw [← hwB]; simp [go_sem]
    have q5 : wB.cell? ⟨w.heap.size + 1, 5, none⟩ = some (.int .i64 s.rk) := by rw [← hwB]; simp [go_sem]
    have q6 : wB.cell? ⟨w.heap.size + 1, 6, none⟩ = some (.int .i64 s.up) := by rw [← hwB]; simp [go_sem]
    have q7 : wB.cell? ⟨w.heap.size + 1, 7, none⟩ = some (.int .i64 s.dn) := by rw [← hwB]; simp [go_sem]
    have q8 : wB.cell? ⟨w.heap.size + 1, 8, none⟩ = some (.slice ad s.cv.length cp) := by rw [← hwB]; simp [go_sem]
    rw [hwB]
    clear hwB
    go_wp2_with (first | (go_at_call 88; refine (H0.out _).mono ?_; rintro e w7 ⟨rfl, rfl⟩) | (go_at_call_of 59 (Value.int .i64 0); refine (H1.out _).mono ?_; rintro e w7 ⟨rfl, rfl⟩) | (go_at_call 55; refine (H2.out _).mono ?_; rintro e w7 ⟨rfl, rfl⟩) | (go_at_call_of 59 (Value.int .i64 1); refine (H3.out _).mono ?_; rintro e w7 ⟨rfl, rfl⟩) | (go_at_call 89; refine (H4.out _).mono ?_; rintro e w7 ⟨rfl, rfl⟩))
    go_ret
    exact ⟨by rw [HR.out]; rfl, hb⟩
  | true =>
    rw [g0] at H0
    cases g1 : btw s.c 0 L with
    | false =>
      rw [g1] at H1
      have HR : Hid (sgnB L s = false) := Lib.hid (by rw [HV.out, g0, g1]; simp)
      clear HV H5 g0 g1
      go_enter Tryz.func45, Tryz.ntmps45
      go_wp2_with fail
      obtain ⟨wB, hwB⟩ : ∃ wB, (w.alloc (.cells #[.int .i64 L, .slice a js.length ca] 24)).alloc (.cells #[.int .i64 s.n, .int .i64 s.k, .int .i64 s.v, .int .i64 s.c, .int .i64 s.d, .int .i64 s.rk, .int .i64 s.up, .int .i64 s.dn, .slice ad s.cv.length cp] 51) = wB := ⟨_, rfl⟩
      have hb : Below w.heap.size w wB := by rw [← hwB]; exact ((Below.refl _ _).alloc (Nat.le_refl _) _).alloc (by simp) _
      have p0 : wB.cell? ⟨w.heap.size, 0, none⟩ = some (.int .i64 L) := by rw [← hwB]; simp [go_sem]
      have q0 : wB.cell? ⟨w.heap.size + 1, 0, none⟩ = some (.int .i64 s.n) := by rw [← hwB]; simp [go_sem]
      have q1 : wB.cell? ⟨w.heap.size + 1, 1, none⟩ = some (.int .i64 s.k) := by rw [← hwB]; simp [go_sem]
      have q2 : wB.cell? ⟨w.heap.size + 1, 2, none⟩ = some (.int .i64 s.v) := by rw [← hwB]; simp [go_sem]
      have q3 : wB.cell? ⟨w.heap.size + 1, 3, none⟩ = some (.int .i64 s.c) := by rw [← hwB]; simp [go_sem]
      have q4 : wB.cell? ⟨w.heap.size + 1, 4, none⟩ = some (.int .i64 s.d) := by rw [← hwB]; simp [go_sem]
      have q5 : wB.cell? ⟨w.heap.size + 1, 5, none⟩ = some (.int .i64 s.rk) := by rw [← hwB]; simp [go_sem]
      have q6 : wB.cell? ⟨w.heap.size + 1, 6, none⟩ = some (.int .i64 s.up) := by rw [← hwB]; simp [go_sem]
      have q7 : wB.cell? ⟨w.heap.size + 1, 7, none⟩ = some (.int .i64 s.dn) := by rw [← hwB]; simp [go_sem]
      have q8 : wB.cell? ⟨w.heap.size + 1, 8, none⟩ = some (.slice ad s.cv.length cp) := by rw [← hwB]; simp [go_sem]
      rw [hwB]
      clear hwB
      go_wp2_with (first | (go_at_call 88; refine (H0.out _).mono ?_; rintro e w7 ⟨rfl, rfl⟩) | (go_at_call_of 59 (Value.int .i64 0); refine (H1.out _).mono ?_; rintro e w7 ⟨rfl, rfl⟩) | (go_at_call 55; refine (H2.out _).mono ?_; rintro e w7 ⟨rfl, rfl⟩) | (go_at_call_of 59 (Value.int .i64 1); refine (H3.out _).mono ?_; rintro e w7 ⟨rfl, rfl⟩) | (go_at_call 89; refine (H4.out _).mono ?_; rintro e w7 ⟨rfl, rfl⟩))
      go_ret
      exact ⟨by rw [HR.out]; rfl, hb⟩
    | true =>
      rw [g1] at H1
      cases g2 : dirB s.d with
      | false =>
        rw [g2] at H2
        have HR : Hid (sgnB L s = false) := Lib.hid (by rw [HV.out, g0, g1, g2]; simp)
        clear HV H5 g0 g1 g2
        go_enter Tryz.func45, Tryz.ntmps45
        go_wp2_with fail
        obtain ⟨wB, hwB⟩ : ∃ wB, (w.alloc (.cells #[.int .i64 L, .slice a js.length ca] 24)).alloc (.cells #[.int .i64 s.n, .int .i64 s.k, .int .i64 s.v, .int .i64 s.c, .int .i64 s.d, .int .i64 s.rk, .int .i64 s.up, .int .i64 s.dn, .slice ad s.cv.length cp] 51) = wB := ⟨_, rfl⟩
        have hb : Below w.heap.size w wB := by rw [← hwB]; exact ((Below.refl _ _).alloc (Nat.le_refl _) _).alloc (by simp) _
        have p0 : wB.cell? ⟨w.heap.size, 0, none⟩ = some (.int .i64 L) := by rw [← hwB]; simp [go_sem]
        have q0 : wB.cell? ⟨w.heap.size + 1, 0, none⟩ = some (.int .i64 s.n) := by rw [← hwB]; simp [go_sem]
        have q1 : wB.cell? ⟨w.heap.size + 1, 1, none⟩ = some (.int .i64 s.k) := by rw [← hwB]; simp [go_sem]
        have q2 : wB.cell? ⟨w.heap.size + 1, 2, none⟩ = some (.int .i64 s.v) := by rw [← hwB]; simp [go_sem]
        have q3 : wB.cell? ⟨w.heap.size + 1, 3, none⟩ = some (.int .i64 s.c) := by rw [← hwB]; simp [go_sem]
        have q4 : wB.cell? ⟨w.heap.size + 1, 4, none⟩ = some (.int .i64 s.d) := by rw [← hwB]; simp [go_sem]
        have q5 : wB.cell? ⟨w.heap.size + 1, 5, none⟩ = some (.int .i64 s.rk) := by rw [← hwB]; simp [go_sem]
        have q6 : wB.cell? ⟨w.heap.size + 1, 6, none⟩ = some (.int .i64 s.up) := by rw [← hwB]; simp [go_sem]
        have q7 : wB.cell? ⟨w.heap.size + 1, 7, none⟩ = some (.int .i64 s.dn) := by rw [← hwB]; simp [go_sem]
        have q8 : wB.cell? ⟨w.heap.size + 1, 8, none⟩ = some (.slice ad s.cv.length cp) := by rw [← hwB]; simp [go_sem]
        rw [hwB]
        clear hwB
        go_wp2_with (first | (go_at_call 88; refine (H0.out _).mono ?_; rintro e w7 ⟨rfl, rfl⟩) | (go_at_call_of 59 (Value.int .i64 0); refine (H1.out _).mono ?_; rintro e w7 ⟨rfl, rfl⟩) | (go_at_call 55; refine (H2.out _).mono ?_; rintro e w7 ⟨rfl, rfl⟩) | (go_at_call_of 59 (Value.int .i64 1); refine (H3.out _).mono ?_; rintro e w7 ⟨rfl, rfl⟩) | (go_at_call 89; refine (H4.out _).mono ?_; rintro e w7 ⟨rfl, rfl⟩))
        go_ret
        exact ⟨by rw [HR.out]; rfl, hb⟩
      | true =>
        rw [g2] at H2
        cases g3 : btw s.rk 1 9 with
        | false =>
          rw [g3] at H3
          have HR : Hid (sgnB L s = false) := Lib.hid (by rw [HV.out, g0, g1, g2, g3]; simp)
          clear HV H5 g0 g1 g2 g3
          go_enter Tryz.func45, Tryz.ntmps45
          go_wp2_with fail
          obtain ⟨wB, hwB⟩ : ∃ wB, (w.alloc (.cells #[.int .i64 L, .slice a js.length ca] 24)).alloc (.cells #[.int .i64 s.n, .int .i64 s.k, .int .i64 s.v, .int .i64 s.c, .int .i64 s.d, .int .i64 s.rk, .int .i64 s.up, .int .i64 s.dn, .slice ad s.cv.length cp] 51) = wB := ⟨_, rfl⟩
          have hb : Below w.heap.size w wB := by rw [← hwB]; exact ((Below.refl _ _).alloc (Nat.le_refl _) _).alloc (by simp) _
          have p0 : wB.cell? ⟨w.heap.size, 0, none⟩ = some (.int .i64 L) := by rw [← hwB]; simp [go_sem]
          have q0 : wB.cell? ⟨w.heap.size + 1, 0, none⟩ = some (.int .i64 s.n) := by rw [← hwB]; simp [go_sem]
          have q1 : wB.cell? ⟨w.heap.size + 1, 1, none⟩ = some (.int .i64 s.k) := by rw [← hwB]; simp [go_sem]
          have q2 : wB.cell? ⟨w.heap.size + 1, 2, none⟩ = some (.int .i64 s.v) := by rw [← hwB]; simp [go_sem]
          have q3 : wB.cell? ⟨w.heap.size + 1, 3, none⟩ = some (.int .i64 s.c) := by rw [← hwB]; simp [go_sem]
          have q4 : wB.cell? ⟨w.heap.size + 1, 4, none⟩ = some (.int .i64 s.d) := by rw [← hwB]; simp [go_sem]
          have q5 : wB.cell? ⟨w.heap.size + 1, 5, none⟩ = some (.int .i64 s.rk) := by rw [← hwB]; simp [go_sem]
          have q6 : wB.cell? ⟨w.heap.size + 1, 6, none⟩ = some (.int .i64 s.up) := by rw [← hwB]; simp [go_sem]
          have q7 : wB.cell? ⟨w.heap.size + 1, 7, none⟩ = some (.int .i64 s.dn) := by rw [← hwB]; simp [go_sem]
          have q8 : wB.cell? ⟨w.heap.size + 1, 8, none⟩ = some (.slice ad s.cv.length cp) := by rw [← hwB]; simp [go_sem]
          rw [hwB]
          clear hwB
          go_wp2_with (first | (go_at_call 88; refine (H0.out _).mono ?_; rintro e w7 ⟨rfl, rfl⟩) | (go_at_call_of 59 (Value.int .i64 0); refine (H1.out _).mono ?_; rintro e w7 ⟨rfl, rfl⟩) | (go_at_call 55; refine (H2.out _).mono ?_; rintro e w7 ⟨rfl, rfl⟩) | (go_at_call_of 59 (Value.int .i64 1); refine (H3.out _).mono ?_; rintro e w7 ⟨rfl, rfl⟩) | (go_at_call 89; refine (H4.out _).mono ?_; rintro e w7 ⟨rfl, rfl⟩))
          go_ret
          exact ⟨by rw [HR.out]; rfl, hb⟩
        | true =>
          rw [g3] at H3
          cases g4 : timeB s.up s.dn with
          | false =>
            rw [g4] at H4
            have HR : Hid (sgnB L s = false) := Lib.hid (by rw [HV.out, g0, g1, g2, g3, g4]; simp)
            clear HV H5 g0 g1 g2 g3 g4
            go_enter Tryz.func45, Tryz.ntmps45
            go_wp2_with fail
            obtain ⟨wB, hwB⟩ : ∃ wB, (w.alloc (.cells #[.int .i64 L, .slice a js.length ca] 24)).alloc (.cells #[.int .i64 s.n, .int .i64 s.k, .int .i64 s.v, .int .i64 s.c, .int .i64 s.d, .int .i64 s.rk, .int .i64 s.up, .int .i64 s.dn, .slice ad s.cv.length cp] 51) = wB := ⟨_, rfl⟩
            have hb : Below w.heap.size w wB := by rw [← hwB]; exact ((Below.refl _ _).alloc (Nat.le_refl _) _).alloc (by simp) _
            have p0 : wB.cell? ⟨w.heap.size, 0, none⟩ = some (.int .i64 L) := by rw [← hwB]; simp [go_sem]
            have q0 : wB.cell? ⟨w.heap.size + 1, 0, none⟩ = some (.int .i64 s.n) := by rw [← hwB]; simp [go_sem]
            have q1 : wB.cell? ⟨w.heap.size + 1, 1, none⟩ = some (.int .i64 s.k) := by rw [← hwB]; simp [go_sem]
            have q2 : wB.cell? ⟨w.heap.size + 1, 2, none⟩ = some (.int .i64 s.v) := by rw [← hwB]; simp [go_sem]
            have q3 : wB.cell? ⟨w.heap.size + 1, 3, none⟩ = some (.int .i64 s.c) := by rw [← hwB]; simp [go_sem]
            have q4 : wB.cell? ⟨w.heap.size + 1, 4, none⟩ = some (.int .i64 s.d) := by rw [← hwB]; simp [go_sem]
            have q5 : wB.cell? ⟨w.heap.size + 1, 5, none⟩ = some (.int .i64 s.rk) := by rw [← hwB]; simp [go_sem]
            have q6 : wB.cell? ⟨w.heap.size + 1, 6, none⟩ = some (.int .i64 s.up) := by rw [← hwB]; simp [go_sem]
            have q7 : wB.cell? ⟨w.heap.size + 1, 7, none⟩ = some (.int .i64 s.dn) := by rw [← hwB]; simp [go_sem]
            have q8 : wB.cell? ⟨w.heap.size + 1, 8, none⟩ = some (.slice ad s.cv.length cp) := by rw [← hwB]; simp [go_sem]
            rw [hwB]
            clear hwB
            go_wp2_with (first | (go_at_call 88; refine (H0.out _).mono ?_; rintro e w7 ⟨rfl, rfl⟩) | (go_at_call_of 59 (Value.int .i64 0); refine (H1.out _).mono ?_; rintro e w7 ⟨rfl, rfl⟩) | (go_at_call 55; refine (H2.out _).mono ?_; rintro e w7 ⟨rfl, rfl⟩) | (go_at_call_of 59 (Value.int .i64 1); refine (H3.out _).mono ?_; rintro e w7 ⟨rfl, rfl⟩) | (go_at_call 89; refine (H4.out _).mono ?_; rintro e w7 ⟨rfl, rfl⟩))
            go_ret
            exact ⟨by rw [HR.out]; rfl, hb⟩
          | true =>
            rw [g4] at H4
            by_cases h10 : s.cv.length ≤ 10
            · have d10 : decide ((s.cv.length : Int) ≤ 10) = true := decide_eq_true (by omega)
              have HR : Hid (sgnB L s = covB s.cv) := Lib.hid (by rw [HV.out, g0, g1, g2, g3, g4, decide_eq_true h10]; simp)
              generalize covB s.cv = B at *
              clear HV g0 g1 g2 g3 g4
              go_enter Tryz.func45, Tryz.ntmps45
              go_wp2_with fail
              obtain ⟨wB, hwB⟩ : ∃ wB, (w.alloc (.cells #[.int .i64 L, .slice a js.length ca] 24)).alloc (.cells #[.int .i64 s.n, .int .i64 s.k, .int .i64 s.v, .int .i64 s.c, .int .i64 s.d, .int .i64 s.rk, .int .i64 s.up, .int .i64 s.dn, .slice ad s.cv.length cp] 51) = wB := ⟨_, rfl⟩
              have hb : Below w.heap.size w wB := by rw [← hwB]; exact ((Below.refl _ _).alloc (Nat.le_refl _) _).alloc (by simp) _
              have p0 : wB.cell? ⟨w.heap.size, 0, none⟩ = some (.int .i64 L) := by rw [← hwB]; simp [go_sem]
              have q0 : wB.cell? ⟨w.heap.size + 1, 0, none⟩ = some (.int .i64 s.n) := by rw [← hwB]; simp [go_sem]
              have q1 : wB.cell? ⟨w.heap.size + 1, 1, none⟩ = some (.int .i64 s.k) := by rw [← hwB]; simp [go_sem]
              have q2 : wB.cell? ⟨w.heap.size + 1, 2, none⟩ = some (.int .i64 s.v) := by rw [← hwB]; simp [go_sem]
              have q3 : wB.cell? ⟨w.heap.size + 1, 3, none⟩ = some (.int .i64 s.c) := by rw [← hwB]; simp [go_sem]
              have q4 : wB.cell? ⟨w.heap.size + 1, 4, none⟩ = some (.int .i64 s.d) := by rw [← hwB]; simp [go_sem]
              have q5 : wB.cell? ⟨w.heap.size + 1, 5, none⟩ = some (.int .i64 s.rk) := by rw [← hwB]; simp [go_sem]
              have q6 : wB.cell? ⟨w.heap.size + 1, 6, none⟩ = some (.int .i64 s.up) := by rw [← hwB]; simp [go_sem]
              have q7 : wB.cell? ⟨w.heap.size + 1, 7, none⟩ = some (.int .i64 s.dn) := by rw [← hwB]; simp [go_sem]
              have q8 : wB.cell? ⟨w.heap.size + 1, 8, none⟩ = some (.slice ad s.cv.length cp) := by rw [← hwB]; simp [go_sem]
              rw [hwB]
              clear hwB
              go_wp2_with (first | (go_at_call 88; refine (H0.out _).mono ?_; rintro e w7 ⟨rfl, rfl⟩) | (go_at_call_of 59 (Value.int .i64 0); refine (H1.out _).mono ?_; rintro e w7 ⟨rfl, rfl⟩) | (go_at_call 55; refine (H2.out _).mono ?_; rintro e w7 ⟨rfl, rfl⟩) | (go_at_call_of 59 (Value.int .i64 1); refine (H3.out _).mono ?_; rintro e w7 ⟨rfl, rfl⟩) | (go_at_call 89; refine (H4.out _).mono ?_; rintro e w7 ⟨rfl, rfl⟩))
              refine (H5.out _ hb).mono ?_
              rintro e w8 ⟨rfl, hb8⟩
              have hb := below_onR hb hb8
              go_wp2_with fail
              go_ret
              exact ⟨by rw [HR.out]; cases B <;> rfl, hb⟩
            · have d10 : decide ((s.cv.length : Int) ≤ 10) = false := decide_eq_false (by omega)
              have HR : Hid (sgnB L s = false) := Lib.hid (by rw [HV.out, g0, g1, g2, g3, g4, decide_eq_false h10]; simp)
              clear HV H5 g0 g1 g2 g3 g4
              go_enter Tryz.func45, Tryz.ntmps45
              go_wp2_with fail
              obtain ⟨wB, hwB⟩ : ∃ wB, (w.alloc (.cells #[.int .i64 L, .slice a js.length ca] 24)).alloc (.cells #[.int .i64 s.n, .int .i64 s.k, .int .i64 s.v, .int .i64 s.c, .int .i64 s.d, .int .i64 s.rk, .int .i64 s.up, .int .i64 s.dn, .slice ad s.cv.length cp] 51) = wB := ⟨_, rfl⟩
              have hb : Below w.heap.size w wB := by rw [← hwB]; exact ((Below.refl _ _).alloc (Nat.le_refl _) _).alloc (by simp) _
              have p0 : wB.cell? ⟨w.heap.size, 0, none⟩ = some (.int .i64 L) := by rw [← hwB]; simp [go_sem]
              have q0 : wB.cell? ⟨w.heap.size + 1, 0, none⟩ = some (.int .i64 s.n) := by rw [← hwB]; simp [go_sem]
              have q1 : wB.cell? ⟨w.heap.size + 1, 1, none⟩ = some (.int .i64 s.k) := by rw [← hwB]; simp [go_sem]
              have q2 : wB.cell? ⟨w.heap.size + 1, 2, none⟩ = some (.int .i64 s.v) := by rw [← hwB]; simp [go_sem]
              have q3 : wB.cell? ⟨w.heap.size + 1, 3, none⟩ = some (.int .i64 s.c) := by rw [← hwB]; simp [go_sem]
              have q4 : wB.cell? ⟨w.heap.size + 1, 4, none⟩ = some (.int .i64 s.d) := by rw [← hwB]; simp [go_sem]
              have q5 : wB.cell? ⟨w.heap.size + 1, 5, none⟩ = some (.int .i64 s.rk) := by rw [← hwB]; simp [go_sem]
              have q6 : wB.cell? ⟨w.heap.size + 1, 6, none⟩ = some (.int .i64 s.up) := by rw [← hwB]; simp [go_sem]
              have q7 : wB.cell? ⟨w.heap.size + 1, 7, none⟩ = some (.int .i64 s.dn) := by rw [← hwB]; simp [go_sem]
              have q8 : wB.cell? ⟨w.heap.size + 1, 8, none⟩ = some (.slice ad s.cv.length cp) := by rw [← hwB]; simp [go_sem]
              rw [hwB]
              clear hwB
              go_wp2_with (first | (go_at_call 88; refine (H0.out _).mono ?_; rintro e w7 ⟨rfl, rfl⟩) | (go_at_call_of 59 (Value.int .i64 0); refine (H1.out _).mono ?_; rintro e w7 ⟨rfl, rfl⟩) | (go_at_call 55; refine (H2.out _).mono ?_; rintro e w7 ⟨rfl, rfl⟩) | (go_at_call_of 59 (Value.int .i64 1); refine (H3.out _).mono ?_; rintro e w7 ⟨rfl, rfl⟩) | (go_at_call 89; refine (H4.out _).mono ?_; rintro e w7 ⟨rfl, rfl⟩))
              go_ret
              exact ⟨by rw [HR.out]; rfl, hb⟩
end Go.Proofs.YtneafbhiencjlaaGreatDoor

namespace Go.Proofs.YtneafbhiencjlaaGreatDoor
set_option linter.unusedVariables false
set_option linter.unusedSimpArgs false
open Go.RowKit Go.Shelf

section
attribute [local go_sem] Oper.semAt_some

/-- What has come after k rounds. -/
def come (zs : List Int) (k : Nat) : List Int := zs.take k
theorem come_succ (zs : List Int) {k : Nat} (h : k < zs.length) : come zs (k + 1) = come zs k ++ [zs[k]?.getD 0] := by
  unfold come; rw [List.take_add_one]; simp [h]
theorem come_len (zs : List Int) {k : Nat} (h : k ≤ zs.length) : (come zs k).length = k := by unfold come; simp; omega

set_option maxRecDepth 100000 in
set_option maxHeartbeats 2000000 in
/-- The closure of slices.Values, for every body that keeps what lay below n0. -/
theorem values1_in (F : Fence) (n : Nat) (h7 : F.fn 105) (hro : F.round = none) (hn : 1 ≤ n) (l Bs n0 b off cap : Nat) (zs : List Int) (hmax : zs.length * 8 ≤ 140737488351232) (hb : b < n0) (J Jx : List Int → World → Prop)
    (hY : ∀ pre x W, J pre W → pre.length < zs.length → YieldAt F (n - 1) Tryz.prog l #[.int .i64 x] W fun e W' =>
      (e = .returned (.bool true) ∧ J (pre ++ [x]) W' ∧ Below n0 W W') ∨ (e = .returned (.bool false) ∧ Jx (pre ++ [x]) W'))
    (W : World) (hBs : W.cell? ⟨Bs, 0, none⟩ = some (.slice (some ⟨b, off, none⟩) zs.length cap)) (hc : ∀ j, j < zs.length → W.cell? ⟨b, off + j, none⟩ = some (.int .i64 (zs[j]?.getD 0))) (h0 : J [] W) :
    CallsIn F n Tryz.prog 105 #[.func (.yield l) #[] #[], .pointer (some ⟨Bs, 0, none⟩)] W fun e W' => (∃ v, e = .returned v) ∧
      ((∃ ys, ys = zs ∧ J ys W') ∨ (∃ pre, (∃ k, k ≤ zs.length ∧ pre = come zs k) ∧ Jx pre W')) := by
  have HZ : Hid (come zs zs.length = zs) := Lib.hid (by unfold come; simp)
  have HS : Hid (∀ k, k < zs.length → come zs (k + 1) = come zs k ++ [zs[k]?.getD 0]) := Lib.hid fun k h => come_succ zs h
  have HN : Hid (∀ k, k ≤ zs.length → (come zs k).length = k) := Lib.hid fun k h => come_len zs h
  have H0 : Hid (come zs 0 = []) := Lib.hid (by simp [come])
  refine callsIn_of_wp Tryz.func105 rfl h7 ?_ hro
  simp only [Tryz.ntmps105, List.size_toArray, List.length_cons, List.length_nil, Nat.reduceAdd, Nat.reduceSub, Array.replicate_succ, Array.replicate_zero, List.push_toArray, List.append_toArray, List.nil_append, List.cons_append]
  gi_wp2
  gi_loopw [7] (fun i wr => ∃ k : Nat, k ≤ zs.length ∧ i = .int .i64 k ∧ J (come zs k) wr ∧ Below n0 W wr)
    (fun i _ => zs.length - (intOf i).toNat)
  case atStart => exact ⟨0, Nat.zero_le _, rfl, by rw [H0.out]; exact h0, Below.refl _ _⟩
  case round =>
    obtain ⟨k, hk, rfl, hJs, hnx⟩ := hrel
    have hcx : k < zs.length → wr.cell? ⟨b, off + k, none⟩ = some (.int .i64 (zs[k]?.getD 0)) := fun h => (hnx.cell (p := ⟨b, off + k, none⟩) hb).trans (hc k h)
    by_cases hlt : k < zs.length
    · have hcx' := hcx hlt
      have HK := Lib.hid (HS.out k hlt)
      clear hcx
      generalize zs[k]?.getD 0 = x at *
      obtain ⟨fn, tmps, assign, body, hy, hR⟩ := hY _ x wr hJs (by rw [HN.out k hk]; exact hlt)
      gi_wp2
      refine hR.mono ?_
      rintro e W3 (⟨rfl, hJ3, hk3⟩ | ⟨rfl, hJx3⟩)
      · gi_wp2
        go_roundw
        case rel => exact ⟨k + 1, by omega, by simp, by rw [HK.out]; exact hJ3, hnx.trans hk3⟩
        case measure => simp [intOf]; omega
      · gi_wp2
        refine bodyPost_ret (results_none rfl _ _ _) rfl ?_
        exact ⟨⟨_, rfl⟩, .inr ⟨_, ⟨k + 1, by omega, HK.out.symm⟩, hJx3⟩⟩
    · obtain rfl : k = zs.length := by omega
      gi_wp2
      go_end0
      exact ⟨⟨_, rfl⟩, .inl ⟨_, HZ.out, hJs⟩⟩

set_option maxHeartbeats 1000000 in
/-- slices.Values lays its slice in a box that its closure holds. -/
theorem values_in (a : Option Addr) (len cap : Nat) (w : World) :
    Calls Tryz.prog 72 #[.slice a len cap] w fun e w' => e = .returned (.func (.func 105) #[] #[.pointer (some ⟨w.heap.size, 0, none⟩)]) ∧ w' = w.alloc (.cells #[.slice a len cap] 22) := by
  refine (callsIn_wide (n := 3)).1 ?_
  refine callsIn_of_wp Tryz.func72 rfl trivial ?_ rfl
  simp only [Tryz.ntmps72, List.size_toArray, List.length_cons, List.length_nil, Nat.reduceAdd, Nat.reduceSub, Array.replicate_succ, Array.replicate_zero, List.push_toArray, List.append_toArray, List.nil_append, List.cons_append]
  gi_wp2
  go_ret
  exact ⟨rfl, rfl⟩

theorem values_stops (F : Fence) (n : Nat) (h7 : F.fn 105) (hro : F.round = none) (hn : 1 ≤ n) (Bs n0 b off cap : Nat) (zs : List Int) (hmax : zs.length * 8 ≤ 140737488351232) (w : World) (hBs : Bs < w.heap.size) (hn0 : n0 ≤ w.heap.size) (hb : b < n0)
    (hc : w.cell? ⟨Bs, 0, none⟩ = some (.slice (some ⟨b, off, none⟩) zs.length cap)) (hI : ∀ j, j < zs.length → w.cell? ⟨b, off + j, none⟩ = some (.int .i64 (zs[j]?.getD 0))) :
    SeqStopsK F n Tryz.prog 105 #[.pointer (some ⟨Bs, 0, none⟩)] (fun x : Int => #[Value.int .i64 x]) (Below n0) (fun ys => ys = zs) (fun pre => ∃ k, k ≤ zs.length ∧ pre = come zs k) zs.length w := fun l J Jx W hW _ _ hY h0 =>
  values1_in F n h7 hro hn l Bs n0 b off cap zs hmax hb J Jx hY W ((hW.cell (p := ⟨Bs, 0, none⟩) hBs).trans hc) (fun j hj => ((hW.mono hn0).cell (p := ⟨b, off + j, none⟩) hb).trans (hI j hj)) h0

theorem infoInt : (Tryz.prog.info? 3).map (fun i => (i.zero, i.size, i.bytes)) = some (some (.int .i64 0), 1, 8) := by kernel_rfl

set_option maxRecDepth 100000 in
set_option maxHeartbeats 2000000 in
/-- slices.AppendSeq of nothing and slices.Values: a row of one's own with the same ints. -/
theorem appendSeq_in (Bs b off cap : Nat) (zs : List Int) (hmax : zs.length * 8 ≤ 140737488351232) (w : World) (hBs : Bs < w.heap.size) (hb : b < w.heap.size)
    (hcs : w.cell? ⟨Bs, 0, none⟩ = some (.slice (some ⟨b, off, none⟩) zs.length cap)) (hI : ∀ j, j < zs.length → w.cell? ⟨b, off + j, none⟩ = some (.int .i64 (zs[j]?.getD 0))) :
    Calls Tryz.prog 130 #[.slice none 0 0, .func (.func 105) #[] #[.pointer (some ⟨Bs, 0, none⟩)]] w fun e W' => ∃ v, e = .returned v ∧ W'.ownsRow w.heap.size 3 1 v zs.length (zs.map (Value.int .i64)) ∧ Below w.heap.size w W' := by
  refine (callsIn_wide (n := 6)).1 ?_
  have h1 : 1 ≤ 6 := by omega
  have hf : Fence.wide.fn 105 := trivial
  obtain ⟨i0, hi, hz0, hz1, hz2⟩ := info_parts infoInt
  refine callsIn_of_wp_marks Tryz.func130 rfl trivial ?_ rfl
  simp only [Tryz.ntmps130, List.size_toArray, List.length_cons, List.length_nil, Nat.reduceAdd, Nat.reduceSub, Array.replicate_succ, Array.replicate_zero, List.push_toArray, List.append_toArray, List.nil_append, List.cons_append]
  gi_wp2
  have bO := Boxed.new w 22 (.slice none 0 0)
  have hB0 : Below w.heap.size w (w.alloc (.cells #[.slice none 0 0] 22)) := (Below.refl _ w).alloc (Nat.le_refl _) _
  refine wpIn_rangeFunc_ownG rfl h1 (gf := 105) (lb := #[.pointer (some ⟨Bs, 0, none⟩)]) rfl hf (enters_of Tryz.func105 (by kernel_rfl) rfl)
    (values_stops Fence.wide _ hf rfl (by omega) Bs w.heap.size b off cap zs hmax _ (by simp; omega) (by simp) hb ((hB0.cell (p := ⟨Bs, 0, none⟩) hBs).trans hcs) (fun j hj => (hB0.cell (p := ⟨b, off + j, none⟩) hb).trans (hI j hj))) belowK_t (belowK_b (by simp)) (Below.refl _ _) (fun _ => rfl)
    (fun (pre : List Int) W => (∃ v, Boxed W w.heap.size 22 v ∧ W.ownsRow w.heap.size 3 1 v pre.length (pre.map (Value.int .i64)) ∧ True) ∧ Below w.heap.size w W)
    (fun _ _ _ => False)
    (OwnFrom.and (Own.from (holdsRow_own w.heap.size w.heap.size 22 3 1 (fun (pre : List Int) => pre.length) (fun pre => pre.map (Value.int .i64)) (fun _ _ => True)) _) (ownFrom_below (Nat.le_refl _) (by simp)))
    (fun _ _ _ _ _ hs _ _ => hs)
    ⟨⟨_, bO, World.ownsRow_nil _ _ _ _, trivial⟩, hB0⟩
    (fun x => { tmps := #[.slice none 0 0, .func (.func 105) #[] #[.pointer (some ⟨Bs, 0, none⟩)], .pointer (some ⟨w.heap.size, 0, none⟩), undef, .slice none 0 0, .int .i64 x, .func (.func 105) #[] #[.pointer (some ⟨Bs, 0, none⟩)], .int .i64 x, undef, undef, undef, undef, undef], defers := [] }) ?assign ?body ?done ?stop
  case assign =>
    intro l x W K hK
    gi_wp2
    exact hK
  case body =>
    rintro l pre x W ⟨⟨v, hv, hrow, -⟩, hB⟩ hlt
    have hc := hv.cell
    have hm1 : pre.length + 1 ≤ maxLen := by unfold maxLen; omega
    have hm2 : (pre.length + 1) * 8 ≤ 140737488355328 := by omega
    gi_wp2_with (gi_at_builtin; refine wpListIn_append_own _ rfl _ _ 22 rfl w.heap.size 3 i0 (.int .i64 0) 1 8 Tryz.underlying22 hi hz0 hz1 hz2 rfl (by decide) _ _ _ rfl (hrow.alloc _) ⟨W.heap.size, 0, none⟩ 1 1 [.int .i64 x] rfl rfl (cell_one_new _ _ _) (by simp [Value.oneCell']) hm1 hm2 (by have := hB.size; simp; omega) ?_; intro v' w1 hown' hgrow _; obtain ⟨g', cap', rfl⟩ := ownsRow_succ hown'; obtain ⟨hv1, hv2, hr2, hk2, hb2⟩ := hv.appended (by decide) hrow hB.size (Nat.le_refl _) hown' hgrow; have hc1 := hv1.cell; have hf1 := hv1.frozen)
    exact ⟨hk2.from _, hb2, ⟨_, hv2, by simpa using hr2, trivial⟩, hB.trans hb2⟩
  case done =>
    rintro D ys W hD rfl ⟨⟨v, hv, hrow, -⟩, hB⟩ hK
    have hc := hv.cell
    gi_wp2
    refine ⟨by simp, .inl ⟨_, _, rfl, run_takeDeferred hK, ?_⟩⟩
    exact ⟨_, results_tmp rfl _ _ _, v, rfl, ownsRow_putObj hrow _ hK rfl, hB.trans (belowK_b (w := w) (Nat.le_refl _) W D _ _ (by simp at hD; omega) hK rfl rfl)⟩
  case stop =>
    rintro D c pre W _ _ h _
    exact h.elim
end

set_option maxHeartbeats 1000000 in
theorem collect_in (Bs b off cap : Nat) (zs : List Int) (hmax : zs.length * 8 ≤ 140737488351232) (w : World) (hBs : Bs < w.heap.size) (hb : b < w.heap.size)
    (hcs : w.cell? ⟨Bs, 0, none⟩ = some (.slice (some ⟨b, off, none⟩) zs.length cap)) (hI : ∀ j, j < zs.length → w.cell? ⟨b, off + j, none⟩ = some (.int .i64 (zs[j]?.getD 0))) :
    Calls Tryz.prog 104 #[.func (.func 105) #[] #[.pointer (some ⟨Bs, 0, none⟩)]] w fun e W' => ∃ v, e = .returned v ∧ W'.ownsRow w.heap.size 3 1 v zs.length (zs.map (Value.int .i64)) ∧ Below w.heap.size w W' := by
  have H := Lib.hid (appendSeq_in Bs b off cap zs hmax w hBs hb hcs hI)
  clear hI hcs hmax
  go_enter Tryz.func104, Tryz.ntmps104
  go_wp2_with (go_at_call 130; refine H.out.mono ?_; rintro e w' ⟨v, rfl, hr, hB⟩)
  go_ret
  exact ⟨v, rfl, hr, hB⟩
end Go.Proofs.YtneafbhiencjlaaGreatDoor

namespace Go.Proofs
open Go.Shelf
def Tryz.laysSortI_ren : Go.Shelf.Ren := ⟨fun | 5 => 92 | 8 => 84 | 7 => 123 | 19 => 119 | 20 => 120 | 10 => 145 | 11 => 146 | 12 => 147 | 13 => 148 | 14 => 149 | 15 => 150 | 16 => 151 | 17 => 152 | 18 => 153 | 30 => 158 | 31 => 141 | 32 => 142 | 33 => 159 | 34 => 160 | 35 => 121 | 40 => 162 | n => n, fun | 23 => 22 | 25 => 3 | 3 => 3 | 32 => 128 | 22 => 22 | 0 => 0 | 44 => 160 | 46 => 162 | 4 => 4 | 36 => 153 | 35 => 152 | 41 => 157 | 5 => 5 | 9 => 9 | 53 => 176 | 57 => 180 | 63 => 189 | 64 => 190 | n => n, fun | n => n⟩
theorem Tryz.laysSortI : Go.Proofs.SlLaysM.n5 Tryz.prog Tryz.laysSortI_ren := {
  mixed := by kernel_rfl
  f5 := ⟨Tryz.f92.name, by decide, Tryz.func92.trans (congrArg some (by kernel_rfl))⟩
  f7 := ⟨Tryz.f123.name, by decide, Tryz.func123.trans (congrArg some (by kernel_rfl))⟩
  f8 := Tryz.func84.trans (congrArg some (by kernel_rfl))
  f10 := ⟨Tryz.f145.name, by decide, Tryz.func145.trans (congrArg some (by kernel_rfl))⟩
  f11 := ⟨Tryz.f146.name, by decide, Tryz.func146.trans (congrArg some (by kernel_rfl))⟩
  f12 := ⟨Tryz.f147.name, by decide, Tryz.func147.trans (congrArg some (by kernel_rfl))⟩
  f13 := ⟨Tryz.f148.name, by decide, Tryz.func148.trans (congrArg some (by kernel_rfl))⟩
  f14 := ⟨Tryz.f149.name, by decide, Tryz.func149.trans (congrArg some (by kernel_rfl))⟩
  f15 := ⟨Tryz.f150.name, by decide, Tryz.func150.trans (congrArg some (by kernel_rfl))⟩
  f16 := ⟨Tryz.f151.name, by decide, Tryz.func151.trans (congrArg some (by kernel_rfl))⟩
  f17 := ⟨Tryz.f152.name, by decide, Tryz.func152.trans (congrArg some (by kernel_rfl))⟩
  f18 := ⟨Tryz.f153.name, by decide, Tryz.func153.trans (congrArg some (by kernel_rfl))⟩
  f19 := Tryz.func119.trans (congrArg some (by kernel_rfl))
  f20 := Tryz.func120.trans (congrArg some (by kernel_rfl))
  f30 := ⟨Tryz.f158.name, by decide, Tryz.func158.trans (congrArg some (by kernel_rfl))⟩
  f31 := Tryz.func141.trans (congrArg some (by kernel_rfl))
  f32 := Tryz.func142.trans (congrArg some (by kernel_rfl))
  f33 := ⟨Tryz.f159.name, by decide, Tryz.func159.trans (congrArg some (by kernel_rfl))⟩
  f34 := ⟨Tryz.f160.name, by decide, Tryz.func160.trans (congrArg some (by kernel_rfl))⟩
  f35 := ⟨Tryz.f121.name, by decide, Tryz.func121.trans (congrArg some (by kernel_rfl))⟩
  f40 := ⟨Tryz.f162.name, by decide, Tryz.func162.trans (congrArg some (by kernel_rfl))⟩
  t0 := Tryz.underlying0
  a0 := Tryz.isAgg0
  z0 := Tryz.sizeOf0
  v0 := Tryz.zeroValue0
  t3 := Tryz.underlying3
  a3 := Tryz.isAgg3
  z3 := Tryz.sizeOf3
  v3 := Tryz.zeroValue3
  t4 := Tryz.underlying4
  a4 := Tryz.isAgg4
  z4 := Tryz.sizeOf4
  v4 := Tryz.zeroValue4
  t5 := Tryz.underlying5
  a5 := Tryz.isAgg5
  z5 := Tryz.sizeOf5
  v5 := Tryz.zeroValue5
  t9 := Tryz.underlying9
  a9 := Tryz.isAgg9
  z9 := Tryz.sizeOf9
  v9 := Tryz.zeroValue9
  t22 := Tryz.underlying22
  a22 := Tryz.isAgg22
  z22 := Tryz.sizeOf22
  v22 := Tryz.zeroValue22
  t23 := Tryz.underlying22
  a23 := Tryz.isAgg22
  z23 := Tryz.sizeOf22
  v23 := Tryz.zeroValue22
  t25 := Tryz.underlying3
  a25 := Tryz.isAgg3
  z25 := Tryz.sizeOf3
  v25 := Tryz.zeroValue3
  t32 := Tryz.underlying128
  a32 := Tryz.isAgg128
  z32 := Tryz.sizeOf128
  v32 := Tryz.zeroValue128
  t35 := Tryz.underlying152
  a35 := Tryz.isAgg152
  z35 := Tryz.sizeOf152
  v35 := Tryz.zeroValue152
  t36 := Tryz.underlying153
  a36 := Tryz.isAgg153
  z36 := Tryz.sizeOf153
  v36 := Tryz.zeroValue153
  t41 := Tryz.underlying157
  a41 := Tryz.isAgg157
  z41 := Tryz.sizeOf157
  v41 := Tryz.zeroValue157
  t44 := Tryz.underlying160
  a44 := Tryz.isAgg160
  z44 := Tryz.sizeOf160
  v44 := Tryz.zeroValue160
  t46 := Tryz.underlying162
  a46 := Tryz.isAgg162
  z46 := Tryz.sizeOf162
  v46 := Tryz.zeroValue162
  t53 := Tryz.underlying176
  a53 := Tryz.isAgg176
  z53 := Tryz.sizeOf176
  v53 := Tryz.zeroValue176
  t57 := Tryz.underlying180
  a57 := Tryz.isAgg180
  z57 := Tryz.sizeOf180
  v57 := Tryz.zeroValue180
  t63 := Tryz.underlying189
  a63 := Tryz.isAgg189
  z63 := Tryz.sizeOf189
  v63 := Tryz.zeroValue189
  t64 := Tryz.underlying190
  a64 := Tryz.isAgg190
  z64 := Tryz.sizeOf190
  v64 := Tryz.zeroValue190 }
def Tryz.laysCompactI_ren : Go.Shelf.Ren := ⟨fun | 43 => 70 | n => n, fun | 22 => 22 | 23 => 3 | 3 => 3 | 4 => 4 | 0 => 0 | n => n, fun | n => n⟩
theorem Tryz.laysCompactI : Go.Proofs.SlLaysN.n43 Tryz.prog Tryz.laysCompactI_ren := {
  mixed := by kernel_rfl
  f43 := ⟨Tryz.f70.name, by decide, Tryz.func70.trans (congrArg some (by kernel_rfl))⟩
  t0 := Tryz.underlying0
  a0 := Tryz.isAgg0
  z0 := Tryz.sizeOf0
  v0 := Tryz.zeroValue0
  t3 := Tryz.underlying3
  a3 := Tryz.isAgg3
  z3 := Tryz.sizeOf3
  v3 := Tryz.zeroValue3
  t4 := Tryz.underlying4
  a4 := Tryz.isAgg4
  z4 := Tryz.sizeOf4
  v4 := Tryz.zeroValue4
  t22 := Tryz.underlying22
  a22 := Tryz.isAgg22
  z22 := Tryz.sizeOf22
  v22 := Tryz.zeroValue22
  t23 := Tryz.underlying3
  a23 := Tryz.isAgg3
  z23 := Tryz.sizeOf3
  v23 := Tryz.zeroValue3
  i23 := by kernel_rfl }
def Tryz.laysSortP_ren : Go.Shelf.Ren := ⟨fun | 6 => 76 | 15 => 84 | 14 => 107 | 28 => 119 | 29 => 120 | 20 => 131 | 21 => 132 | 22 => 133 | 23 => 134 | 24 => 135 | 25 => 136 | 26 => 137 | 27 => 138 | 46 => 154 | 47 => 141 | 48 => 142 | 49 => 155 | 50 => 156 | 57 => 161 | n => n, fun | 22 => 81 | 24 => 110 | 25 => 122 | 3 => 3 | 39 => 128 | 0 => 0 | 53 => 160 | 55 => 162 | 4 => 4 | 46 => 153 | 45 => 152 | 50 => 157 | 5 => 5 | 9 => 9 | 66 => 176 | 70 => 180 | 76 => 189 | 77 => 190 | n => n, fun | n => n⟩
theorem Tryz.laysSortP : Go.Proofs.SlLaysF0.n6 Tryz.prog Tryz.laysSortP_ren := {
  mixed := by kernel_rfl
  f6 := ⟨Tryz.f76.name, by decide, Tryz.func76.trans (congrArg some (by kernel_rfl))⟩
  f14 := ⟨Tryz.f107.name, by decide, Tryz.func107.trans (congrArg some (by kernel_rfl))⟩
  f15 := Tryz.func84.trans (congrArg some (by kernel_rfl))
  f20 := ⟨Tryz.f131.name, by decide, Tryz.func131.trans (congrArg some (by kernel_rfl))⟩
  f21 := ⟨Tryz.f132.name, by decide, Tryz.func132.trans (congrArg some (by kernel_rfl))⟩
  f22 := ⟨Tryz.f133.name, by decide, Tryz.func133.trans (congrArg some (by kernel_rfl))⟩
  f23 := ⟨Tryz.f134.name, by decide, Tryz.func134.trans (congrArg some (by kernel_rfl))⟩
  f24 := ⟨Tryz.f135.name, by decide, Tryz.func135.trans (congrArg some (by kernel_rfl))⟩
  f25 := ⟨Tryz.f136.name, by decide, Tryz.func136.trans (congrArg some (by kernel_rfl))⟩
  f26 := ⟨Tryz.f137.name, by decide, Tryz.func137.trans (congrArg some (by kernel_rfl))⟩
  f27 := ⟨Tryz.f138.name, by decide, Tryz.func138.trans (congrArg some (by kernel_rfl))⟩
  f28 := Tryz.func119.trans (congrArg some (by kernel_rfl))
  f29 := Tryz.func120.trans (congrArg some (by kernel_rfl))
  f46 := ⟨Tryz.f154.name, by decide, Tryz.func154.trans (congrArg some (by kernel_rfl))⟩
  f47 := Tryz.func141.trans (congrArg some (by kernel_rfl))
  f48 := Tryz.func142.trans (congrArg some (by kernel_rfl))
  f49 := ⟨Tryz.f155.name, by decide, Tryz.func155.trans (congrArg some (by kernel_rfl))⟩
  f50 := ⟨Tryz.f156.name, by decide, Tryz.func156.trans (congrArg some (by kernel_rfl))⟩
  f57 := ⟨Tryz.f161.name, by decide, Tryz.func161.trans (congrArg some (by kernel_rfl))⟩
  t0 := Tryz.underlying0
  a0 := Tryz.isAgg0
  z0 := Tryz.sizeOf0
  v0 := Tryz.zeroValue0
  t3 := Tryz.underlying3
  a3 := Tryz.isAgg3
  z3 := Tryz.sizeOf3
  v3 := Tryz.zeroValue3
  t4 := Tryz.underlying4
  a4 := Tryz.isAgg4
  z4 := Tryz.sizeOf4
  v4 := Tryz.zeroValue4
  t5 := Tryz.underlying5
  a5 := Tryz.isAgg5
  z5 := Tryz.sizeOf5
  v5 := Tryz.zeroValue5
  t9 := Tryz.underlying9
  a9 := Tryz.isAgg9
  z9 := Tryz.sizeOf9
  v9 := Tryz.zeroValue9
  t22 := Tryz.underlying81
  a22 := Tryz.isAgg81
  z22 := Tryz.sizeOf81
  v22 := Tryz.zeroValue81
  t25 := Tryz.underlying122
  a25 := Tryz.isAgg122
  z25 := Tryz.sizeOf122
  v25 := Tryz.zeroValue122
  t39 := Tryz.underlying128
  a39 := Tryz.isAgg128
  z39 := Tryz.sizeOf128
  v39 := Tryz.zeroValue128
  t45 := Tryz.underlying152
  a45 := Tryz.isAgg152
  z45 := Tryz.sizeOf152
  v45 := Tryz.zeroValue152
  t46 := Tryz.underlying153
  a46 := Tryz.isAgg153
  z46 := Tryz.sizeOf153
  v46 := Tryz.zeroValue153
  t50 := Tryz.underlying157
  a50 := Tryz.isAgg157
  z50 := Tryz.sizeOf157
  v50 := Tryz.zeroValue157
  t53 := Tryz.underlying160
  a53 := Tryz.isAgg160
  z53 := Tryz.sizeOf160
  v53 := Tryz.zeroValue160
  t55 := Tryz.underlying162
  a55 := Tryz.isAgg162
  z55 := Tryz.sizeOf162
  v55 := Tryz.zeroValue162
  t66 := Tryz.underlying176
  a66 := Tryz.isAgg176
  z66 := Tryz.sizeOf176
  v66 := Tryz.zeroValue176
  t70 := Tryz.underlying180
  a70 := Tryz.isAgg180
  z70 := Tryz.sizeOf180
  v70 := Tryz.zeroValue180
  t76 := Tryz.underlying189
  a76 := Tryz.isAgg189
  z76 := Tryz.sizeOf189
  v76 := Tryz.zeroValue189
  t77 := Tryz.underlying190
  a77 := Tryz.isAgg190
  z77 := Tryz.sizeOf190
  v77 := Tryz.zeroValue190 }
end Go.Proofs

namespace Go.Proofs.YtneafbhiencjlaaGreatDoor
set_option linter.unusedVariables false
set_option linter.unusedSimpArgs false
open Go.RowKit Go.Sort

theorem srt_nil : ([] : List Int).mergeSort (fun x y => decide (x ≤ y)) = [] := by simp [List.mergeSort]
/-- The cells of ints. -/
def clI (zs : List Int) : List Value := zs.map (Value.int .i64)
theorem clI_app (zs : List Int) (x : Int) : clI (zs ++ [x]) = clI zs ++ [.int .i64 x] := by simp [clI]
theorem clI_get (zs : List Int) {i : Nat} (hi : i < zs.length) : (clI zs)[i]? = some (.int .i64 (gi zs i)) := by simp [clI, gi, hi]
theorem ints_own {w : World} {base c : Nat} {a : Option Addr} {zs : List Int} {T : TypeId} (h : w.ownsRow base T 1 (.slice a zs.length c) zs.length (clI zs)) (hn : zs.length ≤ 9223372036854775807) (hf : ∀ j, j < zs.length → I64 (gi zs j)) : IntsS w a zs := by
  refine ⟨hn, hf, ?_⟩
  rcases h.2 with ⟨h1, h2⟩ | ⟨g2, c2, cur, h1, _⟩
  · exact ⟨0, 0, (fun hne => absurd (List.eq_nil_of_length_eq_zero h2) hne), fun i hi => by omega⟩
  · obtain ⟨rfl, rfl⟩ : a = some ⟨g2, 0, none⟩ ∧ c = c2 := by simpa using h1
    refine ⟨g2, 0, fun _ => rfl, fun i hi => ?_⟩
    rw [Nat.zero_add, World.ownsRow.cellAt h i (by omega)]; exact clI_get zs hi
/-- The ints in order. -/
def srt (zs : List Int) : List Int := zs.mergeSort fun x y => decide (x ≤ y)
theorem srt_len (zs : List Int) : (srt zs).length = zs.length := List.length_mergeSort zs
theorem srt_perm (zs : List Int) : (srt zs).Perm zs := List.mergeSort_perm zs _
theorem sort_own (base c : Nat) (a : Option Addr) (zs : List Int) (w : World) (h : w.ownsRow base 3 1 (.slice a zs.length c) zs.length (clI zs)) (hn : zs.length ≤ 100000000) :
    Calls Tryz.prog 92 #[.slice a zs.length c] w fun e w' => e = .returned (.tuple #[]) ∧ w'.ownsRow base 3 1 (.slice a zs.length c) zs.length (clI (srt zs)) ∧ (base ≤ w.heap.size → Below base w w') := by
  rcases h.2 with ⟨h1, h2⟩ | ⟨g, cap, cur, h1, hbase, hgb, r1, r2, r3, r4⟩
  · obtain rfl : zs = [] := List.eq_nil_of_length_eq_zero h2
    have := AnyM.slices_Sort_int_none Tryz.laysSortI a c w
    change Calls Tryz.prog 92 _ _ _ at this
    refine this.mono fun e w' ⟨he, hw⟩ => ⟨he, ?_, fun _ => ?_⟩
    · subst hw; unfold srt; rw [srt_nil]; exact h
    · subst hw; exact Below.refl _ _
  · obtain ⟨rfl, rfl⟩ : a = some ⟨g, 0, none⟩ ∧ c = cap := by simpa using h1
    have hgl : g < w.heap.size := (Array.getElem?_eq_some_iff.1 hgb).1
    have hH : Holds (Value.int .i64) w g 0 zs.toArray := holds_of_blockI hgb (by simpa [clI] using r4)
    have := AnyM.slices_Sort_int Tryz.laysSortI g 0 c zs w hH hgl (by omega)
    change Calls Tryz.prog 92 _ _ _ at this
    refine this.mono fun e w' ⟨he, n, os, hw⟩ => ⟨he, ?_, fun hb => ?_⟩
    · subst hw
      exact ownsRow_sortedI (ts := srt zs) (srt_len zs) hbase hgb r1 r2 r3
    · subst hw
      exact (Below.refl base w).grown (grownBy_sortedI _) hb (fun k e => by cases e; exact hbase)
theorem grow_none (w : World) : grow w #[] = w := by unfold grow; rw [Array.append_empty]
theorem cmp_len (zs : List Int) : (Lib.compact zs).length ≤ zs.length := by
  unfold Lib.compact Lib.compactUpTo
  rw [List.length_map]
  exact Nat.le_trans (List.length_filter_le _ _) (by simp)
theorem compact_own (base c : Nat) (a : Option Addr) (zs : List Int) (w : World) (h : w.ownsRow base 3 1 (.slice a zs.length c) zs.length (clI zs)) (hn : zs.length ≤ 100000000) :
    Calls Tryz.prog 70 #[.slice a zs.length c] w fun e w' => e = .returned (.slice a (Lib.compact zs).length c) ∧ w'.ownsRow base 3 1 (.slice a (Lib.compact zs).length c) (Lib.compact zs).length (clI (Lib.compact zs)) ∧ (base ≤ w.heap.size → Below base w w') := by
  have hl := cmp_len zs
  rcases h.2 with ⟨h1, h2⟩ | ⟨g, cap, cur, h1, hbase, hgb, r1, r2, r3, r4⟩
  · obtain rfl : zs = [] := List.eq_nil_of_length_eq_zero h2
    have := AnyG.slices_Compact_int_empty Tryz.laysCompactI a c w
    change Calls Tryz.prog 70 _ _ _ at this
    refine this.mono fun e w' ⟨he, hw⟩ => ⟨he, ?_, fun _ => ?_⟩
    · subst hw; exact h
    · subst hw; exact Below.refl _ _
  · obtain ⟨rfl, rfl⟩ : a = some ⟨g, 0, none⟩ ∧ c = cap := by simpa using h1
    have hgl : g < w.heap.size := (Array.getElem?_eq_some_iff.1 hgb).1
    have hH : Holds (Value.int .i64) w g 0 zs.toArray := holds_of_blockI hgb (by simpa [clI] using r4)
    have := AnyG.slices_Compact_int Tryz.laysCompactI g 0 c zs w hH (by omega) r1
    change Calls Tryz.prog 70 _ _ _ at this
    refine this.mono fun e w' ⟨he, q, hw⟩ => ⟨he, ?_, fun hb => ?_⟩
    · have hg0 : w' = grow (putRow (Value.int .i64) (Sort.ahead w q) g 0 (Lib.compact zs ++ List.replicate (zs.length - (Lib.compact zs).length) 0).toArray) #[] := by rw [hw]; exact (grow_none _).symm
      rw [hg0]
      have ht := take_putCellsI cur (Lib.compact zs ++ List.replicate (zs.length - (Lib.compact zs).length) 0) (by simp; omega)
      refine ⟨by simp [clI], .inr ⟨g, c, _, rfl, hbase, heap_sortedI _ hgb, by omega, r2, by simp [putCells, r3], ?_⟩⟩
      have := congrArg (List.take (Lib.compact zs).length) ht
      rw [List.take_take, Nat.min_eq_left (by simp), List.map_append, List.take_left' (by simp)] at this
      rw [Nat.mul_one]; exact this
    · have hg0 : w' = grow (putRow (Value.int .i64) (Sort.ahead w q) g 0 (Lib.compact zs ++ List.replicate (zs.length - (Lib.compact zs).length) 0).toArray) #[] := by rw [hw]; exact (grow_none _).symm
      rw [hg0]
      exact (Below.refl base w).grown (grownBy_sortedI _) hb (fun k e => by cases e; exact hbase)

set_option maxHeartbeats 1000000 in
/-- slices.Sorted of slices.Values. -/
theorem sorted_in (Bs b off cap : Nat) (zs : List Int) (hmax : zs.length ≤ 100000000) (w : World) (hBs : Bs < w.heap.size) (hb : b < w.heap.size)
    (hcs : w.cell? ⟨Bs, 0, none⟩ = some (.slice (some ⟨b, off, none⟩) zs.length cap)) (hI : ∀ j, j < zs.length → w.cell? ⟨b, off + j, none⟩ = some (.int .i64 (zs[j]?.getD 0))) :
    Calls Tryz.prog 71 #[.func (.func 105) #[] #[.pointer (some ⟨Bs, 0, none⟩)]] w fun e W' => ∃ a c, e = .returned (.slice a zs.length c) ∧ W'.ownsRow w.heap.size 3 1 (.slice a zs.length c) zs.length (clI (srt zs)) ∧ Below w.heap.size w W' := by
  have H := Lib.hid (collect_in Bs b off cap zs (by omega) w hBs hb hcs hI)
  clear hI hcs
  go_enter Tryz.func71, Tryz.ntmps71
  go_wp2_with (go_at_call 104; refine H.out.mono ?_; rintro e w' ⟨v, rfl, hr, hB⟩; obtain ⟨a, c, rfl⟩ : ∃ a c, v = .slice a zs.length c := (by rcases hr.2 with ⟨h1, h2⟩ | ⟨g, cp, cur, h1, _⟩; exact ⟨none, 0, by rw [h1, h2]⟩; exact ⟨_, _, h1⟩); have HS := Lib.hid (sort_own w.heap.size c a zs w' hr hmax); have hz := hB.size; clear hr)
  go_wp2_with (go_at_call 92; refine HS.out.mono ?_; rintro e w2 ⟨rfl, hr2, hb2⟩)
  go_ret
  exact ⟨a, c, rfl, hr2, hB.trans (hb2 hz)⟩
end Go.Proofs.YtneafbhiencjlaaGreatDoor
