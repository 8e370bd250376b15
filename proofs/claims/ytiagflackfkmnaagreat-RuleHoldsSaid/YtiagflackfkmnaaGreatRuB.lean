/-
  ValidLine of package rule and of its reference. By an AI agent.
-/
import Derived.Test.YtiagflackfkmnaaGreatRuA
import Derived.Deep.RegionHeld3
import Derived.BigQuiet
namespace Go.Proofs.YtiagflackfkmnaaGreat
set_option linter.unusedVariables false
set_option linter.unusedSimpArgs false
open Go.RowKit

theorem pos_neR {i : Nat} {α : Type} {l : List α} (hi : i < l.length) : l ≠ [] := by rintro rfl; simp at hi
theorem below_onR {w W W' : World} (h : Below w.heap.size w W) (hb : Below W.heap.size W W') : Below w.heap.size w W' := h.trans (hb.mono h.size)
/-- The junction ahead of number k, or 0. -/
def prvR (js : List Int) : Nat → Int
  | 0 => 0
  | k + 1 => gi js k
def jOk (L : Int) (js : List Int) (k : Nat) : Bool := decide (prvR js k < gi js k) && decide (gi js k < L)
/-- Is a line valid? -/
def lineB (L : Int) (js : List Int) : Bool := btw L 1 100000 && decide (js.length ≤ 50) && !(anyK (fun k => !(jOk L js k)) js.length)
theorem line_bad {L : Int} {js : List Int} {k : Nat} (hk : k < js.length) (h : jOk L js k = false) : lineB L js = false := by
  unfold lineB; rw [anyK_true (j := k) (by simp [h]) _ hk]; simp
theorem line_end {L : Int} {js : List Int} (h : ∀ k, k < js.length → jOk L js k = true) : lineB L js = (btw L 1 100000 && decide (js.length ≤ 50)) := by
  unfold lineB; rw [(anyK_iff _).2 (fun k hk => by simp [h k hk])]; simp
theorem jOk_pos {L : Int} {js : List Int} : ∀ k, (∀ j, j < k → jOk L js j = true) → 0 ≤ prvR js k
  | 0, _ => Int.le_refl _
  | k + 1, h => by
    have h1 := h k (by omega)
    have h2 := jOk_pos k fun j hj => h j (by omega)
    unfold jOk at h1
    rw [Bool.and_eq_true, decide_eq_true_eq] at h1
    show 0 ≤ gi js k
    omega
set_option maxRecDepth 100000 in
set_option maxHeartbeats 1000000 in
theorem ValidLine_r (L : Int) (a : Option Addr) (js : List Int) (ca : Nat) (w : World) (hI : IntsS w a js) :
    Calls Tryz.prog 76 #[.agg #[.int .i64 L, .slice a js.length ca]] w fun e w' => e = .returned (.bool (lineB L js)) ∧ Below w.heap.size w w' := by
  obtain ⟨hlen, -, blk, off, hadr, hc⟩ := hI
  have HC := Lib.hid hc
  have HL : Hid (0 < js.length → a = some ⟨blk, off, none⟩) := Lib.hid fun h => hadr (pos_neR (i := 0) h)
  clear hc hadr
  cases hw : btw L 1 100000 with
  | false =>
    have HW := Lib.hid hw
    have HR : Hid (lineB L js = false) := Lib.hid (by unfold lineB; rw [hw]; rfl)
    clear hw HC HL
    go_enter Tryz.func76, Tryz.ntmps76
    go_wp2_with fail
    obtain ⟨wB, hwB⟩ : ∃ wB, w.alloc (.cells #[.int .i64 L, .slice a js.length ca] 24) = wB := ⟨_, rfl⟩
    have hb : Below w.heap.size w wB := by rw [← hwB]; exact (Below.refl _ _).alloc (Nat.le_refl _) _
    have p0 : wB.cell? ⟨w.heap.size, 0, none⟩ = some (.int .i64 L) := by rw [← hwB]; simp [go_sem]
    have p1 : wB.cell? ⟨w.heap.size, 1, none⟩ = some (.slice a js.length ca) := by rw [← hwB]; simp [go_sem]
    rw [hwB]
    clear hwB
    go_wp2_with (go_at_call 79; refine (within_r _ _ _ _).mono ?_; rintro e w7 ⟨rfl, rfl⟩; rw [HW.out])
    go_ret
    exact ⟨by rw [HR.out]; rfl, hb⟩
  | true =>
    have HW := Lib.hid hw
    by_cases h50 : js.length ≤ 50
    · have d50 : decide (50 < (js.length : Int)) = false := decide_eq_false (by omega)
      have HE : Hid ((∀ k, k < js.length → jOk L js k = true) → lineB L js = true) := Lib.hid fun h => by rw [line_end h, hw, decide_eq_true h50]; rfl
      have HB : Hid (∀ k, k < js.length → jOk L js k = false → lineB L js = false) := Lib.hid fun k hk h => line_bad hk h
      have HP : Hid (∀ k, prvR js (k + 1) = gi js k) := Lib.hid fun k => rfl
      clear hw
      go_enter Tryz.func76, Tryz.ntmps76
      go_wp2_with fail
      obtain ⟨wB, hwB⟩ : ∃ wB, w.alloc (.cells #[.int .i64 L, .slice a js.length ca] 24) = wB := ⟨_, rfl⟩
      have hb : Below w.heap.size w wB := by rw [← hwB]; exact (Below.refl _ _).alloc (Nat.le_refl _) _
      have p0 : wB.cell? ⟨w.heap.size, 0, none⟩ = some (.int .i64 L) := by rw [← hwB]; simp [go_sem]
      have p1 : wB.cell? ⟨w.heap.size, 1, none⟩ = some (.slice a js.length ca) := by rw [← hwB]; simp [go_sem]
      rw [hwB]
      clear hwB
      go_wp2_with (go_at_call 79; refine (within_r _ _ _ _).mono ?_; rintro e w7 ⟨rfl, rfl⟩; rw [HW.out])
      go_loopw [3, 19] (fun p i wr => ∃ k : Nat, k ≤ js.length ∧ i = .int .i64 k ∧ p = .int .i64 (prvR js k) ∧ Hid (∀ j, j < k → jOk L js j = true) ∧ Below wB.heap.size wB wr) (fun _ i _ => js.length - (intOf i).toNat)
      case atStart => exact ⟨0, Nat.zero_le _, rfl, rfl, Lib.hid fun j hj => absurd hj (Nat.not_lt_zero _), Below.refl _ _⟩
      case round =>
        obtain ⟨k, hk, rfl, rfl, HN, hbr⟩ := hrel
        have p0 := cell_below p0 hbr
        have p1 := cell_below p1 hbr
        by_cases hlt : k < js.length
        · obtain rfl := HL.out (by omega)
          have c0 := cell_below (HC.out k hlt) (below_onR hb hbr)
          have hmeas : js.length - (k + 1) < js.length - k := by omega
          have HS : Hid (jOk L js k = true → ∀ j, j < k + 1 → jOk L js j = true) := Lib.hid fun h j hj => by
            by_cases e : j = k
            · subst e; exact h
            · exact HN.out j (by omega)
          have HBk := Lib.hid (HB.out k hlt)
          have HPk := Lib.hid (HP.out k)
          have HJ : Hid (jOk L js k = (decide (prvR js k < gi js k) && decide (gi js k < L))) := Lib.hid rfl
          clear HC HL HE HB HP HN HW
          generalize prvR js k = p at *
          generalize gi js k = x at *
          by_cases h1 : p < x
          · by_cases h2 : x < L
            · have HSk := Lib.hid (HS.out (by rw [HJ.out, decide_eq_true h1, decide_eq_true h2]; rfl))
              clear HS HBk HJ
              go_wp2_with fail
              go_roundw
              case rel => exact ⟨k + 1, by omega, by go_num, by rw [HPk.out], HSk, hbr⟩
              case measure => first | (simp [intOf]; exact hmeas) | simpa [intOf] using hmeas
            · have HR := Lib.hid (HBk.out (by rw [HJ.out, decide_eq_false h2, Bool.and_false]))
              clear HS HBk HJ
              go_wp2_with fail
              go_ret
              exact ⟨by rw [HR.out]; rfl, below_onR hb hbr⟩
          · have HR := Lib.hid (HBk.out (by rw [HJ.out, decide_eq_false h1, Bool.false_and]))
            clear HS HBk HJ
            go_wp2_with fail
            go_ret
            exact ⟨by rw [HR.out]; rfl, below_onR hb hbr⟩
        · obtain rfl : k = js.length := by omega
          have HR := Lib.hid (HE.out HN.out)
          clear HC HL HE HB HP HN HW
          go_wp2_with fail
          go_ret
          exact ⟨by rw [HR.out]; rfl, below_onR hb hbr⟩
    · have d50 : decide (50 < (js.length : Int)) = true := decide_eq_true (by omega)
      have HR : Hid (lineB L js = false) := Lib.hid (by unfold lineB; rw [decide_eq_false h50, Bool.and_false, Bool.false_and])
      clear hw HC HL
      go_enter Tryz.func76, Tryz.ntmps76
      go_wp2_with fail
      obtain ⟨wB, hwB⟩ : ∃ wB, w.alloc (.cells #[.int .i64 L, .slice a js.length ca] 24) = wB := ⟨_, rfl⟩
      have hb : Below w.heap.size w wB := by rw [← hwB]; exact (Below.refl _ _).alloc (Nat.le_refl _) _
      have p0 : wB.cell? ⟨w.heap.size, 0, none⟩ = some (.int .i64 L) := by rw [← hwB]; simp [go_sem]
      have p1 : wB.cell? ⟨w.heap.size, 1, none⟩ = some (.slice a js.length ca) := by rw [← hwB]; simp [go_sem]
      rw [hwB]
      clear hwB
      go_wp2_with (go_at_call 79; refine (within_r _ _ _ _).mono ?_; rintro e w7 ⟨rfl, rfl⟩; rw [HW.out])
      go_ret
      exact ⟨by rw [HR.out]; rfl, hb⟩
set_option maxRecDepth 100000 in
set_option maxHeartbeats 1000000 in
theorem refValidLine_r (L : Int) (a : Option Addr) (js : List Int) (ca : Nat) (w : World) (hI : IntsS w a js) :
    Calls Tryz.prog 41 #[.agg #[.int .i64 L, .slice a js.length ca]] w fun e w' => e = .returned (.bool (lineB L js)) ∧ Below w.heap.size w w' := by
  obtain ⟨hlen, -, blk, off, hadr, hc⟩ := hI
  have HC := Lib.hid hc
  have HL : Hid (0 < js.length → a = some ⟨blk, off, none⟩) := Lib.hid fun h => hadr (pos_neR (i := 0) h)
  have HE : Hid ((∀ k, k < js.length → jOk L js k = true) → lineB L js = (btw L 1 100000 && decide (js.length ≤ 50))) := Lib.hid fun h => line_end h
  have HB : Hid (∀ k, k < js.length → jOk L js k = false → lineB L js = false) := Lib.hid fun k hk h => line_bad hk h
  have HPos : Hid (∀ k, (∀ j, j < k → jOk L js j = true) → 0 ≤ prvR js k) := Lib.hid fun k h => jOk_pos k h
  clear hc hadr
  go_enter Tryz.func41, Tryz.ntmps41
  go_wp2_with fail
  obtain ⟨wB, hwB⟩ : ∃ wB, w.alloc (.cells #[.int .i64 L, .slice a js.length ca] 24) = wB := ⟨_, rfl⟩
  have hb : Below w.heap.size w wB := by rw [← hwB]; exact (Below.refl _ _).alloc (Nat.le_refl _) _
  have p0 : wB.cell? ⟨w.heap.size, 0, none⟩ = some (.int .i64 L) := by rw [← hwB]; simp [go_sem]
  have p1 : wB.cell? ⟨w.heap.size, 1, none⟩ = some (.slice a js.length ca) := by rw [← hwB]; simp [go_sem]
  rw [hwB]
  clear hwB
  go_loopw [3] (fun i wr => ∃ k : Nat, k ≤ js.length ∧ i = .int .i64 k ∧ Hid (∀ j, j < k → jOk L js j = true) ∧ Below wB.heap.size wB wr) (fun i _ => js.length - (intOf i).toNat)
  case atStart => exact ⟨0, Nat.zero_le _, rfl, Lib.hid fun j hj => absurd hj (Nat.not_lt_zero _), Below.refl _ _⟩
  case round =>
    obtain ⟨k, hk, rfl, HN, hbr⟩ := hrel
    have p0 := cell_below p0 hbr
    have p1 := cell_below p1 hbr
    by_cases hlt : k < js.length
    · obtain rfl := HL.out (by omega)
      have c0 := cell_below (HC.out k hlt) (below_onR hb hbr)
      have hkl : (k : Int) < (js.length : Int) := by omega
      have hk0 : (0 : Int) ≤ (k : Int) := by omega
      have hmeas : js.length - (k + 1) < js.length - k := by omega
      have HS : Hid (jOk L js k = true → ∀ j, j < k + 1 → jOk L js j = true) := Lib.hid fun h j hj => by
        by_cases e : j = k
        · subst e; exact h
        · exact HN.out j (by omega)
      have HBk := Lib.hid (HB.out k hlt)
      have hpos := HPos.out k HN.out
      by_cases hk1 : k = 0
      · subst hk1
        have HJ : Hid (jOk L js 0 = (decide (0 < gi js 0) && decide (gi js 0 < L))) := Lib.hid rfl
        have c0 : wr.cell? ⟨blk, off, none⟩ = some (.int .i64 (gi js 0)) := c0
        clear HC HL HE HB HPos HN hpos
        generalize gi js 0 = x at *
        by_cases h1 : x ≤ 0
        · have d1 : decide (x ≤ 0) = true := decide_eq_true h1
          have HR := Lib.hid (HBk.out (by rw [HJ.out, decide_eq_false (by omega), Bool.false_and]))
          clear HS HBk HJ
          go_wp2_with fail
          go_quiet (fail)
          go_wp2_with fail
          go_ret
          exact ⟨by rw [HR.out]; rfl, below_onR hb (below_drewN hbr _)⟩

        · have d1 : decide (x ≤ 0) = false := decide_eq_false h1
          by_cases h2 : L ≤ x
          · have d2 : decide (L ≤ x) = true := decide_eq_true h2
            have HR := Lib.hid (HBk.out (by rw [HJ.out, decide_eq_false (by omega : ¬ x < L), Bool.and_false]))
            clear HS HBk HJ
            go_wp2_with fail
            go_quiet (fail)
            go_wp2_with fail
            go_ret
            exact ⟨by rw [HR.out]; rfl, below_onR hb (below_drewN hbr _)⟩

          · have d2 : decide (L ≤ x) = false := decide_eq_false h2
            have HSk := Lib.hid (HS.out (by rw [HJ.out, decide_eq_true (by omega), decide_eq_true (by omega)]; rfl))
            clear HS HBk HJ
            go_wp2_with fail
            go_quiet (fail)
            go_wp2_with fail
            go_roundw
            case rel => exact ⟨0 + 1, by omega, by go_num, HSk, below_drewN hbr _⟩
            case measure => first | (simp [intOf]; exact hmeas) | simpa [intOf] using hmeas


      · obtain ⟨j, hj⟩ : ∃ j, k = j + 1 := ⟨k - 1, by omega⟩
        have HJ : Hid (jOk L js k = (decide (gi js j < gi js k) && decide (gi js k < L))) := Lib.hid (by rw [hj]; rfl)
        have hpos : 0 ≤ gi js j := by have h := hpos; rw [hj] at h; exact h
        have c1 := cell_below (HC.out j (by omega)) (below_onR hb hbr)
        have hj0 : (0 : Int) ≤ (j : Int) := by omega
        have hjl : (j : Int) < (js.length : Int) := by omega
        have hji : (k : Int) - 1 = (j : Int) := by omega
        have hjw : IntKind.i64.wrap ((k : Int) - 1) = (j : Int) := by rw [hji]; exact IntWalk.i64_in _ (by omega)
        have dk : decide (0 < k) = true := decide_eq_true (by omega)
        clear HC HL HE HB HPos HN hj
        generalize gi js k = x at *
        generalize gi js j = p at *
        by_cases h1 : x ≤ 0
        · have d1 : decide (x ≤ 0) = true := decide_eq_true h1
          have HR := Lib.hid (HBk.out (by rw [HJ.out, decide_eq_false (by omega), Bool.false_and]))
          clear HS HBk HJ
          go_wp2_with fail
          go_quiet (fail)
          go_wp2_with fail
          go_ret
          exact ⟨by rw [HR.out]; rfl, below_onR hb (below_drewN hbr _)⟩

        · have d1 : decide (x ≤ 0) = false := decide_eq_false h1
          by_cases h2 : L ≤ x
          · have d2 : decide (L ≤ x) = true := decide_eq_true h2
            have HR := Lib.hid (HBk.out (by rw [HJ.out, decide_eq_false (by omega : ¬ x < L), Bool.and_false]))
            clear HS HBk HJ
            go_wp2_with fail
            go_quiet (fail)
            go_wp2_with fail
            go_ret
            exact ⟨by rw [HR.out]; rfl, below_onR hb (below_drewN hbr _)⟩

          · have d2 : decide (L ≤ x) = false := decide_eq_false h2
            by_cases h3 : x ≤ p
            · have d3 : decide (x ≤ p) = true := decide_eq_true h3
              have HR := Lib.hid (HBk.out (by rw [HJ.out, decide_eq_false (by omega), Bool.false_and]))
              clear HS HBk HJ
              go_wp2_with fail
              go_quiet (fail)
              go_wp2_with fail
              go_ret
              exact ⟨by rw [HR.out]; rfl, below_onR hb (below_drewN hbr _)⟩

            · have d3 : decide (x ≤ p) = false := decide_eq_false h3
              have HSk := Lib.hid (HS.out (by rw [HJ.out, decide_eq_true (by omega), decide_eq_true (by omega)]; rfl))
              clear HS HBk HJ
              go_wp2_with fail
              go_quiet (fail)
              go_wp2_with fail
              go_roundw
              case rel => exact ⟨k + 1, by omega, by go_num, HSk, below_drewN hbr _⟩
              case measure => first | (simp [intOf]; exact hmeas) | simpa [intOf] using hmeas


    · obtain rfl : k = js.length := by omega
      have HR0 := Lib.hid (HE.out HN.out)
      clear HC HL HE HB HPos HN
      cases hw : btw L 1 100000 with
      | false =>
        have HW := Lib.hid hw
        have HR : Hid (lineB L js = false) := Lib.hid (by rw [HR0.out, hw]; rfl)
        clear hw HR0
        go_wp2_with (go_at_call 74; refine (refWithin_r _ _ _ _).mono ?_; rintro e w7 ⟨rfl, rfl⟩; rw [HW.out])
        go_ret
        exact ⟨by rw [HR.out]; rfl, below_onR hb hbr⟩
      | true =>
        have HW := Lib.hid hw
        have HR : Hid (lineB L js = decide ((js.length : Int) ≤ 50)) := Lib.hid (by
          rw [HR0.out, hw, Bool.true_and]
          by_cases h : js.length ≤ 50
          · rw [decide_eq_true h, decide_eq_true (by omega)]
          · rw [decide_eq_false h, decide_eq_false (by omega)])
        clear hw HR0
        go_wp2_with (go_at_call 74; refine (refWithin_r _ _ _ _).mono ?_; rintro e w7 ⟨rfl, rfl⟩; rw [HW.out])
        go_ret
        exact ⟨by rw [HR.out] <;> rfl, below_onR hb hbr⟩
end Go.Proofs.YtiagflackfkmnaaGreat
