/-
  The walks of Clash of both. By an AI agent.
-/
import Derived.Test.YtkmonaeajejamaaCutK
namespace Go.Proofs.Ytkmonaeajejamaa
set_option linter.unusedVariables false
set_option linter.unusedSimpArgs false
open Go.RowKit

def plQ (p : Plc) : Bool := plB p.2.1 p.2.2.1 p.2.2.2.1 p.2.2.2.2
def apQ (p q : Plc) (k : Int) : Bool := apB p.2.1 p.2.2.1 p.2.2.2.1 p.2.2.2.2 q.2.1 q.2.2.1 q.2.2.2.1 q.2.2.2.2 k
def outQ (p : Plc) (a b : Int) : Prop := a < p.2.1 + p.2.2.2.1 ∨ b < p.2.2.1 + p.2.2.2.2
def ArgOk (l : List Plc) (a b k : Int) : Prop := plateB a b k = true ∧ l.length ≤ 1000 ∧ ∀ i, i < l.length → plQ (gq l i) = true
/-- The place at i is beyond the plate, or too near to an earlier one. -/
def badAt (l : List Plc) (a b k : Int) (i : Nat) : Prop := outQ (gq l i) a b ∨ ∃ j, j < i ∧ apQ (gq l i) (gq l j) k = false
open Classical in
noncomputable def clV (l : List Plc) (a b k : Int) : Bool := decide (ArgOk l a b k ∧ ∃ i, i < l.length ∧ badAt l a b k i)
open Classical in
noncomputable def clE (l : List Plc) (a b k : Int) : Int := if ArgOk l a b k then 0 else 2
theorem cl_no {l : List Plc} {a b k : Int} (h : ¬ ArgOk l a b k) : clV l a b k = false ∧ clE l a b k = 2 := by
  unfold clV clE; rw [if_neg h]; exact ⟨by simp [h], rfl⟩
theorem cl_bad {l : List Plc} {a b k : Int} (h : ArgOk l a b k) {i : Nat} (hi : i < l.length) (hb : badAt l a b k i) : clV l a b k = true ∧ clE l a b k = 0 := by
  unfold clV clE; rw [if_pos h]; exact ⟨by simp only [decide_eq_true_eq]; exact ⟨h, i, hi, hb⟩, rfl⟩
theorem cl_good {l : List Plc} {a b k : Int} (h : ArgOk l a b k) (hg : ∀ i, i < l.length → ¬ badAt l a b k i) : clV l a b k = false ∧ clE l a b k = 0 := by
  unfold clV clE; rw [if_pos h]; exact ⟨by simp only [decide_eq_false_iff_not]; rintro ⟨_, i, hi, hb⟩; exact hg i hi hb, rfl⟩

set_option maxRecDepth 100000 in
set_option maxHeartbeats 4000000 in
theorem Clash_any (ad : Option Addr) (l : List Plc) (ca : Nat) (a b k : Int) (w : World) (hA : PlacesS w ad l) (hca : l.length ≤ ca) :
    Calls Try.prog 38 #[.slice ad l.length ca, .int .i64 a, .int .i64 b, .int .i64 k] w fun e w' => e = .returned (.tuple #[.bool (clV l a b k), .int .i64 (clE l a b k)]) ∧ Below w.heap.size w w' := by
  have HP := Lib.hid (plateValid_any a b k)
  have hlen := hA.1
  cases hpl : plateB a b k with
  | false =>
    rw [hpl] at HP
    obtain ⟨e1, e2⟩ := cl_no (l := l) (a := a) (b := b) (k := k) (fun h => by rw [h.1] at hpl; cases hpl)
    rw [e1, e2]
    clear e1 e2 hA hpl
    go_enter Try.func38, Try.ntmps38
    go_wp2_with (go_at_call 68; refine (HP.out _).mono ?_; rintro e w' ⟨rfl, rfl⟩)
    go_ret2
    exact ⟨rfl, (Below.refl _ _).alloc (Nat.le_refl _) _⟩
  | true =>
    rw [hpl] at HP
    by_cases hl : l.length ≤ 1000
    · have hl2 : ¬ (1000 : Int) < l.length := by omega
      have HC1 : Hid (∀ W, Below w.heap.size w W → Calls Try.prog 76 #[.slice ad l.length ca, .func (.func 77) #[] #[]] W fun e w' => e = .returned (.bool (anyK (fun j => !(plQ (gq l j))) l.length)) ∧ Below W.heap.size W w') := Lib.hid fun W hW => containsPl1_any ad l l.length ca #[] _ W (hA.below hW) (Nat.le_refl _) fun j W2 hj h2 => clash1_any _ _ _ _ _ W2
      cases hany : anyK (fun j => !(plQ (gq l j))) l.length with
      | true =>
        rw [hany] at HC1
        obtain ⟨e1, e2⟩ := cl_no (l := l) (a := a) (b := b) (k := k) (fun h => by
          rw [(anyK_iff _).2 fun j hj => ?_] at hany
          · cases hany
          · rw [h.2.2 j hj]; rfl)
        rw [e1, e2]
        clear e1 e2 hA hpl hany
        go_enter Try.func38, Try.ntmps38
        go_wp2_with (go_at_call 68; refine (HP.out _).mono ?_; rintro e w' ⟨rfl, rfl⟩)
        refine (HC1.out _ ((Below.refl _ _).alloc (Nat.le_refl _) _)).mono ?_
        rintro e w1 ⟨rfl, hb1⟩
        go_wp2_with fail
        go_ret2
        exact ⟨rfl, box_below hb1⟩
      | false =>
        rw [hany] at HC1
        have hval : ∀ j, j < l.length → plQ (gq l j) = true := fun j hj => by
          have := (anyK_iff _).1 hany j hj
          simpa using this
        have hok : ArgOk l a b k := ⟨hpl, hl, hval⟩
        have hk := (plateB_iff.1 hpl).2.2
        have HBad : Hid (∀ i, i < l.length → badAt l a b k i → clV l a b k = true ∧ clE l a b k = 0) := Lib.hid fun i hi hb => cl_bad hok hi hb
        have HGood : Hid ((∀ i, i < l.length → ¬ badAt l a b k i) → clV l a b k = false ∧ clE l a b k = 0) := Lib.hid fun hg => cl_good hok hg
        have HVal := Lib.hid hval
        have HA := Lib.hid hA
        obtain ⟨-, blk, off, hadr, hc⟩ := hA
        have HC := Lib.hid hc
        have HL : Hid (0 < l.length → ad = some ⟨blk, off, none⟩) := Lib.hid fun h => hadr (pos_ne (n := 0) h)
        generalize clV l a b k = cv at *
        generalize clE l a b k = ce at *
        clear hc hadr hany hpl hval hok
        go_enter Try.func38, Try.ntmps38
        go_wp2_with (go_at_call 68; refine (HP.out _).mono ?_; rintro e w' ⟨rfl, rfl⟩)
        refine (HC1.out _ ((Below.refl _ _).alloc (Nat.le_refl _) _)).mono ?_
        rintro e wo ⟨rfl, hb1⟩
        have pk := (hb1.cell (p := ⟨w.heap.size, 0, none⟩) (by simp)).trans (show _ = some (Value.int .i64 k) by simp [go_sem])
        have hbo := box_below hb1
        clear hb1
        go_wp2_with fail
        go_loopw [28] (fun i wr => ∃ n : Nat, n ≤ l.length ∧ i = .int .i64 n ∧ Below w.heap.size w wr ∧ wr.cell? ⟨w.heap.size, 0, none⟩ = some (.int .i64 k) ∧ Hid (∀ j, j < n → ¬ badAt l a b k j)) (fun i _ => l.length - (intOf i).toNat)
        case atStart => exact ⟨0, Nat.zero_le _, rfl, hbo, pk, Lib.hid fun j hj => absurd hj (Nat.not_lt_zero _)⟩
        case round =>
          clear hbo pk
          obtain ⟨n, hn, rfl, hbr, pk, HG⟩ := hrel
          by_cases hlt : n < l.length
          · obtain rfl := HL.out (by omega)
            have hpn := HVal.out n hlt
            have c := (HC.out n hlt).below hbr
            have HC2 : Hid (∀ W, Below wr.heap.size wr W → ∀ bp, W.cell? ⟨bp, 0, none⟩ = some (.int .u8 (gq l n).1) → W.cell? ⟨bp, 1, none⟩ = some (.int .i64 (gq l n).2.1) → W.cell? ⟨bp, 2, none⟩ = some (.int .i64 (gq l n).2.2.1) → W.cell? ⟨bp, 3, none⟩ = some (.int .i64 (gq l n).2.2.2.1) → W.cell? ⟨bp, 4, none⟩ = some (.int .i64 (gq l n).2.2.2.2) → Calls Try.prog 76 #[.slice (some ⟨blk, off, none⟩) n ca, .func (.func 79) #[] #[.pointer (some ⟨bp, 0, none⟩), .pointer (some ⟨w.heap.size, 0, none⟩)]] W fun e w' => e = .returned (.bool (anyK (fun j => !(apQ (gq l n) (gq l j) k)) n)) ∧ Below W.heap.size W w') := Lib.hid fun W hW bp d0 d1 d2 d3 d4 => containsPl2_any _ l n ca #[.pointer (some ⟨bp, 0, none⟩), .pointer (some ⟨w.heap.size, 0, none⟩)] _ W ((HA.out.below hbr).below hW) (by omega) fun j W2 hj h2 => clash2_any _ _ _ _ _ _ _ _ _ _ k bp w.heap.size W2 hpn (HVal.out j (by omega)) hk (cell_below d0 h2) (cell_below d1 h2) (cell_below d2 h2) (cell_below d3 h2) (cell_below d4 h2) (cell_below (cell_below pk hW) h2)
            obtain ⟨⟨v0, v1⟩, ⟨v2, v3⟩, ⟨v4, v5⟩, v6, v7⟩ := plB_iff.1 hpn
            have HB1 : Hid (a < (gq l n).2.1 + (gq l n).2.2.2.1 → badAt l a b k n) := Lib.hid fun h => .inl (.inl h)
            have HB2 : Hid (b < (gq l n).2.2.1 + (gq l n).2.2.2.2 → badAt l a b k n) := Lib.hid fun h => .inl (.inr h)
            have HB3 : Hid (anyK (fun j => !(apQ (gq l n) (gq l j) k)) n = true → badAt l a b k n) := Lib.hid fun h => .inr (by
              by_cases g : ∀ j, j < n → (fun j => !(apQ (gq l n) (gq l j) k)) j = false
              · rw [(anyK_iff _).2 g] at h; cases h
              · obtain ⟨j, hj⟩ := Classical.not_forall.1 g
                obtain ⟨hj1, hj2⟩ := Classical.not_imp.1 hj
                exact ⟨j, hj1, by simpa using hj2⟩)
            have HB4 : Hid (¬ a < (gq l n).2.1 + (gq l n).2.2.2.1 → ¬ b < (gq l n).2.2.1 + (gq l n).2.2.2.2 → anyK (fun j => !(apQ (gq l n) (gq l j) k)) n = false → ¬ badAt l a b k n) := Lib.hid fun h1 h2 h3 => by
              rintro ((h | h) | ⟨j, hj, h⟩)
              · exact h1 h
              · exact h2 h
              · have := (anyK_iff _).1 h3 j hj
                simp [h] at this
            have HNB : Hid (¬ badAt l a b k n → ∀ j, j < n + 1 → ¬ badAt l a b k j) := Lib.hid fun h j hj => by
              by_cases e : j = n
              · subst e; exact h
              · exact HG.out j (by omega)
            have HBn := Lib.hid (HBad.out n hlt)
            generalize badAt l a b k n = BA at *
            generalize anyK (fun j => !(apQ (gq l n) (gq l j) k)) n = AK at *
            obtain ⟨c0, c1, c2, c3, c4⟩ := c
            have hnc : (n : Int) ≤ (ca : Int) := by omega
            have hnc2 : n ≤ ca := by omega
            clear HC HL HVal HA HBad HGood HG hpn HC1 HP
            generalize (gq l n).1 = x0 at *
            generalize (gq l n).2.1 = x1 at *
            generalize (gq l n).2.2.1 = x2 at *
            generalize (gq l n).2.2.2.1 = x3 at *
            generalize (gq l n).2.2.2.2 = x4 at *
            by_cases h1 : a < x1 + x3
            · obtain ⟨e1, e2⟩ := HBn.out (HB1.out h1)
              subst e1
              subst e2
              go_wp2_with fail
              go_ret2
              exact ⟨rfl, hbr.alloc hbr.size _⟩
            · by_cases h2 : b < x2 + x4
              · obtain ⟨e1, e2⟩ := HBn.out (HB2.out h2)
                subst e1
                subst e2
                go_wp2_with fail
                go_ret2
                exact ⟨rfl, hbr.alloc hbr.size _⟩
              · cases AK with
                | true =>
                  obtain ⟨e1, e2⟩ := HBn.out (HB3.out rfl)
                  subst e1
                  subst e2
                  clear HBn HB1 HB2 HB3 HB4 HNB
                  go_wp2_with fail
                  refine (HC2.out _ ((Below.refl _ _).alloc (Nat.le_refl _) _) _ (by simp [go_sem]) (by simp [go_sem]) (by simp [go_sem]) (by simp [go_sem]) (by simp [go_sem])).mono ?_
                  rintro e w5 ⟨rfl, hb5⟩
                  have hb6 := hbr.trans ((box_below hb5).mono hbr.size)
                  go_wp2_with fail
                  go_ret2
                  exact ⟨rfl, hb6⟩
                | false =>
                  have HR := Lib.hid (HNB.out (HB4.out h1 h2 rfl))
                  clear HBn HB1 HB2 HB3 HB4 HNB
                  go_wp2_with fail
                  refine (HC2.out _ ((Below.refl _ _).alloc (Nat.le_refl _) _) _ (by simp [go_sem]) (by simp [go_sem]) (by simp [go_sem]) (by simp [go_sem]) (by simp [go_sem])).mono ?_
                  rintro e w5 ⟨rfl, hb5⟩
                  have hb6 := hbr.trans ((box_below hb5).mono hbr.size)
                  have pk := cell_below pk (box_below hb5)
                  go_wp2_with fail
                  go_roundw
                  case rel => exact ⟨n + 1, by omega, by go_num, hb6, pk, HR⟩
                  case measure => simp [intOf]; omega
          · obtain rfl : n = l.length := by omega
            obtain ⟨e1, e2⟩ := HGood.out HG.out
            subst e1
            subst e2
            go_wp2_with fail
            go_ret2
            exact ⟨rfl, hbr⟩
    · have hl2 : (1000 : Int) < l.length := by omega
      obtain ⟨e1, e2⟩ := cl_no (l := l) (a := a) (b := b) (k := k) (fun h => hl h.2.1)
      rw [e1, e2]
      clear e1 e2 hA hpl
      go_enter Try.func38, Try.ntmps38
      go_wp2_with (go_at_call 68; refine (HP.out _).mono ?_; rintro e w' ⟨rfl, rfl⟩)
      go_ret2
      exact ⟨rfl, (Below.refl _ _).alloc (Nat.le_refl _) _⟩
end Go.Proofs.Ytkmonaeajejamaa
