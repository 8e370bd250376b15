/-
  Shops in memory; the walks of slices.BinarySearch and of within. By an AI agent.
-/
import Derived.Test.YtmdifgkalooaoaaLightA
import Derived.Test.YtmdifgkalooaoaaShopM
namespace Go.Proofs.Ytmdifgkalooaoaa
set_option linter.unusedVariables false
set_option linter.unusedSimpArgs false
open Go.RowKit

/-- A step: machine, minutes, colour, dry. -/
abbrev Stp := Int × Int × Int × Int
def gs (l : List Stp) (i : Nat) : Stp := l.getD i (0, 0, 0, 0)
def gj (r : List (List Stp)) (i : Nat) : List Stp := r.getD i []
/-- A shop: its times, machines, lists and where these lie. -/
structure Sh where
  O : Int
  C : Int
  aH : Option Addr
  H : List Int
  cH : Nat
  M : Int
  aS : Option Addr
  S : List Int
  cS : Nat
  aJ : Option Addr
  J : List (List Stp)
  cJ : Nat
def StepsS (w : World) (a : Option Addr) (l : List Stp) : Prop :=
  l.length ≤ 9223372036854775807 ∧ (∀ i, i < l.length → I64 (gs l i).1 ∧ I64 (gs l i).2.1 ∧ I64 (gs l i).2.2.1 ∧ I64 (gs l i).2.2.2) ∧ ∃ blk off, (l ≠ [] → a = some ⟨blk, off, none⟩) ∧ ∀ i, i < l.length → w.cell? ⟨blk, off + i * 4, none⟩ = some (.int .i64 (gs l i).1) ∧ w.cell? ⟨blk, off + i * 4 + 1, none⟩ = some (.int .i64 (gs l i).2.1) ∧ w.cell? ⟨blk, off + i * 4 + 2, none⟩ = some (.int .i64 (gs l i).2.2.1) ∧ w.cell? ⟨blk, off + i * 4 + 3, none⟩ = some (.int .i64 (gs l i).2.2.2)
theorem StepsS.below {w w' : World} {a : Option Addr} {l : List Stp} (h : StepsS w a l) (hb : Below w.heap.size w w') : StepsS w' a l := by
  obtain ⟨h0, h1, blk, off, h2, h3⟩ := h
  exact ⟨h0, h1, blk, off, h2, fun i hi => by
    have hx := h3 i hi
    rw [hb.cell (p := ⟨blk, off + i * 4, none⟩) (block_lt hx.1), hb.cell (p := ⟨blk, off + i * 4 + 1, none⟩) (block_lt hx.2.1), hb.cell (p := ⟨blk, off + i * 4 + 2, none⟩) (block_lt hx.2.2.1), hb.cell (p := ⟨blk, off + i * 4 + 3, none⟩) (block_lt hx.2.2.2)]; exact hx⟩
def JobsS (w : World) (a : Option Addr) (r : List (List Stp)) : Prop :=
  r.length ≤ 9223372036854775807 ∧ ∃ (blk off : Nat) (ad : Nat → Option Addr) (cp : Nat → Nat), (r ≠ [] → a = some ⟨blk, off, none⟩) ∧ ∀ i, i < r.length → w.cell? ⟨blk, off + i, none⟩ = some (.slice (ad i) (gj r i).length (cp i)) ∧ StepsS w (ad i) (gj r i) ∧ (gj r i).length ≤ cp i
theorem JobsS.below {w w' : World} {a : Option Addr} {r : List (List Stp)} (h : JobsS w a r) (hb : Below w.heap.size w w') : JobsS w' a r := by
  obtain ⟨h0, blk, off, ad, cp, h2, h3⟩ := h
  exact ⟨h0, blk, off, ad, cp, h2, fun i hi => by
    have hx := h3 i hi
    rw [hb.cell (p := ⟨blk, off + i, none⟩) (block_lt hx.1)]; exact ⟨hx.1, hx.2.1.below hb, hx.2.2⟩⟩
def ShS (w : World) (s : Sh) : Prop := IntsS w s.aH s.H ∧ IntsS w s.aS s.S ∧ JobsS w s.aJ s.J
theorem ShS.below {w w' : World} {s : Sh} (h : ShS w s) (hb : Below w.heap.size w w') : ShS w' s := ⟨h.1.below hb, h.2.1.below hb, h.2.2.below hb⟩

def hokAt (l : List Int) (j : Nat) : Prop := 0 ≤ gi l j ∧ gi l j ≤ 10000 ∧ (j = 0 ∨ gi l (j - 1) < gi l j)
def HolOk (l : List Int) : Prop := l.length ≤ 400 ∧ ∀ j, j < l.length → hokAt l j
theorem HolOk.asc {l : List Int} (h : HolOk l) : Asc l := by
  intro i j hij hj
  induction j with
  | zero => omega
  | succ j ih =>
    have := (h.2 (j + 1) hj).2.2
    rcases this with h0 | h1
    · omega
    · rw [Nat.add_sub_cancel] at h1
      by_cases e : i = j
      · subst e; exact h1
      · have := ih (by omega) (by omega); omega
theorem HolOk.pos {l : List Int} (h : HolOk l) : ∀ j, j < l.length → 0 ≤ gi l j := fun j hj => (h.2 j hj).1
theorem HolOk.late {l : List Int} (h : HolOk l) : ∀ j, j < l.length → gi l j ≤ 10000 := fun j hj => (h.2 j hj).2.1
def setAt (l : List Int) (j : Nat) : Prop := 0 ≤ gi l j ∧ gi l j ≤ 1000
def stpOk (O C M : Int) (p : Stp) : Prop := (0 ≤ p.1 ∧ p.1 ≤ M - 1) ∧ (1 ≤ p.2.1 ∧ p.2.1 ≤ C - O) ∧ (0 ≤ p.2.2.1 ∧ p.2.2.1 ≤ 9) ∧ 0 ≤ p.2.2.2 ∧ p.2.2.2 ≤ 10000
def jobOk (O C M : Int) (l : List Stp) : Prop := l.length ≤ 8 ∧ ∀ k, k < l.length → stpOk O C M (gs l k)
/-- The times of a shop are right. -/
def DayOk (O C : Int) (l : List Int) : Prop := 0 ≤ O ∧ O < C ∧ C ≤ 1440 ∧ HolOk l
def ShOk (s : Sh) : Prop := (0 ≤ s.O ∧ s.O < s.C ∧ s.C ≤ 1440) ∧ HolOk s.H ∧ ((1 ≤ s.M ∧ s.M ≤ 6) ∧ (s.S.length : Int) = s.M ∧ ∀ j, j < s.S.length → setAt s.S j) ∧ s.J.length ≤ 12 ∧ ∀ i, i < s.J.length → jobOk s.O s.C s.M (gj s.J i)
theorem ShOk.day {s : Sh} (h : ShOk s) : DayOk s.O s.C s.H := ⟨h.1.1, h.1.2.1, h.1.2.2, h.2.1⟩

set_option maxHeartbeats 400000 in
theorem less_any (a b : Int) (w : World) : Calls Try.prog 107 #[.int .i64 a, .int .i64 b] w fun e w' => e = .returned (.bool (decide (a < b))) ∧ Below w.heap.size w w' := by
  by_cases h : a < b
  · rw [show decide (a < b) = true from by simpa using h]
    go_enter Try.func107, Try.ntmps107
    go_wp2
    go_ret
    exact ⟨rfl, Below.refl _ _⟩
  · rw [show decide (a < b) = false from by simpa using h]
    go_enter Try.func107, Try.ntmps107
    go_wp2
    go_ret
    exact ⟨rfl, Below.refl _ _⟩
theorem isNaNs_any (a : Int) (w : World) : Calls Try.prog 108 #[.int .i64 a] w fun e w' => e = .returned (.bool false) ∧ w' = w := by
  go_enter Try.func108, Try.ntmps108
  go_wp2
  go_ret
  exact ⟨rfl, rfl⟩

set_option maxRecDepth 100000 in
set_option maxHeartbeats 1000000 in
/-- slices.BinarySearch among holidays: how many are before, and whether it is one. -/
theorem search_any (a : Option Addr) (l : List Int) (cap : Nat) (d : Int) (w : World) (hI : IntsS w a l) (hA : Asc l) (h4 : l.length ≤ 400) :
    Calls Try.prog 92 #[.slice a l.length cap, .int .i64 d] w fun e w' => e = .returned (.tuple #[.int .i64 (cnt l d), .bool (hol l d)]) ∧ Below w.heap.size w w' := by
  obtain ⟨hlen, hbd, blk, off, hadr, hc⟩ := hI
  have HC := Lib.hid hc
  have HL : Hid (0 < l.length → a = some ⟨blk, off, none⟩) := Lib.hid fun h => hadr (by rintro rfl; simp at h)
  have HR : Hid (∀ p, p ≤ l.length → (∀ k, k < p → gi l k < d) → (∀ k, p ≤ k → k < l.length → d ≤ gi l k) → cnt l d = p ∧ hol l d = (decide (p < l.length) && decide (gi l p = d))) := Lib.hid fun p h1 h2 h3 => ⟨cnt_at h1 h2 (fun j a b => by have := h3 j a b; omega), hol_at hA h1 h2 (fun j a b => by have := h3 j a b; omega)⟩
  have HA := Lib.hid hA
  clear hc hbd hadr hA
  generalize cnt l d = cc at *
  generalize hol l d = hh at *
  go_enter Try.func92, Try.ntmps92
  go_wp2_with fail
  go_loopw [7, 8] (fun i j wr => ∃ p q : Nat, p ≤ q ∧ q ≤ l.length ∧ i = .int .i64 p ∧ j = .int .i64 q ∧ Below w.heap.size w wr ∧ Hid (∀ k, k < p → gi l k < d) ∧ Hid (∀ k, q ≤ k → k < l.length → d ≤ gi l k)) (fun i j _ => (intOf j).toNat - (intOf i).toNat)
  case atStart => exact ⟨0, l.length, by omega, by omega, rfl, rfl, Below.refl _ _, Lib.hid fun k hk => absurd hk (Nat.not_lt_zero _), Lib.hid fun k h1 h2 => absurd h2 (by omega)⟩
  case round =>
    obtain ⟨p, q, hpq, hq, rfl, rfl, hb, HP, HQ⟩ := hrel
    by_cases hlt : p < q
    · have n1 : p ≤ (p + q) / 2 := by omega
      have n2 : (p + q) / 2 < q := by omega
      obtain rfl := HL.out (by omega)
      have c0 := cell_below (HC.out ((p + q) / 2) (by omega)) hb
      have HX : Hid (gi l ((p + q) / 2) < d → ∀ k, k < (p + q) / 2 + 1 → gi l k < d) := Lib.hid fun h k hk => by
        by_cases e : k = (p + q) / 2
        · subst e; exact h
        · have := HA.out k ((p + q) / 2) (by omega) (by omega); omega
      have HY : Hid (d ≤ gi l ((p + q) / 2) → ∀ k, (p + q) / 2 ≤ k → k < l.length → d ≤ gi l k) := Lib.hid fun h k h1 h2 => by
        by_cases e : k = (p + q) / 2
        · subst e; exact h
        · have := HA.out ((p + q) / 2) k (by omega) (by omega); omega
      clear HC HL HR HA
      generalize gi l ((p + q) / 2) = x at *
      have n3 : ((p : Int) + q) / 2 < l.length := by omega
      by_cases hx : x < d
      · have HG := Lib.hid (HX.out hx)
        have hd : decide (x < d) = true := by simpa using hx
        have HD := Lib.hid hd
        clear HX HY hx hd
        go_wp2_with fail
        refine (less_any _ _ _).mono ?_
        rintro e w1 ⟨rfl, hb1⟩
        rw [HD.out]
        go_wp2_with fail
        go_roundw
        case rel => exact ⟨(p + q) / 2 + 1, q, by omega, hq, by go_num, rfl, hb.trans (hb1.mono hb.size), HG, HQ⟩
        case measure => simp [intOf]; omega
      · have HG := Lib.hid (HY.out (by omega))
        have hd : decide (x < d) = false := by simpa using hx
        have HD := Lib.hid hd
        clear HX HY hx hd
        go_wp2_with fail
        refine (less_any _ _ _).mono ?_
        rintro e w1 ⟨rfl, hb1⟩
        rw [HD.out]
        go_wp2_with fail
        go_roundw
        case rel => exact ⟨p, (p + q) / 2, by omega, by omega, rfl, by go_num, hb.trans (hb1.mono hb.size), HP, HG⟩
        case measure => simp [intOf]; omega
    · obtain rfl : p = q := by omega
      obtain ⟨g1, g2⟩ := HR.out p hq HP.out HQ.out
      by_cases hp : p < l.length
      · obtain rfl := HL.out (by omega)
        have c0 := cell_below (HC.out p hp) hb
        have d1 : decide (p < l.length) = true := by simpa using hp
        rw [d1, Bool.true_and] at g2
        clear HC HL HR HA d1 hlt
        generalize gi l p = x at *
        have n3 : (p : Int) < l.length := by omega
        have G1 := Lib.hid g1
        by_cases hx : x = d
        · subst hx
          have g2 : hh = true := by simpa using g2
          have G2 := Lib.hid g2
          clear g1 g2
          go_wp2_with fail
          go_returns
          (try rw [G1.out]); (try rw [G2.out])
          exact ⟨rfl, hb⟩
        · have g2 : hh = false := by simpa [hx] using g2
          have G2 := Lib.hid g2
          have hx : (x == d) = false := by simpa using hx
          clear g1 g2
          go_wp2_with (go_at_call 108; refine (isNaNs_any _ _).mono ?_; rintro e w' ⟨rfl, rfl⟩)
          go_returns
          (try rw [G1.out]); (try rw [G2.out])
          exact ⟨rfl, hb⟩
      · have d1 : decide (p < l.length) = false := by simpa using hp
        rw [d1, Bool.false_and] at g2
        have G1 := Lib.hid g1
        have G2 := Lib.hid g2
        have n3 : ¬ (p : Int) < l.length := by omega
        clear HC HL HR HA d1 hlt g1 g2
        go_wp2_with fail
        go_returns
        (try rw [G1.out]); (try rw [G2.out])
        exact ⟨rfl, hb⟩
end Go.Proofs.Ytmdifgkalooaoaa
