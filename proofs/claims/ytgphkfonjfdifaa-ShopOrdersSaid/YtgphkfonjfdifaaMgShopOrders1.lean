/-
  Shops in memory; the walks of slices.BinarySearch and of within. By an AI agent.; The walks of between, within and next of package shop. By an AI agent.; The walks of openBefore, sort.Search and after of package shop. By an AI agent.; Whether one of n elements is such, and the first of them. By an AI agent.
-/
import Derived.Test.YtgphkfonjfdifaaMgShopOrders0
import Derived.Deep.RegionHeld3

namespace Go.Proofs.Ytgphkfonjfdifaa
set_option linter.unusedVariables false
set_option linter.unusedSimpArgs false
open Go.RowKit

/-- A step: machine, minutes, colour, dry. -/
abbrev Stp := Int × Int × Int × Int
def gs (l : List Stp) (i : Nat) : Stp := l.getD i (0, 0, 0, 0)
def gj (r : List (List Stp)) (i : Nat) : List Stp := r.getD i []
/-- A shop: its times, machines, lists and where these lie. -/
structure Sh where
  O : Int
  C : Int
  aH : Option Addr
  H : List Int
  cH : Nat
  M : Int
  aS : Option Addr
  S : List Int
  cS : Nat
  aJ : Option Addr
  J : List (List Stp)
  cJ : Nat
def StepsS (w : World) (a : Option Addr) (l : List Stp) : Prop :=
  l.length ≤ 9223372036854775807 ∧ (∀ i, i < l.length → I64 (gs l i).1 ∧ I64 (gs l i).2.1 ∧ I64 (gs l i).2.2.1 ∧ I64 (gs l i).2.2.2) ∧ ∃ blk off, (l ≠ [] → a = some ⟨blk, off, none⟩) ∧ ∀ i, i < l.length → w.cell? ⟨blk, off + i * 4, none⟩ = some (.int .i64 (gs l i).1) ∧ w.cell? ⟨blk, off + i * 4 + 1, none⟩ = some (.int .i64 (gs l i).2.1) ∧ w.cell? ⟨blk, off + i * 4 + 2, none⟩ = some (.int .i64 (gs l i).2.2.1) ∧ w.cell? ⟨blk, off + i * 4 + 3, none⟩ = some (.int .i64 (gs l i).2.2.2)
theorem StepsS.below {w w' : World} {a : Option Addr} {l : List Stp} (h : StepsS w a l) (hb : Below w.heap.size w w') : StepsS w' a l := by
  obtain ⟨h0, h1, blk, off, h2, h3⟩ := h
  exact ⟨h0, h1, blk, off, h2, fun i hi => by
    have hx := h3 i hi
    rw [hb.cell (p := ⟨blk, off + i * 4, none⟩) (block_lt hx.1), hb.cell (p := ⟨blk, off + i * 4 + 1, none⟩) (block_lt hx.2.1), hb.cell (p := ⟨blk, off + i * 4 + 2, none⟩) (block_lt hx.2.2.1), hb.cell (p := ⟨blk, off + i * 4 + 3, none⟩) (block_lt hx.2.2.2)]; exact hx⟩
def JobsS (w : World) (a : Option Addr) (r : List (List Stp)) : Prop :=
  r.length ≤ 9223372036854775807 ∧ ∃ (blk off : Nat) (ad : Nat → Option Addr) (cp : Nat → Nat), (r ≠ [] → a = some ⟨blk, off, none⟩) ∧ ∀ i, i < r.length → w.cell? ⟨blk, off + i, none⟩ = some (.slice (ad i) (gj r i).length (cp i)) ∧ StepsS w (ad i) (gj r i) ∧ (gj r i).length ≤ cp i
theorem JobsS.below {w w' : World} {a : Option Addr} {r : List (List Stp)} (h : JobsS w a r) (hb : Below w.heap.size w w') : JobsS w' a r := by
  obtain ⟨h0, blk, off, ad, cp, h2, h3⟩ := h
  exact ⟨h0, blk, off, ad, cp, h2, fun i hi => by
    have hx := h3 i hi
    rw [hb.cell (p := ⟨blk, off + i, none⟩) (block_lt hx.1)]; exact ⟨hx.1, hx.2.1.below hb, hx.2.2⟩⟩
def ShS (w : World) (s : Sh) : Prop := IntsS w s.aH s.H ∧ IntsS w s.aS s.S ∧ JobsS w s.aJ s.J
theorem ShS.below {w w' : World} {s : Sh} (h : ShS w s) (hb : Below w.heap.size w w') : ShS w' s := ⟨h.1.below hb, h.2.1.below hb, h.2.2.below hb⟩

def hokAt (l : List Int) (j : Nat) : Prop := 0 ≤ gi l j ∧ gi l j ≤ 10000 ∧ (j = 0 ∨ gi l (j - 1) < gi l j)
def HolOk (l : List Int) : Prop := l.length ≤ 400 ∧ ∀ j, j < l.length → hokAt l j
theorem HolOk.asc {l : List Int} (h : HolOk l) : Asc l := by
  intro i j hij hj
  induction j with
  | zero => omega
  | succ j ih =>
    have := (h.2 (j + 1) hj).2.2
    rcases this with h0 | h1
    · omega
    · rw [Nat.add_sub_cancel] at h1
      by_cases e : i = j
      · subst e; exact h1
      · have := ih (by omega) (by omega); omega
theorem HolOk.pos {l : List Int} (h : HolOk l) : ∀ j, j < l.length → 0 ≤ gi l j := fun j hj => (h.2 j hj).1
theorem HolOk.late {l : List Int} (h : HolOk l) : ∀ j, j < l.length → gi l j ≤ 10000 := fun j hj => (h.2 j hj).2.1
def setAt (l : List Int) (j : Nat) : Prop := 0 ≤ gi l j ∧ gi l j ≤ 1000
def stpOk (O C M : Int) (p : Stp) : Prop := (0 ≤ p.1 ∧ p.1 ≤ M - 1) ∧ (1 ≤ p.2.1 ∧ p.2.1 ≤ C - O) ∧ (0 ≤ p.2.2.1 ∧ p.2.2.1 ≤ 9) ∧ 0 ≤ p.2.2.2 ∧ p.2.2.2 ≤ 10000
def jobOk (O C M : Int) (l : List Stp) : Prop := l.length ≤ 8 ∧ ∀ k, k < l.length → stpOk O C M (gs l k)
/-- The times of a shop are right. -/
def DayOk (O C : Int) (l : List Int) : Prop := 0 ≤ O ∧ O < C ∧ C ≤ 1440 ∧ HolOk l
def ShOk (s : Sh) : Prop := (0 ≤ s.O ∧ s.O < s.C ∧ s.C ≤ 1440) ∧ HolOk s.H ∧ ((1 ≤ s.M ∧ s.M ≤ 6) ∧ (s.S.length : Int) = s.M ∧ ∀ j, j < s.S.length → setAt s.S j) ∧ s.J.length ≤ 12 ∧ ∀ i, i < s.J.length → jobOk s.O s.C s.M (gj s.J i)
theorem ShOk.day {s : Sh} (h : ShOk s) : DayOk s.O s.C s.H := ⟨h.1.1, h.1.2.1, h.1.2.2, h.2.1⟩

set_option maxHeartbeats 400000 in
theorem less_any (a b : Int) (w : World) : Calls Try.prog 91 #[.int .i64 a, .int .i64 b] w fun e w' => e = .returned (.bool (decide (a < b))) ∧ Below w.heap.size w w' := by
  by_cases h : a < b
  · rw [show decide (a < b) = true from by simpa using h]
    go_enter Try.func91, Try.ntmps91
    go_wp2
    go_ret
    exact ⟨rfl, Below.refl _ _⟩
  · rw [show decide (a < b) = false from by simpa using h]
    go_enter Try.func91, Try.ntmps91
    go_wp2
    go_ret
    exact ⟨rfl, Below.refl _ _⟩
theorem isNaNs_any (a : Int) (w : World) : Calls Try.prog 92 #[.int .i64 a] w fun e w' => e = .returned (.bool false) ∧ w' = w := by
  go_enter Try.func92, Try.ntmps92
  go_wp2
  go_ret
  exact ⟨rfl, rfl⟩

set_option maxRecDepth 100000 in
set_option maxHeartbeats 1000000 in
/-- slices.BinarySearch among holidays: how many are before, and whether it is one. -/
theorem search_any (a : Option Addr) (l : List Int) (cap : Nat) (d : Int) (w : World) (hI : IntsS w a l) (hA : Asc l) (h4 : l.length ≤ 400) :
    Calls Try.prog 75 #[.slice a l.length cap, .int .i64 d] w fun e w' => e = .returned (.tuple #[.int .i64 (cnt l d), .bool (hol l d)]) ∧ Below w.heap.size w w' := by
  obtain ⟨hlen, hbd, blk, off, hadr, hc⟩ := hI
  have HC := Lib.hid hc
  have HL : Hid (0 < l.length → a = some ⟨blk, off, none⟩) := Lib.hid fun h => hadr (by rintro rfl; simp at h)
  have HR : Hid (∀ p, p ≤ l.length → (∀ k, k < p → gi l k < d) → (∀ k, p ≤ k → k < l.length → d ≤ gi l k) → cnt l d = p ∧ hol l d = (decide (p < l.length) && decide (gi l p = d))) := Lib.hid fun p h1 h2 h3 => ⟨cnt_at h1 h2 (fun j a b => by have := h3 j a b; omega), hol_at hA h1 h2 (fun j a b => by have := h3 j a b; omega)⟩
  have HA := Lib.hid hA
  clear hc hbd hadr hA
  generalize cnt l d = cc at *
  generalize hol l d = hh at *
  go_enter Try.func75, Try.ntmps75
  go_wp2_with fail
  go_loopw [7, 8] (fun i j wr => ∃ p q : Nat, p ≤ q ∧ q ≤ l.length ∧ i = .int .i64 p ∧ j = .int .i64 q ∧ Below w.heap.size w wr ∧ Hid (∀ k, k < p → gi l k < d) ∧ Hid (∀ k, q ≤ k → k < l.length → d ≤ gi l k)) (fun i j _ => (intOf j).toNat - (intOf i).toNat)
  case atStart => exact ⟨0, l.length, by omega, by omega, rfl, rfl, Below.refl _ _, Lib.hid fun k hk => absurd hk (Nat.not_lt_zero _), Lib.hid fun k h1 h2 => absurd h2 (by omega)⟩
  case round =>
    obtain ⟨p, q, hpq, hq, rfl, rfl, hb, HP, HQ⟩ := hrel
    by_cases hlt : p < q
    · have n1 : p ≤ (p + q) / 2 := by omega
      have n2 : (p + q) / 2 < q := by omega
      obtain rfl := HL.out (by omega)
      have c0 := cell_below (HC.out ((p + q) / 2) (by omega)) hb
      have HX : Hid (gi l ((p + q) / 2) < d → ∀ k, k < (p + q) / 2 + 1 → gi l k < d) := Lib.hid fun h k hk => by
        by_cases e : k = (p + q) / 2
        · subst e; exact h
        · have := HA.out k ((p + q) / 2) (by omega) (by omega); omega
      have HY : Hid (d ≤ gi l ((p + q) / 2) → ∀ k, (p + q) / 2 ≤ k → k < l.length → d ≤ gi l k) := Lib.hid fun h k h1 h2 => by
        by_cases e : k = (p + q) / 2
        · subst e; exact h
        · have := HA.out ((p + q) / 2) k (by omega) (by omega); omega
      clear HC HL HR HA
      generalize gi l ((p + q) / 2) = x at *
      have n3 : ((p : Int) + q) / 2 < l.length := by omega
      by_cases hx : x < d
      · have HG := Lib.hid (HX.out hx)
        have hd : decide (x < d) = true := by simpa using hx
        have HD := Lib.hid hd
        clear HX HY hx hd
        go_wp2_with fail
        refine (less_any _ _ _).mono ?_
        rintro e w1 ⟨rfl, hb1⟩
        rw [HD.out]
        go_wp2_with fail
        go_roundw
        case rel => exact ⟨(p + q) / 2 + 1, q, by omega, hq, by go_num, rfl, hb.trans (hb1.mono hb.size), HG, HQ⟩
        case measure => simp [intOf]; omega
      · have HG := Lib.hid (HY.out (by omega))
        have hd : decide (x < d) = false := by simpa using hx
        have HD := Lib.hid hd
        clear HX HY hx hd
        go_wp2_with fail
        refine (less_any _ _ _).mono ?_
        rintro e w1 ⟨rfl, hb1⟩
        rw [HD.out]
        go_wp2_with fail
        go_roundw
        case rel => exact ⟨p, (p + q) / 2, by omega, by omega, rfl, by go_num, hb.trans (hb1.mono hb.size), HP, HG⟩
        case measure => simp [intOf]; omega
    · obtain rfl : p = q := by omega
      obtain ⟨g1, g2⟩ := HR.out p hq HP.out HQ.out
      by_cases hp : p < l.length
      · obtain rfl := HL.out (by omega)
        have c0 := cell_below (HC.out p hp) hb
        have d1 : decide (p < l.length) = true := by simpa using hp
        rw [d1, Bool.true_and] at g2
        clear HC HL HR HA d1 hlt
        generalize gi l p = x at *
        have n3 : (p : Int) < l.length := by omega
        have G1 := Lib.hid g1
        by_cases hx : x = d
        · subst hx
          have g2 : hh = true := by simpa using g2
          have G2 := Lib.hid g2
          clear g1 g2
          go_wp2_with fail
          go_returns
          (try rw [G1.out]); (try rw [G2.out])
          exact ⟨rfl, hb⟩
        · have g2 : hh = false := by simpa [hx] using g2
          have G2 := Lib.hid g2
          have hx : (x == d) = false := by simpa using hx
          clear g1 g2
          go_wp2_with (go_at_call 92; refine (isNaNs_any _ _).mono ?_; rintro e w' ⟨rfl, rfl⟩)
          go_returns
          (try rw [G1.out]); (try rw [G2.out])
          exact ⟨rfl, hb⟩
      · have d1 : decide (p < l.length) = false := by simpa using hp
        rw [d1, Bool.false_and] at g2
        have G1 := Lib.hid g1
        have G2 := Lib.hid g2
        have n3 : ¬ (p : Int) < l.length := by omega
        clear HC HL HR HA d1 hlt g1 g2
        go_wp2_with fail
        go_returns
        (try rw [G1.out]); (try rw [G2.out])
        exact ⟨rfl, hb⟩
end Go.Proofs.Ytgphkfonjfdifaa

namespace Go.Proofs.Ytgphkfonjfdifaa
set_option linter.unusedVariables false
set_option linter.unusedSimpArgs false
open Go.RowKit

/-- A world in which the box of a shop lies behind w. -/
def ShBox (w W : World) (s : Sh) : Prop :=
  Below w.heap.size w W ∧ W.cell? ⟨w.heap.size, 0, none⟩ = some (.int .i64 s.O) ∧ W.cell? ⟨w.heap.size, 1, none⟩ = some (.int .i64 s.C) ∧ W.cell? ⟨w.heap.size, 2, none⟩ = some (.slice s.aH s.H.length s.cH) ∧ W.cell? ⟨w.heap.size, 3, none⟩ = some (.int .i64 s.M) ∧ W.cell? ⟨w.heap.size, 4, none⟩ = some (.slice s.aS s.S.length s.cS) ∧ W.cell? ⟨w.heap.size, 5, none⟩ = some (.slice s.aJ s.J.length s.cJ)
theorem ShBox.start (w : World) (s : Sh) (T : TypeId) : ShBox w (w.alloc (.cells #[.int .i64 s.O, .int .i64 s.C, .slice s.aH s.H.length s.cH, .int .i64 s.M, .slice s.aS s.S.length s.cS, .slice s.aJ s.J.length s.cJ] T)) s :=
  ⟨(Below.refl _ _).alloc (Nat.le_refl _) _, by simp [go_sem], by simp [go_sem], by simp [go_sem], by simp [go_sem], by simp [go_sem], by simp [go_sem]⟩
theorem ShBox.on {w W W' : World} {s : Sh} (h : ShBox w W s) (hb : Below W.heap.size W W') : ShBox w W' s :=
  ⟨h.1.trans (hb.mono h.1.size), cell_below h.2.1 hb, cell_below h.2.2.1 hb, cell_below h.2.2.2.1 hb, cell_below h.2.2.2.2.1 hb, cell_below h.2.2.2.2.2.1 hb, cell_below h.2.2.2.2.2.2 hb⟩
theorem ShBox.drewN {w W : World} {s : Sh} (h : ShBox w W s) (n : Nat) : ShBox w (W.drewN n) s := h.on (below_drewN (Below.refl _ _) n)

set_option maxHeartbeats 400000 in
theorem sbt_any (n a b : Int) (w : World) :
    Calls Try.prog 53 #[.int .i64 n, .int .i64 a, .int .i64 b] w fun e w' => e = .returned (.bool (btw n a b)) ∧ w = w' := by
  by_cases h1 : a ≤ n
  · by_cases h2 : n ≤ b
    · rw [btw_t h1 h2]
      go_enter Try.func53, Try.ntmps53
      go_wp2
      go_ret
      exact ⟨rfl, rfl⟩
    · rw [btw_f (fun h => h2 h.2)]
      go_enter Try.func53, Try.ntmps53
      go_wp2
      go_ret
      exact ⟨rfl, rfl⟩
  · rw [btw_f (fun h => h1 h.1)]
    go_enter Try.func53, Try.ntmps53
    go_wp2
    go_ret
    exact ⟨rfl, rfl⟩
open Classical in
noncomputable def inShB (O C : Int) (l : List Int) (t m : Int) : Bool := decide (InSh O C l t m)
theorem inShB_iff {O C : Int} {l : List Int} {t m : Int} : inShB O C l t m = true ↔ InSh O C l t m := by unfold inShB; simp
theorem inShB_t {O C : Int} {l : List Int} {t m : Int} (h : InSh O C l t m) : inShB O C l t m = true := inShB_iff.2 h
theorem inShB_f {O C : Int} {l : List Int} {t m : Int} (h : ¬ InSh O C l t m) : inShB O C l t m = false := by rw [Bool.eq_false_iff]; exact fun g => h (inShB_iff.1 g)

set_option maxRecDepth 100000 in
set_option maxHeartbeats 1000000 in
theorem within_sh (s : Sh) (t m : Int) (w : World) (hI : IntsS w s.aH s.H) (hH : HolOk s.H) (o0 : 0 ≤ s.O) (o1 : s.O < s.C) (o2 : s.C ≤ 1440) (t0 : 0 ≤ t) (t1 : t ≤ 100000000000) (m0 : -100000 ≤ m) (m1 : m ≤ 100000) :
    Calls Try.prog 39 #[.agg #[.int .i64 s.O, .int .i64 s.C, .slice s.aH s.H.length s.cH, .int .i64 s.M, .slice s.aS s.S.length s.cS, .slice s.aJ s.J.length s.cJ], .int .i64 t, .int .i64 m] w fun e w' => e = .returned (.bool (inShB s.O s.C s.H t m)) ∧ Below w.heap.size w w' := by
  have HS := Lib.hid (fun W (hW : Below w.heap.size w W) => search_any s.aH s.H s.cH (t / 1440) W (hI.below hW) hH.asc hH.1)
  have hB := ShBox.start w s 25
  have hd0 : 0 ≤ t / 1440 := by omega
  have r0 : 0 ≤ t % 1440 := by omega
  have r1 : t % 1440 < 1440 := by omega
  have HT : Hid (inShB s.O s.C s.H t m = (!(hol s.H (t / 1440)) && (decide (s.O ≤ t % 1440) && decide (t % 1440 + m ≤ s.C)))) := Lib.hid (by
    rw [Bool.eq_iff_iff, inShB_iff]; unfold InSh; simp)
  generalize inShB s.O s.C s.H t m = R at *
  generalize hol s.H (t / 1440) = hh at *
  generalize cnt s.H (t / 1440) = cc at *
  clear hI hH
  go_enter Try.func39, Try.ntmps39
  go_wp2_with fail
  obtain ⟨wB, hwB⟩ : ∃ wB, w.alloc (.cells #[.int .i64 s.O, .int .i64 s.C, .slice s.aH s.H.length s.cH, .int .i64 s.M, .slice s.aS s.S.length s.cS, .slice s.aJ s.J.length s.cJ] 25) = wB := ⟨_, rfl⟩
  rw [hwB] at hB ⊢
  clear hwB
  refine (HS.out _ hB.1).mono ?_
  rintro e w1 ⟨rfl, hb1⟩
  have hB1 := hB.on hb1
  obtain ⟨hb, p0, p1, p2, p3, p4, p5⟩ := hB1
  clear hB hb1 HS
  go_wp2_with fail
  all_goals
    go_ret
    exact ⟨by rw [HT.out]; simp_all <;> omega, hb⟩

set_option maxRecDepth 100000 in
set_option maxHeartbeats 1000000 in
theorem next_sh (s : Sh) (t m : Int) (w : World) (hI : IntsS w s.aH s.H) (hH : HolOk s.H) (o0 : 0 ≤ s.O) (o1 : s.O < s.C) (o2 : s.C ≤ 1440) (t0 : 0 ≤ t) (t1 : t ≤ 10000000000) (m0 : -100000 ≤ m) (m1 : m ≤ s.C - s.O) :
    Calls Try.prog 66 #[.agg #[.int .i64 s.O, .int .i64 s.C, .slice s.aH s.H.length s.cH, .int .i64 s.M, .slice s.aS s.S.length s.cS, .slice s.aJ s.J.length s.cJ], .int .i64 t, .int .i64 m] w fun e w' => e = .returned (.int .i64 (nextV s.O s.C s.H t m)) ∧ Below w.heap.size w w' := by
  have HW := Lib.hid (fun W (hW : Below w.heap.size w W) u u0 u1 => within_sh s u m W (hI.below hW) hH o0 o1 o2 u0 u1 m0 (by omega))
  have hB := ShBox.start w s 25
  have HV : Hid (∀ x, IsNext s.O s.C s.H t m x → nextV s.O s.C s.H t m = x) := Lib.hid fun x h => nextV_eq h
  have HE : Hid (∀ d, 10000 < d → hol s.H d = false) := Lib.hid fun d hd => hol_late hH.late hd
  generalize nextV s.O s.C s.H t m = R at *
  have hd0 : 0 ≤ t / 1440 := by omega
  clear hI hH
  go_enter Try.func66, Try.ntmps66
  go_wp2_with fail
  obtain ⟨wB, hwB⟩ : ∃ wB, w.alloc (.cells #[.int .i64 s.O, .int .i64 s.C, .slice s.aH s.H.length s.cH, .int .i64 s.M, .slice s.aS s.S.length s.cS, .slice s.aJ s.J.length s.cJ] 25) = wB := ⟨_, rfl⟩
  rw [hwB] at hB ⊢
  clear hwB
  go_loopw [7] (fun i wr => ∃ d : Int, t / 1440 ≤ d ∧ d ≤ max (t / 1440 + 1) 10001 ∧ i = .int .i64 d ∧ ShBox w wr s ∧ Hid (NoSh s.O s.C s.H t m (1440 * d))) (fun i _ => (max (t / 1440 + 1) 10001 + 1 - intOf i).toNat)
  case atStart => exact ⟨t / 1440, by omega, by omega, rfl, hB, Lib.hid fun y h1 h2 => by omega⟩
  case round =>
    obtain ⟨d, hd1, hd2, rfl, hB1, HN⟩ := hrel
    obtain ⟨hb, p0, p1, p2, p3, p4, p5⟩ := hB1
    have hs1 := stDay_bd (O := s.O) (t := t) (d := d) o0 (by omega) (by omega)
    have HHit : Hid (InSh s.O s.C s.H (stDay s.O t d) m → R = stDay s.O t d) := Lib.hid fun h => HV.out _ (next_hit o0 (by omega) (by omega) HN.out h)
    have HMiss : Hid (¬ InSh s.O s.C s.H (stDay s.O t d) m → NoSh s.O s.C s.H t m (1440 * (d + 1)) ∧ d + 1 ≤ max (t / 1440 + 1) 10001) := Lib.hid fun h => ⟨next_miss o0 (by omega) (by omega) HN.out h, by
      by_cases g : d + 1 ≤ max (t / 1440 + 1) 10001
      · exact g
      · exact absurd (next_late o0 o1 o2 m1 (HE.out d (by omega)) (by omega)) h⟩
    obtain ⟨s1, s2, s3, s4⟩ := hs1
    have hX : stDay s.O t d = max t (1440 * d + s.O) := rfl
    have HX := Lib.hid hX
    clear HV HE HN hX
    generalize stDay s.O t d = x at *
    have hx3 : (t < d * 1440 + s.O ∧ x = d * 1440 + s.O) ∨ ((t ≤ d * 1440 + s.O ∧ d * 1440 + s.O ≤ t) ∧ x = t) ∨ (d * 1440 + s.O < t ∧ x = t) := by have := HX.out; omega
    clear HX
    have B3 : ShBox w wr s := ⟨hb, p0, p1, p2, p3, p4, p5⟩
    have HB3 := Lib.hid B3
    clear B3
    by_cases hs : InSh s.O s.C s.H x m
    · have HR := Lib.hid (HHit.out hs)
      have HI := Lib.hid (inShB_t hs)
      clear HHit HMiss hs
      rcases hx3 with ⟨hl, rfl⟩ | ⟨hl, rfl⟩ | ⟨hl, rfl⟩
      all_goals
        go_wp2_with fail
        refine (HW.out _ hb _ (by omega) (by omega)).mono ?_
        rintro e w1 ⟨rfl, hb1⟩
        first | rw [HI.out] | (rw [show d * 1440 + s.O = t by omega, HI.out])
        go_wp2_with fail
        go_ret
        rw [HR.out]
        exact ⟨rfl, hb.trans (hb1.mono hb.size)⟩
    · obtain ⟨hn1, hn2⟩ := HMiss.out hs
      have HR := Lib.hid hn1
      have HI := Lib.hid (inShB_f hs)
      clear HHit HMiss hs hn1
      rcases hx3 with ⟨hl, rfl⟩ | ⟨hl, rfl⟩ | ⟨hl, rfl⟩
      all_goals
        go_wp2_with fail
        refine (HW.out _ hb _ (by omega) (by omega)).mono ?_
        rintro e w1 ⟨rfl, hb1⟩
        first | rw [HI.out] | (rw [show d * 1440 + s.O = t by omega, HI.out])
        go_wp2_with fail
        go_roundw
        case rel => exact ⟨d + 1, by omega, hn2, rfl, HB3.out.on hb1, HR⟩
        case measure => simp [intOf]; omega
end Go.Proofs.Ytgphkfonjfdifaa

namespace Go.Proofs.Ytgphkfonjfdifaa
set_option linter.unusedVariables false
set_option linter.unusedSimpArgs false
open Go.RowKit

theorem ret_i {a b : Int} (h : a = b) : Ending.returned (.int .i64 a) = .returned (.int .i64 b) := by rw [h]

set_option maxRecDepth 100000 in
set_option maxHeartbeats 1000000 in
theorem open_sh (s : Sh) (t : Int) (w : World) (hI : IntsS w s.aH s.H) (hH : HolOk s.H) (o0 : 0 ≤ s.O) (o1 : s.O < s.C) (o2 : s.C ≤ 1440) (t0 : 0 ≤ t) (t1 : t ≤ 10000000000) :
    Calls Try.prog 82 #[.agg #[.int .i64 s.O, .int .i64 s.C, .slice s.aH s.H.length s.cH, .int .i64 s.M, .slice s.aS s.S.length s.cS, .slice s.aJ s.J.length s.cJ], .int .i64 t] w fun e w' => e = .returned (.int .i64 (opnB s.O s.C s.H t)) ∧ Below w.heap.size w w' := by
  have HS := Lib.hid (fun W (hW : Below w.heap.size w W) => search_any s.aH s.H s.cH (t / 1440) W (hI.below hW) hH.asc hH.1)
  have hB := ShBox.start w s 25
  obtain ⟨b0, b1, b2⟩ := preB_bd (O := s.O) (C := s.C) hH.asc hH.pos o1 o2 o0 (d := t / 1440) (by omega)
  have c1 := cnt_bd s.H (t / 1440)
  have h4 := hH.1
  have hT : opnB s.O s.C s.H t = preB s.O s.C s.H (t / 1440) + if hol s.H (t / 1440) then 0 else min (max (t % 1440 - s.O) 0) (s.C - s.O) := rfl
  have HT := Lib.hid hT
  clear hT
  generalize opnB s.O s.C s.H t = R at *
  unfold preB at b1 b2 HT
  generalize cnt s.H (t / 1440) = cc at *
  obtain ⟨q, hq⟩ : ∃ q, (t / 1440 - cc) * (s.C - s.O) = q := ⟨_, rfl⟩
  rw [hq] at b1 b2 HT
  have r0 : 0 ≤ t % 1440 := by omega
  have r1 : t % 1440 < 1440 := by omega
  have HQ := Lib.hid hq
  have d0 : 0 ≤ t / 1440 := by omega
  have d1 : t / 1440 ≤ 10000000000 := by omega
  clear hI hH hq
  go_enter Try.func82, Try.ntmps82
  go_wp2_with fail
  obtain ⟨wB, hwB⟩ : ∃ wB, w.alloc (.cells #[.int .i64 s.O, .int .i64 s.C, .slice s.aH s.H.length s.cH, .int .i64 s.M, .slice s.aS s.S.length s.cS, .slice s.aJ s.J.length s.cJ] 25) = wB := ⟨_, rfl⟩
  rw [hwB] at hB ⊢
  clear hwB
  have HB := Lib.hid hB
  obtain ⟨hb, p0, p1, p2, p3, p4, p5⟩ := hB
  go_quiet (fail)
  have hD := HB.out.drewN nq
  generalize wB.drewN nq = wD at *
  clear HB hb p0 p1 p2 p3 p4 p5
  have HD := Lib.hid hD
  obtain ⟨hb, p0, p1, p2, p3, p4, p5⟩ := hD
  go_wp2_with fail
  refine (HS.out _ hb).mono ?_
  rintro e w1 ⟨rfl, hb1⟩
  obtain ⟨hb, p0, p1, p2, p3, p4, p5⟩ := HD.out.on hb1
  clear HS HD hb1
  cases hh : hol s.H (t / 1440) with
  | true =>
    have hT := HT.out
    rw [hh, if_pos rfl] at hT
    have HT := Lib.hid hT
    clear hT hh
    have hq := HQ.out
    go_wp2_with fail
    go_ret
    exact ⟨ret_i (by have := HT.out; omega), hb⟩
  | false =>
    have hT := HT.out
    rw [hh] at hT
    simp only [Bool.false_eq_true, if_false] at hT
    have HT := Lib.hid hT
    clear hT hh
    have hq := HQ.out
    rcases Int.lt_trichotomy (t % 1440 - s.O) 0 with h1 | h1 | h1
    · go_wp2_with fail
      go_ret
      exact ⟨ret_i (by have := HT.out; omega), hb⟩
    · have h1' : t % 1440 - s.O ≤ 0 := by omega
      have h1'' : 0 ≤ t % 1440 - s.O := by omega
      clear h1
      go_wp2_with fail
      go_ret
      exact ⟨ret_i (by have := HT.out; omega), hb⟩
    · rcases Int.lt_trichotomy (t % 1440 - s.O) (s.C - s.O) with h2 | h2 | h2
      · go_wp2_with fail
        go_ret
        exact ⟨ret_i (by have := HT.out; omega), hb⟩
      · have h1' : t % 1440 - s.O ≤ s.C - s.O := by omega
        have h1'' : s.C - s.O ≤ t % 1440 - s.O := by omega
        clear h2
        go_wp2_with fail
        go_ret
        exact ⟨ret_i (by have := HT.out; omega), hb⟩
      · go_wp2_with fail
        go_ret
        exact ⟨ret_i (by have := HT.out; omega), hb⟩

/-- The cells of a shop's box in a world. -/
def ShAt (W : World) (b : Nat) (s : Sh) : Prop :=
  W.cell? ⟨b, 0, none⟩ = some (.int .i64 s.O) ∧ W.cell? ⟨b, 1, none⟩ = some (.int .i64 s.C) ∧ W.cell? ⟨b, 2, none⟩ = some (.slice s.aH s.H.length s.cH) ∧ W.cell? ⟨b, 3, none⟩ = some (.int .i64 s.M) ∧ W.cell? ⟨b, 4, none⟩ = some (.slice s.aS s.S.length s.cS) ∧ W.cell? ⟨b, 5, none⟩ = some (.slice s.aJ s.J.length s.cJ)
theorem ShAt.on {W W' : World} {b : Nat} {s : Sh} (h : ShAt W b s) (hb : Below W.heap.size W W') : ShAt W' b s :=
  ⟨cell_below h.1 hb, cell_below h.2.1 hb, cell_below h.2.2.1 hb, cell_below h.2.2.2.1 hb, cell_below h.2.2.2.2.1 hb, cell_below h.2.2.2.2.2 hb⟩

set_option maxRecDepth 100000 in
set_option maxHeartbeats 2000000 in
/-- The closure of after: whether so many minutes are open up to t + n. -/
theorem after1_sh (s : Sh) (t R : Int) (n : Nat) (b b1 b2 : Nat) (w : World) (hI : IntsS w s.aH s.H) (hH : HolOk s.H) (o0 : 0 ≤ s.O) (o1 : s.O < s.C) (o2 : s.C ≤ 1440) (t0 : 0 ≤ t) (t1 : t ≤ 1000000000) (n1 : n ≤ 2000000000)
    (hS : ShAt w b s) (c1 : w.cell? ⟨b1, 0, none⟩ = some (.int .i64 t)) (c2 : w.cell? ⟨b2, 0, none⟩ = some (.int .i64 R)) :
    Calls Try.prog 84 #[.int .i64 n, .pointer (some ⟨b, 0, none⟩), .pointer (some ⟨b1, 0, none⟩), .pointer (some ⟨b2, 0, none⟩)] w fun e w' => e = .returned (.bool (decide (R ≤ opnB s.O s.C s.H (t + n)))) ∧ Below w.heap.size w w' := by
  have HO := Lib.hid (fun W (hW : Below w.heap.size w W) => open_sh s (t + n) W (hI.below hW) hH o0 o1 o2 (by omega) (by omega))
  obtain ⟨p0, p1, p2, p3, p4, p5⟩ := hS
  have ws : IntKind.i64.wrap (t + n) = t + n := IntWalk.i64_in _ (by omega)
  have z0 := block_lt p0
  have z1 := block_lt c1
  have z2 := block_lt c2
  have hB := Below.refl w.heap.size w
  generalize opnB s.O s.C s.H (t + n) = v at *
  clear hI hH
  go_enter Try.func84, Try.ntmps84
  go_wp2_with fail
  go_region_held3 (fun w' => w'.cell? ⟨b, 0, none⟩ = some (.int .i64 s.O) ∧ w'.cell? ⟨b, 1, none⟩ = some (.int .i64 s.C) ∧ w'.cell? ⟨b, 2, none⟩ = some (.slice s.aH s.H.length s.cH) ∧ w'.cell? ⟨b, 3, none⟩ = some (.int .i64 s.M) ∧ w'.cell? ⟨b, 4, none⟩ = some (.slice s.aS s.S.length s.cS) ∧ w'.cell? ⟨b, 5, none⟩ = some (.slice s.aJ s.J.length s.cJ) ∧ w'.cell? ⟨b1, 0, none⟩ = some (.int .i64 t) ∧ w'.cell? ⟨b2, 0, none⟩ = some (.int .i64 R)) (go_keep)
    ((go_at_call 82
      refine (HO.out _ (by first | exact hB.drew | exact hB | exact hB.drew.drew | exact below_drewN hB _ | exact below_drewN hB.drew _)).mono ?_
      rintro E w9 ⟨rfl, hb9⟩
      have p0 := (hb9.cell (p := ⟨b, 0, none⟩) z0).trans p0
      have p1 := (hb9.cell (p := ⟨b, 1, none⟩) z0).trans p1
      have p2 := (hb9.cell (p := ⟨b, 2, none⟩) z0).trans p2
      have p3 := (hb9.cell (p := ⟨b, 3, none⟩) z0).trans p3
      have p4 := (hb9.cell (p := ⟨b, 4, none⟩) z0).trans p4
      have p5 := (hb9.cell (p := ⟨b, 5, none⟩) z0).trans p5
      have c1 := (hb9.cell (p := ⟨b1, 0, none⟩) z1).trans c1
      have c2 := (hb9.cell (p := ⟨b2, 0, none⟩) z2).trans c2
      have hB : Below w.heap.size w w9 := by first | exact (hB.drew).trans (hb9.mono hB.size) | exact hB.trans (hb9.mono hB.size)))
  all_goals
    go_wp2_with fail
    go_ret
    exact ⟨rfl, hB⟩

set_option maxRecDepth 100000 in
set_option maxHeartbeats 1000000 in
/-- sort.Search over the closure of after: each call answers p, which stays true. -/
theorem sortSearch_any (N R : Nat) (lb : Array Value) (p : Nat → Bool) (w : World) (hN : N ≤ 2000000000) (hm : ∀ i j, i ≤ j → p i = true → p j = true)
    (hp : ∀ j W, j < N → Below w.heap.size w W → Calls Try.prog 84 (#[.int .i64 j] ++ lb) W fun e w' => e = .returned (.bool (p j)) ∧ Below W.heap.size W w')
    (hR : ∀ n, n ≤ N → (∀ j, j < n → p j = false) → (n < N → p n = true) → n = R) :
    Calls Try.prog 83 #[.int .i64 N, .func (.func 84) #[] lb] w fun e w' => e = .returned (.int .i64 R) ∧ Below w.heap.size w w' := by
  have HP := Lib.hid hp
  have HM := Lib.hid hm
  have HR := Lib.hid hR
  clear hp hm hR
  go_enter Try.func83, Try.ntmps83
  go_wp2_with fail
  go_loopw [5, 6] (fun x y wr => ∃ i j : Nat, i ≤ j ∧ j ≤ N ∧ x = .int .i64 i ∧ y = .int .i64 j ∧ Below w.heap.size w wr ∧ Hid (∀ k, k < i → p k = false) ∧ Hid (∀ k, j ≤ k → k < N → p k = true)) (fun x y _ => (intOf y).toNat - (intOf x).toNat)
  case atStart => exact ⟨0, N, by omega, by omega, rfl, rfl, Below.refl _ _, Lib.hid fun k hk => absurd hk (Nat.not_lt_zero _), Lib.hid fun k h1 h2 => absurd h2 (by omega)⟩
  case round =>
    obtain ⟨i, j, hij, hj, rfl, rfl, hb, HA, HB⟩ := hrel
    by_cases hlt : i < j
    · have HK := Lib.hid (fun W => HP.out ((i + j) / 2) W (by omega))
      have HX : Hid (p ((i + j) / 2) = false → ∀ k, k < (i + j) / 2 + 1 → p k = false) := Lib.hid fun h k hk => by
        cases g : p k with
        | false => rfl
        | true => rw [HM.out k ((i + j) / 2) (by omega) g] at h; cases h
      have HY : Hid (p ((i + j) / 2) = true → ∀ k, (i + j) / 2 ≤ k → k < N → p k = true) := Lib.hid fun h k h1 h2 => HM.out _ _ h1 h
      have hq : (((i + j) / 2 : Nat) : Int) = ((i : Int) + j) / 2 := by omega
      have HQ := Lib.hid hq
      rw [hq] at HK
      clear HP HM HR hq
      cases hpk : p ((i + j) / 2) with
      | true =>
        have HG := Lib.hid (HY.out hpk)
        rw [hpk] at HK
        clear HX HY hpk
        go_wp2_with fail
        refine (HK.out _ hb).mono ?_
        rintro e w1 ⟨rfl, hb1⟩
        go_wp2_with fail
        go_roundw
        case rel => exact ⟨i, (i + j) / 2, by omega, by omega, rfl, by go_num, hb.trans (hb1.mono hb.size), HA, HG⟩
        case measure => simp [intOf]; omega
      | false =>
        have HG := Lib.hid (HX.out hpk)
        rw [hpk] at HK
        clear HX HY hpk
        go_wp2_with fail
        refine (HK.out _ hb).mono ?_
        rintro e w1 ⟨rfl, hb1⟩
        go_wp2_with fail
        go_roundw
        case rel => exact ⟨(i + j) / 2 + 1, j, by omega, hj, by go_num, rfl, hb.trans (hb1.mono hb.size), HG, HB⟩
        case measure => simp [intOf]; omega
    · obtain rfl : i = j := by omega
      have HE := Lib.hid (HR.out i hj HA.out (fun h => HB.out i (Nat.le_refl _) h))
      clear HP HM HR hlt
      go_wp2_with fail
      go_ret
      rw [HE.out]
      exact ⟨rfl, hb⟩
end Go.Proofs.Ytgphkfonjfdifaa

namespace Go.Proofs.Ytgphkfonjfdifaa
set_option linter.unusedVariables false
set_option linter.unusedSimpArgs false
/-- Whether one of the first k elements is such. -/
def anyK (p : Nat → Bool) : Nat → Bool
  | 0 => false
  | k + 1 => anyK p k || p k
theorem anyK_false {p : Nat → Bool} : ∀ k, (∀ j, j < k → p j = false) → anyK p k = false
  | 0, _ => rfl
  | k + 1, h => by rw [anyK, anyK_false k (fun j hj => h j (by omega)), h k (by omega)]; rfl
theorem anyK_true {p : Nat → Bool} {j : Nat} (h : p j = true) : ∀ k, j < k → anyK p k = true
  | k + 1, hj => by
    rw [anyK]
    by_cases e : j = k
    · subst e; rw [h, Bool.or_true]
    · rw [anyK_true h k (by omega), Bool.true_or]
theorem anyK_iff {p : Nat → Bool} : ∀ k, anyK p k = false ↔ ∀ j, j < k → p j = false
  | 0 => by simp [anyK]
  | k + 1 => by
    rw [anyK, Bool.or_eq_false_iff, anyK_iff k]
    constructor
    · intro h j hj
      by_cases e : j = k
      · subst e; exact h.2
      · exact h.1 j (by omega)
    · intro h; exact ⟨fun j hj => h j (by omega), h k (by omega)⟩
/-- The place of the first of n elements that is such, or -1. -/
def idxK (p : Nat → Bool) : Nat → Int
  | 0 => -1
  | k + 1 => if idxK p k = -1 then (if p k then (k : Int) else -1) else idxK p k
theorem idxK_any (p : Nat → Bool) : ∀ k, decide (0 ≤ idxK p k) = anyK p k
  | 0 => by simp [idxK, anyK]
  | k + 1 => by
    have ih := idxK_any p k
    rw [idxK, anyK, ← ih]
    have hh : idxK p k = -1 ∨ 0 ≤ idxK p k := by
      clear ih
      induction k with
      | zero => left; rfl
      | succ k ih =>
        rw [idxK]
        rcases ih with h | h
        · rw [if_pos h]; split
          · right; omega
          · left; rfl
        · rw [if_neg (by omega)]; right; exact h
    rcases hh with h | h
    · rw [if_pos h, h]
      cases p k <;> simp
    · rw [if_neg (by omega)]
      simp [h]
theorem idxK_hit {p : Nat → Bool} {k : Nat} (h : p k = true) (hb : ∀ j, j < k → p j = false) : ∀ n, k < n → idxK p n = k
  | n + 1, hn => by
    rw [idxK]
    by_cases e : k = n
    · subst e
      have : idxK p k = -1 := by
        have := idxK_any p k
        rw [anyK_false k hb, decide_eq_false_iff_not] at this
        clear h hn
        induction k with
        | zero => rfl
        | succ k ih =>
          have i2 := ih (fun j hj => hb j (by omega)) (by
            intro h0
            have h1 := idxK_any p k
            rw [anyK_false k (fun j hj => hb j (by omega)), decide_eq_false_iff_not] at h1
            exact h1 h0)
          rw [idxK, i2, if_pos rfl, hb k (by omega)]; rfl
      rw [if_pos this, if_pos h]
    · rw [idxK_hit h hb n (by omega), if_neg (by omega)]
theorem idxK_miss {p : Nat → Bool} : ∀ n, (∀ j, j < n → p j = false) → idxK p n = -1
  | 0, _ => rfl
  | n + 1, h => by rw [idxK, idxK_miss n (fun j hj => h j (by omega)), if_pos rfl, h n (by omega)]; rfl

end Go.Proofs.Ytgphkfonjfdifaa
