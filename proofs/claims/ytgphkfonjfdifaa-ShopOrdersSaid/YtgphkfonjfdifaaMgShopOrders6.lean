/-
  Plans; the walks of wide, and of the reference Shaped and apart. By an AI agent.; The walk of isPlan of package shop. By an AI agent.; The walk of allPlaced of package shop. By an AI agent.; The walks of the methods of a placed step. By an AI agent.
-/
import Derived.Test.YtgphkfonjfdifaaMgShopOrders2
import Derived.Test.YtgphkfonjfdifaaMgShopOrders4
import Derived.Test.YtgphkfonjfdifaaMgShopOrders5
import Derived.Deep.RegionHeld3
import Derived.Laws.EntriesVeiled
import Derived.Deep.AppendLies
import Derived.Deep.RegionLaw
import Derived.OwnWalk
import Derived.Laws.OwnMore
import Derived.BigRegion

namespace Go.Proofs.Ytgphkfonjfdifaa
set_option linter.unusedVariables false
set_option linter.unusedSimpArgs false
open Go.RowKit

/-- A plan has a start in range for each step. -/
def rowOk (s : Sh) (P : List (List Int)) (i : Nat) : Prop := (gr P i).length = (gj s.J i).length ∧ ∀ k, k < (gr P i).length → 0 ≤ gi (gr P i) k ∧ gi (gr P i) k ≤ 100000000
def PlanOk (s : Sh) (P : List (List Int)) : Prop := P.length = s.J.length ∧ ∀ i, i < P.length → rowOk s P i
open Classical in
noncomputable def planB (s : Sh) (P : List (List Int)) : Bool := decide (PlanOk s P)
theorem planB_iff {s : Sh} {P : List (List Int)} : planB s P = true ↔ PlanOk s P := by unfold planB; simp
theorem planB_t {s : Sh} {P : List (List Int)} (h : PlanOk s P) : planB s P = true := planB_iff.2 h
theorem planB_f {s : Sh} {P : List (List Int)} (h : ¬ PlanOk s P) : planB s P = false := by rw [Bool.eq_false_iff]; exact fun g => h (planB_iff.1 g)
/-- When a step's job is ready for it. -/
def rdyV (s : Sh) (P : List (List Int)) (i k : Nat) : Int := if k = 0 then 0 else gi (gr P i) (k - 1) + (gs (gj s.J i) (k - 1)).2.1 + (gs (gj s.J i) (k - 1)).2.2.2
/-- The setup between two steps. -/
def waitV (S : List Int) (a b : Stp) : Int := if a.2.2.1 = b.2.2.1 then 0 else gi S a.1.toNat
/-- Two steps with their starts are right beside each other. -/
def apB (S : List Int) (a : Stp) (t : Int) (b : Stp) (u : Int) : Bool := decide (t + a.2.1 + waitV S a b ≤ u) || decide (u + b.2.1 + waitV S a b ≤ t)

set_option maxRecDepth 100000 in
set_option maxHeartbeats 1000000 in
theorem wide_sh (ap : Option Addr) (P : List (List Int)) (cp : Nat) (w : World) (hP : RowsS w ap P) :
    Calls Try.prog 12 #[.slice ap P.length cp] w fun e w' => SomeB e ∧ Below w.heap.size w w' := by
  obtain ⟨hl, blk, off, ad, cq, hadr, hc⟩ := hP
  have HC : Hid (∀ k, k < P.length → w.cell? ⟨blk, off + k, none⟩ = some (.slice (ad k) (gr P k).length (cq k)) ∧ (gr P k).length ≤ 9223372036854775807) := Lib.hid fun k hk => ⟨(hc k hk).1, (hc k hk).2.1.1⟩
  have HL : Hid (0 < P.length → ap = some ⟨blk, off, none⟩) := Lib.hid fun h => hadr (fun e => by rw [e] at h; simp at h)
  clear hc hadr
  go_enter Try.func12, Try.ntmps12
  go_wp2_with fail
  all_goals first
    | (go_ret; exact ⟨⟨_, rfl⟩, Below.refl _ _⟩)
    | skip
  go_loopw [3] (fun i wr => ∃ k : Nat, k ≤ P.length ∧ i = .int .i64 k ∧ Below w.heap.size w wr) (fun i _ => P.length - (intOf i).toNat)
  case atStart => exact ⟨0, Nat.zero_le _, rfl, Below.refl _ _⟩
  case round =>
    obtain ⟨k, hk, rfl, hb⟩ := hrel
    by_cases hlt : k < P.length
    · obtain rfl := HL.out (by omega)
      obtain ⟨c0, hln⟩ := HC.out k hlt
      have c0 := cell_below c0 hb
      have n3 : (k : Int) < P.length := by omega
      clear HC HL
      generalize (gr P k).length = n at *
      by_cases hn : 20 < n
      · have hn' : (20 : Int) < n := by omega
        go_wp2_with fail
        go_ret
        exact ⟨⟨_, rfl⟩, hb⟩
      · have hn' : ¬ (20 : Int) < n := by omega
        go_wp2_with fail
        go_roundw
        case rel => exact ⟨k + 1, by omega, by go_num, hb⟩
        case measure => simp [intOf]; omega
    · obtain rfl : k = P.length := by omega
      clear HC HL hlt
      go_wp2_with fail
      go_ret
      exact ⟨⟨_, rfl⟩, hb⟩

set_option maxRecDepth 100000 in
set_option maxHeartbeats 1000000 in
theorem apart_sh (s : Sh) (a b : Stp) (t u : Int) (w : World) (hI : IntsS w s.aS s.S) (hM : (s.S.length : Int) = s.M) (hS : ∀ j, j < s.S.length → setAt s.S j) (a0 : 0 ≤ a.1 ∧ a.1 < s.M) (a1 : 1 ≤ a.2.1 ∧ a.2.1 ≤ 1440) (b1 : 1 ≤ b.2.1 ∧ b.2.1 ≤ 1440) (t0 : 0 ≤ t ∧ t ≤ 100000000) (u0 : 0 ≤ u ∧ u ≤ 100000000) :
    Calls Try.prog 51 #[.agg #[.int .i64 s.O, .int .i64 s.C, .slice s.aH s.H.length s.cH, .int .i64 s.M, .slice s.aS s.S.length s.cS, .slice s.aJ s.J.length s.cJ], .agg #[.int .i64 a.1, .int .i64 a.2.1, .int .i64 a.2.2.1, .int .i64 a.2.2.2], .int .i64 t, .agg #[.int .i64 b.1, .int .i64 b.2.1, .int .i64 b.2.2.1, .int .i64 b.2.2.2], .int .i64 u] w fun e w' => e = .returned (.bool (apB s.S a t b u)) ∧ Below w.heap.size w w' := by
  obtain ⟨hl, hbd, blk, off, hadr, hc⟩ := hI
  obtain ⟨n, hn⟩ : ∃ n : Nat, a.1 = n := ⟨a.1.toNat, by omega⟩
  have hnl : n < s.S.length := by omega
  have c0 := hc n hnl
  have ha := hadr (fun e => by rw [e] at hnl; simp at hnl)
  obtain ⟨g0, g1⟩ := hS n hnl
  have hw : waitV s.S a b = if a.2.2.1 = b.2.2.1 then 0 else gi s.S n := by unfold waitV; rw [hn, Int.toNat_natCast]
  have hnl0 : (n : Int) < s.S.length := by omega
  obtain ⟨a, x1, x2, x3⟩ := a
  obtain ⟨y0, y1, y2, y3⟩ := b
  dsimp only at *
  unfold apB
  rw [hw, hn]
  have HA := Lib.hid ha
  clear hbd hadr hc hS hw ha hM
  generalize gi s.S n = g at *
  obtain ⟨t0, t1⟩ := t0
  obtain ⟨u0, u1⟩ := u0
  obtain ⟨a1, a2⟩ := a1
  obtain ⟨b1, b2⟩ := b1
  have hb : ∀ O1 O2 O3, Below w.heap.size w (((w.alloc O1).alloc O2).alloc O3) := fun O1 O2 O3 => (((Below.refl _ _).alloc (Nat.le_refl _) _ : Below w.heap.size w (w.alloc O1)).alloc (by simp) _).alloc (by simp; omega) _
  have cq : ∀ O1 O2 O3, (((w.alloc O1).alloc O2).alloc O3).cell? ⟨blk, off + n, none⟩ = some (.int .i64 g) := fun O1 O2 O3 => cell_below c0 ((((Below.refl _ _).alloc (Nat.le_refl _) _ : Below w.heap.size w (w.alloc O1)).alloc (by simp) _).alloc (by simp; omega) _)
  have HBw := Lib.hid hb
  clear hb
  by_cases hc : x2 = y2
  · have hc' : (x2 != y2) = false := by simpa using hc
    simp only [hc, if_true, Int.add_zero]
    clear hc
    by_cases h1 : t + x1 ≤ u
    · rw [decide_eq_true h1, Bool.true_or]
      go_enter Try.func51, Try.ntmps51
      go_wp2_with fail
      go_ret
      exact ⟨rfl, HBw.out _ _ _⟩
    · rw [decide_eq_false h1, Bool.false_or]
      by_cases h2 : u + y1 ≤ t
      · rw [decide_eq_true h2]
        go_enter Try.func51, Try.ntmps51
        go_wp2_with fail
        go_ret
        exact ⟨rfl, HBw.out _ _ _⟩
      · rw [decide_eq_false h2]
        go_enter Try.func51, Try.ntmps51
        go_wp2_with fail
        go_ret
        exact ⟨rfl, HBw.out _ _ _⟩
  · have hc' : (x2 != y2) = true := by simpa using hc
    simp only [hc, if_false]
    clear hc
    have ha := HA.out
    by_cases h1 : t + x1 + g ≤ u
    · rw [decide_eq_true h1, Bool.true_or]
      go_enter Try.func51, Try.ntmps51
      go_wp2_with fail
      go_ret
      exact ⟨rfl, HBw.out _ _ _⟩
    · rw [decide_eq_false h1, Bool.false_or]
      by_cases h2 : u + y1 + g ≤ t
      · rw [decide_eq_true h2]
        go_enter Try.func51, Try.ntmps51
        go_wp2_with fail
        go_ret
        exact ⟨rfl, HBw.out _ _ _⟩
      · rw [decide_eq_false h2]
        go_enter Try.func51, Try.ntmps51
        go_wp2_with fail
        go_ret
        exact ⟨rfl, HBw.out _ _ _⟩

set_option maxRecDepth 100000 in
set_option maxHeartbeats 4000000 in
theorem shaped_sh (s : Sh) (ap : Option Addr) (P : List (List Int)) (cp : Nat) (w : World) (hI : ShS w s) (hV : ShOk s) (hP : RowsS w ap P) :
    Calls Try.prog 46 #[.agg #[.int .i64 s.O, .int .i64 s.C, .slice s.aH s.H.length s.cH, .int .i64 s.M, .slice s.aS s.S.length s.cS, .slice s.aJ s.J.length s.cJ], .slice ap P.length cp] w fun e w' => e = .returned (.bool (planB s P)) ∧ Below w.heap.size w w' := by
  have h12 := hV.2.2.2.1
  have HT : Hid (P.length = s.J.length → (∀ i, i < P.length → rowOk s P i) → planB s P = true) := Lib.hid fun h1 h2 => planB_t ⟨h1, h2⟩
  have HF : Hid (∀ i, i < P.length → ¬ rowOk s P i → planB s P = false) := Lib.hid fun i hi h => planB_f fun g => h (g.2 i hi)
  have HG : Hid (P.length ≠ s.J.length → planB s P = false) := Lib.hid fun h => planB_f fun g => h g.1
  obtain ⟨hl, blk, off, ad, cq, hadr, hc⟩ := hP
  have HC : Hid (∀ k, k < P.length → w.cell? ⟨blk, off + k, none⟩ = some (.slice (ad k) (gr P k).length (cq k)) ∧ IntsS w (ad k) (gr P k)) := Lib.hid fun k hk => ⟨(hc k hk).1, (hc k hk).2.1⟩
  have HL : Hid (0 < P.length → ap = some ⟨blk, off, none⟩) := Lib.hid fun h => hadr (fun e => by rw [e] at h; simp at h)
  obtain ⟨hlJ, bJ, oJ, aj, cj, hadrJ, hcJ⟩ := hI.2.2
  have HE : Hid (∀ k, k < s.J.length → w.cell? ⟨bJ, oJ + k, none⟩ = some (.slice (aj k) (gj s.J k).length (cj k)) ∧ (gj s.J k).length ≤ 9223372036854775807) := Lib.hid fun k hk => ⟨(hcJ k hk).1, (hcJ k hk).2.1.1⟩
  have HLJ : Hid (0 < s.J.length → s.aJ = some ⟨bJ, oJ, none⟩) := Lib.hid fun h => hadrJ (fun e => by rw [e] at h; simp at h)
  have hB := ShBox.start w s 25
  generalize planB s P = R at *
  clear hI hV hadr hc hadrJ hcJ
  by_cases hlen : P.length = s.J.length
  rotate_left
  · have hne : ((P.length : Int) != s.J.length) = true := by simp; omega
    have HR := Lib.hid (HG.out hlen)
    clear hlen HT HF HG HC HL HE HLJ
    go_enter Try.func46, Try.ntmps46
    go_wp2_with fail
    go_ret
    rw [HR.out]
    exact ⟨rfl, hB.1⟩
  · have hne : ((P.length : Int) != s.J.length) = false := by simp; omega
    have HT := Lib.hid (HT.out hlen)
    have HLen := Lib.hid hlen
    clear hlen HG
    go_enter Try.func46, Try.ntmps46
    go_wp2_with fail
    obtain ⟨wB, hwB⟩ : ∃ wB, w.alloc (.cells #[.int .i64 s.O, .int .i64 s.C, .slice s.aH s.H.length s.cH, .int .i64 s.M, .slice s.aS s.S.length s.cS, .slice s.aJ s.J.length s.cJ] 25) = wB := ⟨_, rfl⟩
    rw [hwB] at hB ⊢
    clear hwB hne
    have HB0 := Lib.hid hB
    clear hB
    go_loopw [5] (fun i wr => ∃ k : Nat, k ≤ P.length ∧ i = .int .i64 k ∧ ShBox w wr s ∧ Hid (∀ j, j < k → rowOk s P j)) (fun i _ => P.length - (intOf i).toNat)
    case atStart => exact ⟨0, Nat.zero_le _, rfl, HB0.out, Lib.hid fun j hj => absurd hj (Nat.not_lt_zero _)⟩
    case round =>
      clear HB0
      obtain ⟨k, hk, rfl, hB1, HA⟩ := hrel
      have HB := Lib.hid hB1
      obtain ⟨hb, p0, p1, p2, p3, p4, p5⟩ := hB1
      by_cases hlt : k < P.length
      · obtain rfl := HL.out (by omega)
        obtain ⟨c0, hI1⟩ := HC.out k hlt
        have c0 := cell_below c0 hb
        have hkJ : k < s.J.length := by have := HLen.out; omega
        obtain ⟨e0, hlnJ⟩ := HE.out k hkJ
        have e0 := cell_below e0 hb
        have haJ := HLJ.out (by omega)
        have n9 : (k : Int) < P.length := by omega
        have n10 : (k : Int) < s.J.length := by omega
        have HK : Hid (rowOk s P k → ∀ j, j < k + 1 → rowOk s P j) := Lib.hid fun h j hj => by
          by_cases e : j = k
          · subst e; exact h
          · exact HA.out j (by omega)
        have HFk := Lib.hid (HF.out k hlt)
        obtain ⟨hln, hbd, b1, f1, hadr1, hc1⟩ := hI1
        have HC1 := Lib.hid hc1
        have HL1 : Hid (0 < (gr P k).length → ad k = some ⟨b1, f1, none⟩) := Lib.hid fun h => hadr1 (fun e => by rw [e] at h; simp at h)
        have HBD := Lib.hid hbd
        unfold rowOk at HK HFk
        rw [haJ] at p5
        have C0 := Lib.hid (HC.out k hlt).1
        clear HC HL HE HLJ HT HF haJ hbd hc1 hadr1
        generalize (gj s.J k).length = lj at *
        generalize aj k = a2 at *
        generalize cj k = c2 at *
        by_cases hll : (gr P k).length = lj
        rotate_left
        · have hne : (((gr P k).length : Int) != lj) = true := by simp; omega
          have HR := Lib.hid (HFk.out fun g => hll g.1)
          clear HK HFk hll HC1 HL1 HBD C0
          generalize gr P k = l at *
          generalize ad k = a1 at *
          generalize cq k = c1 at *
          go_wp2_with fail
          go_quiet (fail)
          go_wp2_with fail
          go_ret
          rw [HR.out]
          exact ⟨rfl, below_drewN hb _⟩
        · have hne : (((gr P k).length : Int) != lj) = false := by simp; omega
          have HK : Hid ((∀ j, j < (gr P k).length → 0 ≤ gi (gr P k) j ∧ gi (gr P k) j ≤ 100000000) → ∀ j, j < k + 1 → (gr P j).length = (gj s.J j).length ∧ ∀ m, m < (gr P j).length → 0 ≤ gi (gr P j) m ∧ gi (gr P j) m ≤ 100000000) := Lib.hid fun h => HK.out ⟨hll, h⟩
          have HFk : Hid (∀ j, j < (gr P k).length → ¬ (0 ≤ gi (gr P k) j ∧ gi (gr P k) j ≤ 100000000) → R = false) := Lib.hid fun j hj h => HFk.out fun g => h (g.2 j hj)
          clear hll
          obtain ⟨l, hl1⟩ : ∃ l, gr P k = l := ⟨_, rfl⟩
          have HL2 := Lib.hid hl1
          rw [hl1] at c0 hln hne HFk HC1 HL1 HBD C0
          have HKK : Hid ((∀ j, j < l.length → 0 ≤ gi l j ∧ gi l j ≤ 100000000) → ∀ j, j < k + 1 → rowOk s P j) := Lib.hid (by rw [← HL2.out]; exact HK.out)
          clear hl1 HK
          generalize ad k = a1 at *
          generalize cq k = c1 at *
          go_wp2_with fail
          go_quiet (fail)
          have HBq := Lib.hid (HB.out.drewN nq)
          generalize wr.drewN nq = wD at *
          clear hb p0 p1 p2 p3 p4 p5 c0 e0 HB
          go_wp2_with fail
          go_loopw [6] (fun i wr => ∃ n : Nat, n ≤ l.length ∧ i = .int .i64 n ∧ ShBox w wr s ∧ Hid (∀ j, j < n → 0 ≤ gi l j ∧ gi l j ≤ 100000000)) (fun i _ => l.length - (intOf i).toNat)
          case atStart => exact ⟨0, Nat.zero_le _, rfl, HBq.out, Lib.hid fun j hj => absurd hj (Nat.not_lt_zero _)⟩
          case round =>
            clear HBq
            obtain ⟨n, hn, rfl, hB1, HA1⟩ := hrel
            have HB := Lib.hid hB1
            have hb := hB1.1
            have c0 := cell_below C0.out hb
            by_cases hlt1 : n < l.length
            · obtain rfl := HL1.out (by omega)
              have d0 := cell_below (HC1.out n hlt1) hb
              have n11 : (n : Int) < l.length := by omega
              have HN : Hid ((0 ≤ gi l n ∧ gi l n ≤ 100000000) → ∀ j, j < n + 1 → 0 ≤ gi l j ∧ gi l j ≤ 100000000) := Lib.hid fun h j hj => by
                by_cases e : j = n
                · subst e; exact h
                · exact HA1.out j (by omega)
              have HFn := Lib.hid (HFk.out n hlt1)
              clear HKK HFk HC1 HL1 C0 HBD
              generalize gi l n = x at *
              by_cases g1 : 0 ≤ x ∧ x ≤ 100000000
              · have G1 := Lib.hid (btw_t g1.1 g1.2)
                have HR := Lib.hid (HN.out g1)
                clear HN HFn g1
                go_wp2_with (go_at_call 31; refine (rin_any _ _ _ _).mono ?_; rintro e w' ⟨rfl, rfl⟩; rw [G1.out])
                go_roundw
                case rel => exact ⟨n + 1, by omega, by go_num, HB.out, HR⟩
                case measure => simp [intOf]; omega
              · have G1 := Lib.hid (btw_f g1)
                have HR := Lib.hid (HFn.out g1)
                clear HN HFn g1
                go_wp2_with (go_at_call 31; refine (rin_any _ _ _ _).mono ?_; rintro e w' ⟨rfl, rfl⟩; rw [G1.out])
                go_ret
                rw [HR.out]
                exact ⟨rfl, hb⟩
            · obtain rfl : n = l.length := by omega
              have HR := Lib.hid (HKK.out HA1.out)
              clear HKK HFk HC1 HL1 hlt1 HBD
              go_wp2_with fail
              go_roundw
              case rel => exact ⟨k + 1, by omega, by go_num, HB.out, HR⟩
              case measure => simp [intOf]; omega
      · obtain rfl : k = P.length := by omega
        have HR := Lib.hid (HT.out HA.out)
        clear HC HL HE HLJ HT HF hlt
        go_wp2_with fail
        go_ret
        rw [HR.out]
        exact ⟨rfl, hb⟩
end Go.Proofs.Ytgphkfonjfdifaa

namespace Go.Proofs.Ytgphkfonjfdifaa
set_option linter.unusedVariables false
set_option linter.unusedSimpArgs false
open Go.RowKit

set_option maxRecDepth 100000 in
set_option maxHeartbeats 1000000 in
theorem idxPl_any (aa : Option Addr) (l : List Int) (ca : Nat) (lb : Array Value) (p : Nat → Bool) (w : World) (hI : IntsS w aa l)
    (hp : ∀ j W, j < l.length → Below w.heap.size w W → Calls Try.prog 71 (#[.int .i64 (gi l j)] ++ lb) W fun e w' => e = .returned (.bool (p j)) ∧ Below W.heap.size W w') :
    Calls Try.prog 90 #[.slice aa l.length ca, .func (.func 71) #[] lb] w fun e w' => e = .returned (.int .i64 (idxK p l.length)) ∧ Below w.heap.size w w' := by
  obtain ⟨hlen, hbd, blk, off, hadr, hc⟩ := hI
  have HC := Lib.hid hc
  have HL : Hid (0 < l.length → aa = some ⟨blk, off, none⟩) := Lib.hid fun h => hadr (fun e => by rw [e] at h; simp at h)
  clear hc hadr hbd
  have HP := Lib.hid hp
  have HH : Hid (∀ k, k < l.length → p k = true → (∀ j, j < k → p j = false) → idxK p l.length = k) := Lib.hid fun k hk h hb => idxK_hit h hb _ hk
  have HM : Hid ((∀ j, j < l.length → p j = false) → idxK p l.length = -1) := Lib.hid fun h => idxK_miss _ h
  generalize idxK p l.length = R at *
  clear hp
  go_enter Try.func90, Try.ntmps90
  go_wp2_with fail
  go_loopw [8] (fun i wr => ∃ k : Nat, k ≤ l.length ∧ i = .int .i64 k ∧ Below w.heap.size w wr ∧ Hid (∀ j, j < k → p j = false)) (fun i _ => l.length - (intOf i).toNat)
  case atStart => exact ⟨0, Nat.zero_le _, rfl, Below.refl _ _, Lib.hid fun j hj => absurd hj (Nat.not_lt_zero _)⟩
  case round =>
    obtain ⟨k, hk, rfl, hb, HA⟩ := hrel
    by_cases hlt : k < l.length
    · obtain rfl := HL.out (by omega)
      have c0 := cell_below (HC.out k hlt) hb
      have HK := Lib.hid (fun W => HP.out k W hlt)
      have HHk := Lib.hid (HH.out k hlt)
      have HN : Hid (p k = false → ∀ j, j < k + 1 → p j = false) := Lib.hid fun h j hj => by
        by_cases e : j = k
        · subst e; exact h
        · exact HA.out j (by omega)
      clear HP HC HM HL HH
      generalize gi l k = x at *
      cases hpk : p k with
      | true =>
        have HR := Lib.hid (HHk.out hpk HA.out)
        rw [hpk] at HK
        clear hpk HHk HN
        go_wp2_with fail
        refine (HK.out _ hb).mono ?_
        rintro e w1 ⟨rfl, hb1⟩
        go_wp2_with fail
        go_ret
        rw [HR.out]
        exact ⟨rfl, hb.trans (hb1.mono hb.size)⟩
      | false =>
        have HR := Lib.hid (HN.out hpk)
        rw [hpk] at HK
        clear hpk HHk HN
        go_wp2_with fail
        refine (HK.out _ hb).mono ?_
        rintro e w1 ⟨rfl, hb1⟩
        go_wp2_with fail
        go_roundw
        case rel => exact ⟨k + 1, by omega, by go_num, hb.trans (hb1.mono hb.size), HR⟩
        case measure => simp [intOf]; omega
    · obtain rfl : k = l.length := by omega
      have HR := Lib.hid (HM.out HA.out)
      clear HC HL HP HM HH hlt
      go_wp2_with fail
      go_ret
      rw [HR.out]
      exact ⟨rfl, hb⟩

set_option maxRecDepth 100000 in
theorem containsPl_any (aa : Option Addr) (l : List Int) (ca : Nat) (lb : Array Value) (p : Nat → Bool) (w : World) (hI : IntsS w aa l)
    (hp : ∀ j W, j < l.length → Below w.heap.size w W → Calls Try.prog 71 (#[.int .i64 (gi l j)] ++ lb) W fun e w' => e = .returned (.bool (p j)) ∧ Below W.heap.size W w') :
    Calls Try.prog 74 #[.slice aa l.length ca, .func (.func 71) #[] lb] w fun e w' => e = .returned (.bool (anyK p l.length)) ∧ Below w.heap.size w w' := by
  have H := Lib.hid (idxPl_any aa l ca lb p w hI hp)
  have hq := Lib.hid (idxK_any p l.length)
  clear hp hI
  generalize idxK p l.length = R at *
  generalize anyK p l.length = B at *
  have hq := hq.out
  subst hq
  go_enter Try.func74, Try.ntmps74
  go_wp2_with fail
  refine H.out.mono ?_
  rintro e w1 ⟨rfl, hb1⟩
  go_wp2_with fail
  all_goals
    go_ret
    exact ⟨by simp_all, hb1⟩

theorem plan1_any (x : Int) (w : World) : Calls Try.prog 71 #[.int .i64 x] w fun e w' => e = .returned (.bool (!(btw x 0 100000000))) ∧ Below w.heap.size w w' := by
  go_enter Try.func71, Try.ntmps71
  go_wp2_with (go_at_call 53; refine (sbt_any _ _ _ _).mono ?_; rintro e w' ⟨rfl, rfl⟩)
  go_ret
  exact ⟨rfl, Below.refl _ _⟩
/-- A job has a start in range for each step. -/
def rowB (n : Nat) (q : List Int) : Bool := decide (n = q.length) && !(anyK (fun j => !(btw (gi q j) 0 100000000)) q.length)
theorem rowB_iff {s : Sh} {P : List (List Int)} {i : Nat} : rowB (gj s.J i).length (gr P i) = true ↔ rowOk s P i := by
  unfold rowB rowOk
  rw [Bool.and_eq_true, decide_eq_true_iff, Bool.not_eq_true', anyK_iff]
  constructor
  · rintro ⟨h1, h2⟩
    refine ⟨h1.symm, fun k hk => ?_⟩
    have := h2 k hk
    rw [Bool.not_eq_false', btw_iff] at this
    exact this
  · rintro ⟨h1, h2⟩
    refine ⟨h1.symm, fun k hk => ?_⟩
    rw [Bool.not_eq_false', btw_iff]
    exact h2 k hk

set_option maxRecDepth 100000 in
set_option maxHeartbeats 1000000 in
theorem plan2_any (al : Option Addr) (n cl : Nat) (aq : Option Addr) (q : List Int) (cq : Nat) (b : Nat) (w : World) (hn : n ≤ 9223372036854775807) (hQ : IntsS w aq q) (hf : w.cell? ⟨b, 0, none⟩ = some (.func (.func 71) #[] #[])) :
    Calls Try.prog 73 #[.agg #[.slice al n cl], .slice aq q.length cq, .pointer (some ⟨b, 0, none⟩)] w fun e w' => e = .returned (.bool (rowB n q)) ∧ Below w.heap.size w w' := by
  have hlq := hQ.1
  have HCt : Hid (∀ W, Below w.heap.size w W → Calls Try.prog 74 #[.slice aq q.length cq, .func (.func 71) #[] #[]] W fun e w' => e = .returned (.bool (anyK (fun j => !(btw (gi q j) 0 100000000)) q.length)) ∧ Below W.heap.size W w') :=
    Lib.hid fun W hW => containsPl_any aq q cq #[] _ W (hQ.below hW) (fun j W' hj hW' => plan1_any _ W')
  have z := block_lt hf
  have qf : ∀ o O, (w.alloc O).cell? ⟨b, o, none⟩ = w.cell? ⟨b, o, none⟩ := fun o O => ((Below.refl w.heap.size w).alloc (Nat.le_refl _) O).cell (p := ⟨b, o, none⟩) z
  have hb : ∀ O, Below w.heap.size w (w.alloc O) := fun O => (Below.refl _ _).alloc (Nat.le_refl _) _
  have HB := Lib.hid hb
  unfold rowB
  clear hQ hb
  generalize anyK (fun j => !(btw (gi q j) 0 100000000)) q.length = K at *
  by_cases h : n = q.length
  · have h1 : ((n : Int) == q.length) = true := by simp [h]
    rw [decide_eq_true h, Bool.true_and]
    clear h
    go_enter Try.func73, Try.ntmps73
    go_wp2_with fail
    refine (HCt.out _ (HB.out _)).mono ?_
    rintro e w1 ⟨rfl, hb1⟩
    go_wp2_with fail
    all_goals
      go_ret
      exact ⟨by first | rfl | simp_all, (HB.out _).trans (hb1.mono (HB.out _).size)⟩
  · have h1 : ((n : Int) == q.length) = false := by rw [beq_eq_false_iff_ne]; omega
    rw [decide_eq_false h, Bool.false_and]
    clear h
    go_enter Try.func73, Try.ntmps73
    go_wp2_with fail
    go_ret
    exact ⟨rfl, HB.out _⟩

set_option maxRecDepth 100000 in
set_option maxHeartbeats 4000000 in
theorem equalFunc_any (s : Sh) (ap : Option Addr) (P : List (List Int)) (cp : Nat) (b : Nat) (w : World) (hI : JobsS w s.aJ s.J) (hP : RowsS w ap P) (hf : w.cell? ⟨b, 0, none⟩ = some (.func (.func 71) #[] #[])) :
    Calls Try.prog 72 #[.slice s.aJ s.J.length s.cJ, .slice ap P.length cp, .func (.func 73) #[] #[.pointer (some ⟨b, 0, none⟩)]] w fun e w' => e = .returned (.bool (planB s P)) ∧ Below w.heap.size w w' := by
  have HT : Hid (P.length = s.J.length → (∀ i, i < P.length → rowOk s P i) → planB s P = true) := Lib.hid fun h1 h2 => planB_t ⟨h1, h2⟩
  have HF : Hid (∀ i, i < P.length → ¬ rowOk s P i → planB s P = false) := Lib.hid fun i hi h => planB_f fun g => h (g.2 i hi)
  have HG : Hid (P.length ≠ s.J.length → planB s P = false) := Lib.hid fun h => planB_f fun g => h g.1
  obtain ⟨hl, blk, off, ad, cq, hadr, hc⟩ := hP
  obtain ⟨hlJ, bJ, oJ, aj, cj, hadrJ, hcJ⟩ := hI
  have HC : Hid (∀ k, k < P.length → w.cell? ⟨blk, off + k, none⟩ = some (.slice (ad k) (gr P k).length (cq k))) := Lib.hid fun k hk => (hc k hk).1
  have HL : Hid (0 < P.length → ap = some ⟨blk, off, none⟩) := Lib.hid fun h => hadr (fun e => by rw [e] at h; simp at h)
  have HE : Hid (∀ k, k < s.J.length → w.cell? ⟨bJ, oJ + k, none⟩ = some (.slice (aj k) (gj s.J k).length (cj k))) := Lib.hid fun k hk => (hcJ k hk).1
  obtain ⟨ax, hax⟩ : ∃ ax, s.aJ = ax := ⟨_, rfl⟩
  have HLJ : Hid (0 < s.J.length → ax = some ⟨bJ, oJ, none⟩) := Lib.hid fun h => hax ▸ hadrJ (fun e => by rw [e] at h; simp at h)
  have H2 : Hid (∀ k, k < P.length → k < s.J.length → ∀ W, Below w.heap.size w W → Calls Try.prog 73 #[.agg #[.slice (aj k) (gj s.J k).length (cj k)], .slice (ad k) (gr P k).length (cq k), .pointer (some ⟨b, 0, none⟩)] W fun e w' => e = .returned (.bool (rowB (gj s.J k).length (gr P k))) ∧ Below W.heap.size W w') := Lib.hid fun k hk hkJ W hW => plan2_any _ _ _ _ _ _ b W (hcJ k hkJ).2.1.1 ((hc k hk).2.1.below hW) (cell_below hf hW)
  generalize planB s P = R at *
  rw [hax]
  clear hadr hc hadrJ hcJ hax
  by_cases hlen : P.length = s.J.length
  rotate_left
  · have hne : ((s.J.length : Int) != P.length) = true := by simp; omega
    have HR := Lib.hid (HG.out hlen)
    clear hlen HT HF HG HC HL HE HLJ H2
    go_enter Try.func72, Try.ntmps72
    go_wp2_with fail
    go_ret
    rw [HR.out]
    exact ⟨rfl, Below.refl _ _⟩
  · have hne : ((s.J.length : Int) != P.length) = false := by simp; omega
    have HT := Lib.hid (HT.out hlen)
    have HLen := Lib.hid hlen
    clear hlen HG
    go_enter Try.func72, Try.ntmps72
    go_wp2_with fail
    clear hne
    go_loopw [17] (fun i wr => ∃ k : Nat, k ≤ s.J.length ∧ i = .int .i64 k ∧ Below w.heap.size w wr ∧ Hid (∀ j, j < k → rowOk s P j)) (fun i _ => s.J.length - (intOf i).toNat)
    case atStart => exact ⟨0, Nat.zero_le _, rfl, Below.refl _ _, Lib.hid fun j hj => absurd hj (Nat.not_lt_zero _)⟩
    case round =>
      obtain ⟨k, hk, rfl, hb, HA⟩ := hrel
      by_cases hlt : k < s.J.length
      · have hkP : k < P.length := by have := HLen.out; omega
        obtain rfl := HLJ.out (by omega)
        obtain rfl := HL.out (by omega)
        have c0 := cell_below (HC.out k hkP) hb
        have e0 := cell_below (HE.out k hlt) hb
        have z := block_lt c0
        have qc : ∀ o O, (wr.alloc O).cell? ⟨blk, o, none⟩ = wr.cell? ⟨blk, o, none⟩ := fun o O => ((Below.refl wr.heap.size wr).alloc (Nat.le_refl _) O).cell (p := ⟨blk, o, none⟩) z
        have n9 : (k : Int) < s.J.length := by omega
        have n8 : (k : Int) < P.length := by omega
        have HK : Hid (rowOk s P k → ∀ j, j < k + 1 → rowOk s P j) := Lib.hid fun h j hj => by
          by_cases e : j = k
          · subst e; exact h
          · exact HA.out j (by omega)
        have HFk := Lib.hid (HF.out k hkP)
        have H2k := Lib.hid (H2.out k hkP hlt)
        have HV := Lib.hid (rowB_iff (s := s) (P := P) (i := k))
        have hbA : ∀ O, Below w.heap.size w (wr.alloc O) := fun O => hb.alloc hb.size _
        have HBA := Lib.hid hbA
        clear HC HL HE HLJ HT HF H2 hbA
        generalize rowB (gj s.J k).length (gr P k) = v at *
        generalize (gj s.J k).length = nj at *
        generalize (gr P k).length = np at *
        generalize aj k = a1 at *
        generalize cj k = c1 at *
        generalize ad k = a2 at *
        generalize cq k = c2 at *
        cases hv : v with
        | true =>
          have HR := Lib.hid (HK.out (HV.out.1 hv))
          rw [hv] at H2k
          clear HK HFk HV hv
          go_wp2_with fail
          refine (H2k.out _ (HBA.out _)).mono ?_
          rintro e w1 ⟨rfl, hb1⟩
          go_wp2_with fail
          go_roundw
          case rel => exact ⟨k + 1, by omega, by go_num, (HBA.out _).trans (hb1.mono (HBA.out _).size), HR⟩
          case measure => simp [intOf]; omega
        | false =>
          have HR := Lib.hid (HFk.out (fun h => by have := HV.out.2 h; rw [hv] at this; cases this))
          rw [hv] at H2k
          clear HK HFk HV hv
          go_wp2_with fail
          refine (H2k.out _ (HBA.out _)).mono ?_
          rintro e w1 ⟨rfl, hb1⟩
          go_wp2_with fail
          go_ret
          rw [HR.out]
          exact ⟨rfl, (HBA.out _).trans (hb1.mono (HBA.out _).size)⟩
      · obtain rfl : k = s.J.length := by omega
        have HR := Lib.hid (HT.out (fun j hj => HA.out j (by have := HLen.out; omega)))
        clear HC HL HE HLJ HT HF H2 hlt
        go_wp2_with fail
        go_ret
        rw [HR.out]
        exact ⟨rfl, hb⟩

set_option maxRecDepth 100000 in
set_option maxHeartbeats 1000000 in
theorem isPlan_sh (s : Sh) (ap : Option Addr) (P : List (List Int)) (cp : Nat) (w : World) (hI : ShS w s) (hP : RowsS w ap P) :
    Calls Try.prog 36 #[.agg #[.int .i64 s.O, .int .i64 s.C, .slice s.aH s.H.length s.cH, .int .i64 s.M, .slice s.aS s.S.length s.cS, .slice s.aJ s.J.length s.cJ], .slice ap P.length cp] w fun e w' => e = .returned (.bool (planB s P)) ∧ Below w.heap.size w w' := by
  have HE : Hid (∀ b W, Below w.heap.size w W → W.cell? ⟨b, 0, none⟩ = some (.func (.func 71) #[] #[]) → Calls Try.prog 72 #[.slice s.aJ s.J.length s.cJ, .slice ap P.length cp, .func (.func 73) #[] #[.pointer (some ⟨b, 0, none⟩)]] W fun e w' => e = .returned (.bool (planB s P)) ∧ Below W.heap.size W w') := Lib.hid fun b W hW hf => equalFunc_any s ap P cp b W (hI.below hW).2.2 (hP.below hW) hf
  have hB := ShBox.start w s 25
  clear hI hP
  generalize planB s P = R at *
  go_enter Try.func36, Try.ntmps36
  go_wp2_with fail
  obtain ⟨wC, hwC⟩ : ∃ wC, (w.alloc (.cells #[.int .i64 s.O, .int .i64 s.C, .slice s.aH s.H.length s.cH, .int .i64 s.M, .slice s.aS s.S.length s.cS, .slice s.aJ s.J.length s.cJ] 25)).alloc (.cells #[.func (.func 71) #[] #[]] 68) = wC := ⟨_, rfl⟩
  have hC : ShBox w wC s := by rw [← hwC]; exact hB.on ((Below.refl _ _).alloc (Nat.le_refl _) _)
  have hf : wC.cell? ⟨w.heap.size + 1, 0, none⟩ = some (.func (.func 71) #[] #[]) := by rw [← hwC]; simp [go_sem]
  rw [hwC]
  refine (HE.out (w.heap.size + 1) _ hC.1 hf).mono ?_
  rintro e w1 ⟨rfl, hb1⟩
  go_wp2_with fail
  go_ret
  exact ⟨rfl, hC.1.trans (hb1.mono hC.1.size)⟩
end Go.Proofs.Ytgphkfonjfdifaa

namespace Go.Proofs.Ytgphkfonjfdifaa
set_option linter.unusedVariables false
set_option linter.unusedSimpArgs false
open Go.RowKit

/-- The cells of a step with its place and its start. -/
def pcl (s : Sh) (P : List (List Int)) (p : Int × Int) : List Value :=
  [.int .i64 (gs (gj s.J p.1.toNat) p.2.toNat).1, .int .i64 (gs (gj s.J p.1.toNat) p.2.toNat).2.1, .int .i64 (gs (gj s.J p.1.toNat) p.2.toNat).2.2.1, .int .i64 (gs (gj s.J p.1.toNat) p.2.toNat).2.2.2, .int .i64 p.1, .int .i64 p.2, .int .i64 (gi (gr P p.1.toNat) p.2.toNat)]
def pcs (s : Sh) (P : List (List Int)) (l : List (Int × Int)) : List Value := l.flatMap (pcl s P)
theorem pcs_app (s : Sh) (P : List (List Int)) (l : List (Int × Int)) (p : Int × Int) : pcs s P (l ++ [p]) = pcs s P l ++ pcl s P p := by simp [pcs]
theorem pcs_at (s : Sh) (P : List (List Int)) : ∀ (l : List (Int × Int)) (i j : Nat), i < l.length → j < 7 → (pcs s P l)[i * 7 + j]? = (pcl s P (gp l i))[j]?
  | [], i, j, hi, _ => by simp at hi
  | p :: l, 0, j, _, hj => by
    unfold pcs
    rw [List.flatMap_cons, Nat.zero_mul, Nat.zero_add, List.getElem?_append_left (by simp [pcl]; omega)]
    rfl
  | p :: l, i + 1, j, hi, hj => by
    have ih := pcs_at s P l i j (by simpa using hi) hj
    unfold pcs at ih ⊢
    rw [List.flatMap_cons, List.getElem?_append_right (by simp [pcl]; omega)]
    rw [show (i + 1) * 7 + j - (pcl s P p).length = i * 7 + j from by simp [pcl]; omega, ih]
    rfl
theorem placedInfo : (Try.prog.info? 67).map (fun i => (i.zero, i.size, i.bytes)) = some (some (.agg #[.int .i64 0, .int .i64 0, .int .i64 0, .int .i64 0, .int .i64 0, .int .i64 0, .int .i64 0]), 7, 56) := by kernel_rfl
/-- The steps with their places and starts, in memory. -/
def PlacedS (w : World) (s : Sh) (P : List (List Int)) (a : Option Addr) (l : List (Int × Int)) : Prop :=
  ∃ blk, (l ≠ [] → a = some ⟨blk, 0, none⟩) ∧ ∀ i j, i < l.length → j < 7 → w.cell? ⟨blk, i * 7 + j, none⟩ = (pcl s P (gp l i))[j]?
theorem PlacedS.below {w w' : World} {s : Sh} {P : List (List Int)} {a : Option Addr} {l : List (Int × Int)} (h : PlacedS w s P a l) (hb : Below w.heap.size w w') : PlacedS w' s P a l := by
  obtain ⟨blk, h1, h2⟩ := h
  refine ⟨blk, h1, fun i j hi hj => ?_⟩
  have hx := h2 i j hi hj
  obtain ⟨v, hv⟩ : ∃ v, (pcl s P (gp l i))[j]? = some v := ⟨_, List.getElem?_eq_getElem (by simp [pcl]; omega)⟩
  rw [hv] at hx ⊢
  exact cell_below hx hb
theorem owns_baseP {w : World} {base base' : Nat} {e : TypeId} {size : Nat} {v : Value} {n : Nat} {xs : List Value} (h : w.ownsRow base e size v n xs) (hb : base' ≤ base) : w.ownsRow base' e size v n xs := by
  refine ⟨h.1, ?_⟩
  rcases h.2 with h2 | ⟨g, cap, cur, h1, h2, h3, h4⟩
  · exact .inl h2
  · exact .inr ⟨g, cap, cur, h1, Nat.le_trans hb h2, h3, h4⟩
theorem placed_own {w : World} {base c : Nat} {s : Sh} {P : List (List Int)} {a : Option Addr} {l : List (Int × Int)} (h : w.ownsRow base 67 7 (.slice a l.length c) l.length (pcs s P l)) : PlacedS w s P a l ∧ l.length ≤ c := by
  rcases h.2 with ⟨h1, h2⟩ | ⟨g2, c2, cur, h1, _, _, h4, _⟩
  · exact ⟨⟨0, (fun hne => absurd (List.eq_nil_of_length_eq_zero h2) hne), fun i j hi => by omega⟩, by omega⟩
  · obtain ⟨rfl, rfl⟩ : a = some ⟨g2, 0, none⟩ ∧ c = c2 := by simpa using h1
    refine ⟨⟨g2, fun _ => rfl, fun i j hi hj => ?_⟩, h4⟩
    rw [World.ownsRow.cellAt h (i * 7 + j) (by omega)]
    exact pcs_at s P l i j hi hj

set_option maxRecDepth 100000 in
set_option maxHeartbeats 8000000 in
theorem allPlaced_own (s : Sh) (ap : Option Addr) (P : List (List Int)) (cp : Nat) (w : World) (hI : ShS w s) (hV : ShOk s) (hP : RowsS w ap P) (hO : PlanOk s P) :
    Calls Try.prog 37 #[.agg #[.int .i64 s.O, .int .i64 s.C, .slice s.aH s.H.length s.cH, .int .i64 s.M, .slice s.aS s.S.length s.cS, .slice s.aJ s.J.length s.cJ], .slice ap P.length cp] w fun e w' => ∃ a c, e = .returned (.slice a (flP s.J).length c) ∧ w'.ownsRow w.heap.size 67 7 (.slice a (flP s.J).length c) (flP s.J).length (pcs s P (flP s.J)) ∧ Below w.heap.size w w' := by
  have h12 := hV.2.2.2.1
  have HLn : Hid (∀ i k, i < s.J.length → k ≤ (gj s.J i).length → (lpK s.J i k).length ≤ 200) := Lib.hid fun i k hi hk => by
    have := flI_len hV i (by omega)
    have := (hV.2.2.2.2 i hi).1
    unfold lpK
    rw [List.length_append, rowP_len]
    omega
  have HL8 : Hid (∀ i, i < s.J.length → (gj s.J i).length ≤ 8) := Lib.hid fun i hi => (hV.2.2.2.2 i hi).1
  have HNx := Lib.hid (lpK_next s.J)
  have HZ := Lib.hid (lpK_zero s.J)
  have HEn := Lib.hid (lpK_end s.J)
  have HRES : Hid (∀ (W : World) (a : Option Addr) (c base : Nat), w.heap.size ≤ base → W.ownsRow base 67 7 (.slice a (flI s.J s.J.length).length c) (flI s.J s.J.length).length (pcs s P (flI s.J s.J.length)) → W.ownsRow w.heap.size 67 7 (.slice a (flI s.J s.J.length).length c) (flI s.J s.J.length).length (pcs s P (flI s.J s.J.length))) := Lib.hid fun W a c base hb h => owns_baseP h hb
  have HAp := Lib.hid (pcs_app s P)
  obtain ⟨hlJ, bJ, oJ, aj, cj, hadrJ, hcJ⟩ := hI.2.2
  have HE : Hid (∀ k, k < s.J.length → w.cell? ⟨bJ, oJ + k, none⟩ = some (.slice (aj k) (gj s.J k).length (cj k)) ∧ StepsS w (aj k) (gj s.J k)) := Lib.hid fun k hk => ⟨(hcJ k hk).1, (hcJ k hk).2.1⟩
  obtain ⟨ax, hax⟩ : ∃ ax, s.aJ = ax := ⟨_, rfl⟩
  have HLJ : Hid (0 < s.J.length → ax = some ⟨bJ, oJ, none⟩) := Lib.hid fun h => hax ▸ hadrJ (fun e => by rw [e] at h; simp at h)
  obtain ⟨hlP, bP, oP, ad, cq, hadrP, hcP⟩ := hP
  have HC : Hid (∀ k, k < P.length → w.cell? ⟨bP, oP + k, none⟩ = some (.slice (ad k) (gr P k).length (cq k)) ∧ IntsS w (ad k) (gr P k)) := Lib.hid fun k hk => ⟨(hcP k hk).1, (hcP k hk).2.1⟩
  have HLP : Hid (0 < P.length → ap = some ⟨bP, oP, none⟩) := Lib.hid fun h => hadrP (fun e => by rw [e] at h; simp at h)
  have HLen := Lib.hid hO.1
  have HRl : Hid (∀ k, k < P.length → (gr P k).length = (gj s.J k).length) := Lib.hid fun k hk => (hO.2 k hk).1
  have hB := ShBox.start w s 25
  obtain ⟨n0, hi, hz0, hz1, hz2⟩ := info_parts placedInfo
  unfold flP
  rw [hax] at hB ⊢
  clear hI hV hadrJ hcJ hadrP hcP hO hax
  go_enter Try.func37, Try.ntmps37
  go_wp2_with fail
  obtain ⟨wo, hwo⟩ : ∃ wo, w.alloc (.cells #[.int .i64 s.O, .int .i64 s.C, .slice s.aH s.H.length s.cH, .int .i64 s.M, .slice s.aS s.S.length s.cS, .slice ax s.J.length s.cJ] 25) = wo := ⟨_, rfl⟩
  rw [hwo] at hB ⊢
  clear hwo
  have hbo := hB.1
  clear hB
  go_loopw [5, 13] (fun v i wr => ∃ k : Nat, k ≤ s.J.length ∧ i = .int .i64 k ∧ (∃ a c, v = .slice a (flI s.J k).length c) ∧ Hid (wr.ownsRow wo.heap.size 67 7 v (flI s.J k).length (pcs s P (flI s.J k))) ∧ Below wo.heap.size wo wr) (fun _ i _ => s.J.length - (intOf i).toNat)
  case atStart => exact ⟨0, Nat.zero_le _, rfl, ⟨none, 0, rfl⟩, Lib.hid ⟨rfl, .inl ⟨rfl, rfl⟩⟩, Below.refl _ _⟩
  case round =>
    obtain ⟨k, hk, rfl, ⟨ar, cr, rfl⟩, HRow, hbr⟩ := hrel
    have hbs := hbr.size
    have hb := hbo.trans (hbr.mono hbo.size)
    by_cases hlt : k < s.J.length
    · have hkP : k < P.length := by have := HLen.out; omega
      obtain rfl := HLJ.out (by omega)
      obtain rfl := HLP.out (by omega)
      obtain ⟨c0, hI1⟩ := HE.out k hlt
      have c0 := cell_below c0 hb
      obtain ⟨hln, hbd, b1, f1, hadr1, hc1⟩ := hI1
      obtain ⟨u0, hI2⟩ := HC.out k hkP
      obtain ⟨hln2, hbd2, b2, f2, hadr2, hc2⟩ := hI2
      have U0 := Lib.hid u0
      have HC1 := Lib.hid hc1
      have HC2 := Lib.hid hc2
      have HL1 : Hid (0 < (gj s.J k).length → aj k = some ⟨b1, f1, none⟩) := Lib.hid fun h => hadr1 (fun e => by rw [e] at h; simp at h)
      have HRlk := Lib.hid (HRl.out k hkP)
      have HL2 : Hid (0 < (gj s.J k).length → ad k = some ⟨b2, f2, none⟩) := Lib.hid fun h => hadr2 (fun e => by rw [← HRlk.out, e] at h; simp at h)
      have h8 := HL8.out k hlt
      have n9 : (k : Int) < s.J.length := by omega
      have n8 : (k : Int) < P.length := by omega
      have HLk := Lib.hid (HLn.out k)
      have HNk := Lib.hid (HNx.out k)
      have HEnk := Lib.hid (HEn.out k)
      have hz := HZ.out k
      rw [← hz] at HRow ⊢
      clear HE HLJ HL8 HRES HZ HNx HEn HLn hz HC HLP HRl u0 hbd hadr1 hc1 hbd2 hadr2 hc2 HLen
      obtain ⟨al, hal⟩ : ∃ al, aj k = al := ⟨_, rfl⟩
      obtain ⟨a2, ha2⟩ : ∃ a2, ad k = a2 := ⟨_, rfl⟩
      rw [hal] at c0 HL1
      rw [ha2] at U0 HL2
      clear hal ha2
      generalize cj k = cl at *
      generalize cq k = cl2 at *
      go_wp2_with fail
      have HRow := Lib.hid (HRow.out.alloc (.cells #[.slice al (gj s.J k).length cl] 55))
      have hbr := hbr.alloc hbs (.cells #[.slice al (gj s.J k).length cl] 55)
      generalize wr.alloc (.cells #[.slice al (gj s.J k).length cl] 55) = wq at *
      clear hb c0 hbs
      go_loopw [5, 21] (fun v i wr => ∃ n : Nat, n ≤ (gj s.J k).length ∧ i = .int .i64 n ∧ (∃ a c, v = .slice a (lpK s.J k n).length c) ∧ Hid (wr.ownsRow wo.heap.size 67 7 v (lpK s.J k n).length (pcs s P (lpK s.J k n))) ∧ Below wo.heap.size wo wr) (fun _ i _ => (gj s.J k).length - (intOf i).toNat)
      case atStart => exact ⟨0, Nat.zero_le _, rfl, ⟨_, _, rfl⟩, HRow, hbr⟩
      case round =>
        clear HRow hbr
        obtain ⟨n, hn, rfl, ⟨ar, cr, rfl⟩, HRow, hbr⟩ := hrel
        have hbs := hbr.size
        have hb := hbo.trans (hbr.mono hbo.size)
        have h200 := HLk.out n hlt hn
        by_cases hlt1 : n < (gj s.J k).length
        · obtain rfl := HL1.out (by omega)
          obtain rfl := HL2.out (by omega)
          obtain ⟨d0, d1, d2, d3⟩ := HC1.out n hlt1
          have d0 := cell_below d0 hb
          have d1 := cell_below d1 hb
          have d2 := cell_below d2 hb
          have d3 := cell_below d3 hb
          have u0 := cell_below U0.out hb
          have v0 := cell_below (HC2.out n (by have := HRlk.out; omega)) hb
          have n10 : (n : Int) < (gj s.J k).length := by omega
          have n11 : (n : Int) < (gr P k).length := by have := HRlk.out; omega
          have HNn := Lib.hid (HNk.out n)
          have HAP : Hid ((lpK s.J k n).length + 1 = (lpK s.J k (n + 1)).length ∧ pcs s P (lpK s.J k n) ++ [.int .i64 (gs (gj s.J k) n).1, .int .i64 (gs (gj s.J k) n).2.1, .int .i64 (gs (gj s.J k) n).2.2.1, .int .i64 (gs (gj s.J k) n).2.2.2, .int .i64 k, .int .i64 n, .int .i64 (gi (gr P k) n)] = pcs s P (lpK s.J k (n + 1))) := Lib.hid (by rw [HNn.out, HAp.out, List.length_append]; exact ⟨rfl, rfl⟩)
          clear HNk HNn HEnk HLk HC1 HC2 HL1 HL2 HRlk HAp
          generalize (gs (gj s.J k) n).1 = x0 at *
          generalize (gs (gj s.J k) n).2.1 = x1 at *
          generalize (gs (gj s.J k) n).2.2.1 = x2 at *
          generalize (gs (gj s.J k) n).2.2.2 = x3 at *
          generalize gi (gr P k) n = x9 at *
          generalize (gr P k).length = lp at *
          generalize (lpK s.J k n).length = ln at *
          generalize pcs s P (lpK s.J k n) = cs at *
          go_wp2_with fail
          obtain ⟨wz, hwz⟩ : ∃ wz, wr.alloc (.cells #[.int .i64 x0, .int .i64 x1, .int .i64 x2, .int .i64 x3] 57) = wz := ⟨_, rfl⟩
          have hba : Below wr.heap.size wr wz := by rw [← hwz]; exact (Below.refl _ _).alloc (Nat.le_refl _) _
          have HRow := Lib.hid (HRow.out.alloc (.cells #[.int .i64 x0, .int .i64 x1, .int .i64 x2, .int .i64 x3] 57))
          have g0 : wz.cell? ⟨wr.heap.size, 0, none⟩ = some (.int .i64 x0) := by rw [← hwz]; simp [go_sem]
          have g1 : wz.cell? ⟨wr.heap.size, 1, none⟩ = some (.int .i64 x1) := by rw [← hwz]; simp [go_sem]
          have g2 : wz.cell? ⟨wr.heap.size, 2, none⟩ = some (.int .i64 x2) := by rw [← hwz]; simp [go_sem]
          have g3 : wz.cell? ⟨wr.heap.size, 3, none⟩ = some (.int .i64 x3) := by rw [← hwz]; simp [go_sem]
          have u0 := cell_below u0 hba
          have v0 := cell_below v0 hba
          rw [hwz] at HRow ⊢
          have hbz := hbr.trans (hba.mono hbs)
          have hsz := hbz.size
          clear hwz d0 d1 d2 d3 hb hbr hba
          go_region_law
            (refine step_append_lies _ (by rfl) _ _ _ (by rfl) wo.heap.size 67 n0 _ 7 56 Try.underlying62 hi hz0 hz1 hz2 rfl (by decide) (.slice ar ln cr) ln _ (by rfl) ((HRow.out.alloc _).drew) ⟨wz.heap.size, 0, none⟩ 1 1 [.int .i64 x0, .int .i64 x1, .int .i64 x2, .int .i64 x3, .int .i64 k, .int .i64 n, .int .i64 x9] (by rfl) (by rfl) ?d1 ?d2 (by decide) ?d3 ?d4 ?d5 (wz.heap.size + 1) (by simp) ?_
             case d1 =>
               refine World.news_of_block (cs := #[.int .i64 x0, .int .i64 x1, .int .i64 x2, .int .i64 x3, .int .i64 k, .int .i64 n, .int .i64 x9]) (t := 67) (fr := (0, 0)) ?_
               exact heap_alloc_new wz _
             case d2 => simp [Value.oneCell']
             case d3 => unfold maxLen; omega
             case d4 => omega
             case d5 => first | (simp; omega) | simp
             intro g6 c6 w6 hown6 hgrow6 hat6 hlt6
             have hb6 : Below wo.heap.size wo w6 := ((hbz.alloc hsz _).drew).grown hgrow6 (by first | (simp; omega) | simp) (fun z hz => by
               rcases HRow.out.2 with ⟨h, _⟩ | ⟨g2, c3, cur, h1, h2, _⟩
               · rw [h] at hz; simp [Value.ownBlock] at hz
               · rw [h1] at hz; simp [Value.ownBlock] at hz; omega))
          all_goals
            go_wp2_with fail
            go_roundw
            case rel => exact ⟨n + 1, by omega, by go_num, ⟨_, c6, by rw [← HAP.out.1]⟩, Lib.hid (by rw [← HAP.out.1, ← HAP.out.2]; exact hown6), hb6⟩
            case measure => simp [intOf]; omega
        · obtain rfl : n = (gj s.J k).length := by omega
          have he := HEnk.out
          rw [he] at HRow h200 ⊢
          clear HNk HEnk HLk HC1 HC2 HL1 HL2 hlt1 he
          go_wp2_with fail
          go_roundw
          case rel => exact ⟨k + 1, by omega, by go_num, ⟨_, _, rfl⟩, HRow, hbr⟩
          case measure => simp [intOf]; omega
    · obtain rfl : k = s.J.length := by omega
      have HQ1 := Lib.hid (HRES.out _ _ _ _ hbo.size HRow.out)
      clear HE HLJ HL8 HRES HZ HNx HEn HLn hlt HC HLP HRl
      go_wp2_with fail
      go_ret
      exact ⟨_, _, rfl, HQ1.out, hb⟩
theorem allPlaced_sh (s : Sh) (ap : Option Addr) (P : List (List Int)) (cp : Nat) (w : World) (hI : ShS w s) (hV : ShOk s) (hP : RowsS w ap P) (hO : PlanOk s P) :
    Calls Try.prog 37 #[.agg #[.int .i64 s.O, .int .i64 s.C, .slice s.aH s.H.length s.cH, .int .i64 s.M, .slice s.aS s.S.length s.cS, .slice s.aJ s.J.length s.cJ], .slice ap P.length cp] w fun e w' => ∃ a c, e = .returned (.slice a (flP s.J).length c) ∧ PlacedS w' s P a (flP s.J) ∧ (flP s.J).length ≤ c ∧ Below w.heap.size w w' := by
  refine (allPlaced_own s ap P cp w hI hV hP hO).mono ?_
  rintro e w' ⟨a, c, he, ho, hb⟩
  obtain ⟨h1, h2⟩ := placed_own ho
  exact ⟨a, c, he, h1, h2, hb⟩
end Go.Proofs.Ytgphkfonjfdifaa

namespace Go.Proofs.Ytgphkfonjfdifaa
set_option linter.unusedVariables false
set_option linter.unusedSimpArgs false
open Go.RowKit

set_option maxRecDepth 100000 in
set_option maxHeartbeats 1000000 in
theorem end_pl (x0 x1 x2 x3 x4 x5 x6 : Int) (w : World) (a1 : 0 ≤ x1 ∧ x1 ≤ 100000) (a6 : 0 ≤ x6 ∧ x6 ≤ 10000000000) :
    Calls Try.prog 52 #[.agg #[.int .i64 x0, .int .i64 x1, .int .i64 x2, .int .i64 x3, .int .i64 x4, .int .i64 x5, .int .i64 x6]] w fun e w' => e = .returned (.int .i64 (x6 + x1)) ∧ Below w.heap.size w w' := by
  have ws : IntKind.i64.wrap (x6 + x1) = x6 + x1 := IntWalk.i64_in _ (by omega)
  have hb : Below w.heap.size w (w.alloc (.cells #[.int .i64 x0, .int .i64 x1, .int .i64 x2, .int .i64 x3, .int .i64 x4, .int .i64 x5, .int .i64 x6] 67)) := (Below.refl _ _).alloc (Nat.le_refl _) _
  have HB := Lib.hid hb
  clear hb a1 a6
  go_enter Try.func52, Try.ntmps52
  go_wp2_with fail
  go_ret
  exact ⟨rfl, HB.out⟩

set_option maxRecDepth 100000 in
set_option maxHeartbeats 2000000 in
theorem dry_pl (x0 x1 x2 x3 x4 x5 x6 : Int) (w : World) (a1 : 0 ≤ x1 ∧ x1 ≤ 100000) (a3 : 0 ≤ x3 ∧ x3 ≤ 100000000) (a6 : 0 ≤ x6 ∧ x6 ≤ 10000000000) :
    Calls Try.prog 41 #[.agg #[.int .i64 x0, .int .i64 x1, .int .i64 x2, .int .i64 x3, .int .i64 x4, .int .i64 x5, .int .i64 x6]] w fun e w' => e = .returned (.int .i64 (x6 + x1 + x3)) ∧ Below w.heap.size w w' := by
  have ws : IntKind.i64.wrap (x6 + x1 + x3) = x6 + x1 + x3 := IntWalk.i64_in _ (by omega)
  have HE := Lib.hid (fun W => end_pl x0 x1 x2 x3 x4 x5 x6 W a1 a6)
  have hb : Below w.heap.size w (w.alloc (.cells #[.int .i64 x0, .int .i64 x1, .int .i64 x2, .int .i64 x3, .int .i64 x4, .int .i64 x5, .int .i64 x6] 67)) := (Below.refl _ _).alloc (Nat.le_refl _) _
  clear a1 a3 a6
  go_enter Try.func41, Try.ntmps41
  go_wp2_with fail
  obtain ⟨wB, hwB⟩ : ∃ wB, w.alloc (.cells #[.int .i64 x0, .int .i64 x1, .int .i64 x2, .int .i64 x3, .int .i64 x4, .int .i64 x5, .int .i64 x6] 67) = wB := ⟨_, rfl⟩
  have p0 : wB.cell? ⟨w.heap.size, 0, none⟩ = some (.int .i64 x0) := by rw [← hwB]; simp [go_sem]
  have p1 : wB.cell? ⟨w.heap.size, 1, none⟩ = some (.int .i64 x1) := by rw [← hwB]; simp [go_sem]
  have p2 : wB.cell? ⟨w.heap.size, 2, none⟩ = some (.int .i64 x2) := by rw [← hwB]; simp [go_sem]
  have p3 : wB.cell? ⟨w.heap.size, 3, none⟩ = some (.int .i64 x3) := by rw [← hwB]; simp [go_sem]
  have p4 : wB.cell? ⟨w.heap.size, 4, none⟩ = some (.int .i64 x4) := by rw [← hwB]; simp [go_sem]
  have p5 : wB.cell? ⟨w.heap.size, 5, none⟩ = some (.int .i64 x5) := by rw [← hwB]; simp [go_sem]
  have p6 : wB.cell? ⟨w.heap.size, 6, none⟩ = some (.int .i64 x6) := by rw [← hwB]; simp [go_sem]
  have hz : w.heap.size < wB.heap.size := by rw [← hwB]; simp
  rw [hwB] at hb ⊢
  clear hwB
  have HB := Lib.hid hb
  clear hb
  go_region_held3 (fun w' => w'.cell? ⟨w.heap.size, 0, none⟩ = some (.int .i64 x0) ∧ w'.cell? ⟨w.heap.size, 1, none⟩ = some (.int .i64 x1) ∧ w'.cell? ⟨w.heap.size, 2, none⟩ = some (.int .i64 x2) ∧ w'.cell? ⟨w.heap.size, 3, none⟩ = some (.int .i64 x3) ∧ w'.cell? ⟨w.heap.size, 4, none⟩ = some (.int .i64 x4) ∧ w'.cell? ⟨w.heap.size, 5, none⟩ = some (.int .i64 x5) ∧ w'.cell? ⟨w.heap.size, 6, none⟩ = some (.int .i64 x6)) (go_keep)
    (first
      | (go_at_call 52
         refine (HE.out _).mono ?_
         rintro E w2 ⟨rfl, hb2⟩
         have p0 := (hb2.cell (p := ⟨w.heap.size, 0, none⟩) (by first | exact hz | exact Nat.lt_trans (Nat.lt_succ_self _) hz | exact Nat.lt_trans (Nat.lt_succ_self _) (Nat.lt_trans (Nat.lt_succ_self _) hz))).trans p0
         have p1 := (hb2.cell (p := ⟨w.heap.size, 1, none⟩) (by first | exact hz | exact Nat.lt_trans (Nat.lt_succ_self _) hz | exact Nat.lt_trans (Nat.lt_succ_self _) (Nat.lt_trans (Nat.lt_succ_self _) hz))).trans p1
         have p2 := (hb2.cell (p := ⟨w.heap.size, 2, none⟩) (by first | exact hz | exact Nat.lt_trans (Nat.lt_succ_self _) hz | exact Nat.lt_trans (Nat.lt_succ_self _) (Nat.lt_trans (Nat.lt_succ_self _) hz))).trans p2
         have p3 := (hb2.cell (p := ⟨w.heap.size, 3, none⟩) (by first | exact hz | exact Nat.lt_trans (Nat.lt_succ_self _) hz | exact Nat.lt_trans (Nat.lt_succ_self _) (Nat.lt_trans (Nat.lt_succ_self _) hz))).trans p3
         have p4 := (hb2.cell (p := ⟨w.heap.size, 4, none⟩) (by first | exact hz | exact Nat.lt_trans (Nat.lt_succ_self _) hz | exact Nat.lt_trans (Nat.lt_succ_self _) (Nat.lt_trans (Nat.lt_succ_self _) hz))).trans p4
         have p5 := (hb2.cell (p := ⟨w.heap.size, 5, none⟩) (by first | exact hz | exact Nat.lt_trans (Nat.lt_succ_self _) hz | exact Nat.lt_trans (Nat.lt_succ_self _) (Nat.lt_trans (Nat.lt_succ_self _) hz))).trans p5
         have p6 := (hb2.cell (p := ⟨w.heap.size, 6, none⟩) (by first | exact hz | exact Nat.lt_trans (Nat.lt_succ_self _) hz | exact Nat.lt_trans (Nat.lt_succ_self _) (Nat.lt_trans (Nat.lt_succ_self _) hz))).trans p6
         have hB : Below w.heap.size w w2 := by first | exact (HB.out.drew).trans (hb2.mono HB.out.size) | exact HB.out.trans (hb2.mono HB.out.size)))
  all_goals
    go_wp2_with fail
    go_ret
    exact ⟨rfl, hB⟩

set_option maxRecDepth 100000 in
set_option maxHeartbeats 2000000 in
theorem setup_pl (s : Sh) (x0 x1 x2 x3 y0 y1 y2 y3 : Int) (w : World) (hI : IntsS w s.aS s.S) (hM : (s.S.length : Int) = s.M) (a0 : 0 ≤ x0 ∧ x0 < s.M) :
    Calls Try.prog 93 #[.agg #[.int .i64 x0, .int .i64 x1, .int .i64 x2, .int .i64 x3], .agg #[.int .i64 y0, .int .i64 y1, .int .i64 y2, .int .i64 y3], .agg #[.int .i64 s.O, .int .i64 s.C, .slice s.aH s.H.length s.cH, .int .i64 s.M, .slice s.aS s.S.length s.cS, .slice s.aJ s.J.length s.cJ]] w fun e w' => e = .returned (.int .i64 (waitV s.S (x0, x1, x2, x3) (y0, y1, y2, y3))) ∧ Below w.heap.size w w' := by
  obtain ⟨hl, hbd, blk, off, hadr, hc⟩ := hI
  obtain ⟨n, hn⟩ : ∃ n : Nat, x0 = n := ⟨x0.toNat, by omega⟩
  have hnl : n < s.S.length := by omega
  have c0 := hc n hnl
  have ha := hadr (fun e => by rw [e] at hnl; simp at hnl)
  have hw : waitV s.S (x0, x1, x2, x3) (y0, y1, y2, y3) = if x2 = y2 then 0 else gi s.S n := by unfold waitV; rw [hn]; rfl
  have hnl0 : (n : Int) < s.S.length := by omega
  rw [hw]
  subst hn
  have HA := Lib.hid ha
  clear hbd hadr hc hw ha hM a0
  generalize gi s.S n = g at *
  have HBw : Hid (∀ O1 O2 O3, Below w.heap.size w (((w.alloc O1).alloc O2).alloc O3)) := Lib.hid fun O1 O2 O3 => (((Below.refl _ _).alloc (Nat.le_refl _) _ : Below w.heap.size w (w.alloc O1)).alloc (by simp) _).alloc (by simp; omega) _
  have cq : ∀ O1 O2 O3, (((w.alloc O1).alloc O2).alloc O3).cell? ⟨blk, off + n, none⟩ = some (.int .i64 g) := fun O1 O2 O3 => cell_below c0 (HBw.out _ _ _)
  by_cases hc : x2 = y2
  · rw [if_pos hc]
    subst hc
    go_enter Try.func93, Try.ntmps93
    go_wp2_with fail
    go_ret
    exact ⟨rfl, HBw.out _ _ _⟩
  · rw [if_neg hc]
    have ha := HA.out
    go_enter Try.func93, Try.ntmps93
    go_wp2_with fail
    go_ret
    exact ⟨rfl, HBw.out _ _ _⟩

set_option maxRecDepth 100000 in
set_option maxHeartbeats 2000000 in
theorem ready_pl (s : Sh) (x0 x1 x2 x3 x4 x5 x6 y0 y1 y2 y3 : Int) (w : World) (hI : IntsS w s.aS s.S) (hM : (s.S.length : Int) = s.M) (a0 : 0 ≤ x0 ∧ x0 < s.M) (hW : 0 ≤ waitV s.S (x0, x1, x2, x3) (y0, y1, y2, y3) ∧ waitV s.S (x0, x1, x2, x3) (y0, y1, y2, y3) ≤ 100000) (a1 : 0 ≤ x1 ∧ x1 ≤ 100000) (a6 : 0 ≤ x6 ∧ x6 ≤ 10000000000) :
    Calls Try.prog 77 #[.agg #[.int .i64 x0, .int .i64 x1, .int .i64 x2, .int .i64 x3, .int .i64 x4, .int .i64 x5, .int .i64 x6], .agg #[.int .i64 y0, .int .i64 y1, .int .i64 y2, .int .i64 y3], .agg #[.int .i64 s.O, .int .i64 s.C, .slice s.aH s.H.length s.cH, .int .i64 s.M, .slice s.aS s.S.length s.cS, .slice s.aJ s.J.length s.cJ]] w fun e w' => e = .returned (.int .i64 (x6 + x1 + waitV s.S (x0, x1, x2, x3) (y0, y1, y2, y3))) ∧ Below w.heap.size w w' := by
  have HE := Lib.hid (fun W => end_pl x0 x1 x2 x3 x4 x5 x6 W a1 a6)
  have HS := Lib.hid (fun W (hW : Below w.heap.size w W) => setup_pl s x0 x1 x2 x3 y0 y1 y2 y3 W (hI.below hW) hM a0)
  generalize waitV s.S (x0, x1, x2, x3) (y0, y1, y2, y3) = g at *
  have ws : IntKind.i64.wrap (x6 + x1 + g) = x6 + x1 + g := IntWalk.i64_in _ (by omega)
  have HBw : Hid (∀ O1 O2 O3, Below w.heap.size w (((w.alloc O1).alloc O2).alloc O3)) := Lib.hid fun O1 O2 O3 => (((Below.refl _ _).alloc (Nat.le_refl _) _ : Below w.heap.size w (w.alloc O1)).alloc (by simp) _).alloc (by simp; omega) _
  clear a1 a6 a0 hM hI hW
  go_enter Try.func77, Try.ntmps77
  go_wp2_with fail
  obtain ⟨wB, hwB⟩ : ∃ wB, ((w.alloc (.cells #[.int .i64 x0, .int .i64 x1, .int .i64 x2, .int .i64 x3, .int .i64 x4, .int .i64 x5, .int .i64 x6] 67)).alloc (.cells #[.int .i64 y0, .int .i64 y1, .int .i64 y2, .int .i64 y3] 65)).alloc (.cells #[.int .i64 s.O, .int .i64 s.C, .slice s.aH s.H.length s.cH, .int .i64 s.M, .slice s.aS s.S.length s.cS, .slice s.aJ s.J.length s.cJ] 25) = wB := ⟨_, rfl⟩
  have hb : Below w.heap.size w wB := by rw [← hwB]; exact HBw.out _ _ _
  have p0 : wB.cell? ⟨w.heap.size, 0, none⟩ = some (.int .i64 x0) := by rw [← hwB]; simp [go_sem]
  have p1 : wB.cell? ⟨w.heap.size, 1, none⟩ = some (.int .i64 x1) := by rw [← hwB]; simp [go_sem]
  have p2 : wB.cell? ⟨w.heap.size, 2, none⟩ = some (.int .i64 x2) := by rw [← hwB]; simp [go_sem]
  have p3 : wB.cell? ⟨w.heap.size, 3, none⟩ = some (.int .i64 x3) := by rw [← hwB]; simp [go_sem]
  have p4 : wB.cell? ⟨w.heap.size, 4, none⟩ = some (.int .i64 x4) := by rw [← hwB]; simp [go_sem]
  have p5 : wB.cell? ⟨w.heap.size, 5, none⟩ = some (.int .i64 x5) := by rw [← hwB]; simp [go_sem]
  have p6 : wB.cell? ⟨w.heap.size, 6, none⟩ = some (.int .i64 x6) := by rw [← hwB]; simp [go_sem]
  have q0 : wB.cell? ⟨w.heap.size + 1, 0, none⟩ = some (.int .i64 y0) := by rw [← hwB]; simp [go_sem]
  have q1 : wB.cell? ⟨w.heap.size + 1, 1, none⟩ = some (.int .i64 y1) := by rw [← hwB]; simp [go_sem]
  have q2 : wB.cell? ⟨w.heap.size + 1, 2, none⟩ = some (.int .i64 y2) := by rw [← hwB]; simp [go_sem]
  have q3 : wB.cell? ⟨w.heap.size + 1, 3, none⟩ = some (.int .i64 y3) := by rw [← hwB]; simp [go_sem]
  have r0 : wB.cell? ⟨w.heap.size + 1 + 1, 0, none⟩ = some (.int .i64 s.O) := by rw [← hwB]; simp [go_sem]
  have r1 : wB.cell? ⟨w.heap.size + 1 + 1, 1, none⟩ = some (.int .i64 s.C) := by rw [← hwB]; simp [go_sem]
  have r2 : wB.cell? ⟨w.heap.size + 1 + 1, 2, none⟩ = some (.slice s.aH s.H.length s.cH) := by rw [← hwB]; simp [go_sem]
  have r3 : wB.cell? ⟨w.heap.size + 1 + 1, 3, none⟩ = some (.int .i64 s.M) := by rw [← hwB]; simp [go_sem]
  have r4 : wB.cell? ⟨w.heap.size + 1 + 1, 4, none⟩ = some (.slice s.aS s.S.length s.cS) := by rw [← hwB]; simp [go_sem]
  have r5 : wB.cell? ⟨w.heap.size + 1 + 1, 5, none⟩ = some (.slice s.aJ s.J.length s.cJ) := by rw [← hwB]; simp [go_sem]
  have hz : w.heap.size + 1 + 1 < wB.heap.size := by rw [← hwB]; simp
  rw [hwB]
  clear hwB HBw
  have HB := Lib.hid hb
  clear hb
  go_region_held3 (fun w' => w'.cell? ⟨w.heap.size, 0, none⟩ = some (.int .i64 x0) ∧ w'.cell? ⟨w.heap.size, 1, none⟩ = some (.int .i64 x1) ∧ w'.cell? ⟨w.heap.size, 2, none⟩ = some (.int .i64 x2) ∧ w'.cell? ⟨w.heap.size, 3, none⟩ = some (.int .i64 x3) ∧ w'.cell? ⟨w.heap.size, 4, none⟩ = some (.int .i64 x4) ∧ w'.cell? ⟨w.heap.size, 5, none⟩ = some (.int .i64 x5) ∧ w'.cell? ⟨w.heap.size, 6, none⟩ = some (.int .i64 x6) ∧ w'.cell? ⟨w.heap.size + 1, 0, none⟩ = some (.int .i64 y0) ∧ w'.cell? ⟨w.heap.size + 1, 1, none⟩ = some (.int .i64 y1) ∧ w'.cell? ⟨w.heap.size + 1, 2, none⟩ = some (.int .i64 y2) ∧ w'.cell? ⟨w.heap.size + 1, 3, none⟩ = some (.int .i64 y3) ∧ w'.cell? ⟨w.heap.size + 1 + 1, 0, none⟩ = some (.int .i64 s.O) ∧ w'.cell? ⟨w.heap.size + 1 + 1, 1, none⟩ = some (.int .i64 s.C) ∧ w'.cell? ⟨w.heap.size + 1 + 1, 2, none⟩ = some (.slice s.aH s.H.length s.cH) ∧ w'.cell? ⟨w.heap.size + 1 + 1, 3, none⟩ = some (.int .i64 s.M) ∧ w'.cell? ⟨w.heap.size + 1 + 1, 4, none⟩ = some (.slice s.aS s.S.length s.cS) ∧ w'.cell? ⟨w.heap.size + 1 + 1, 5, none⟩ = some (.slice s.aJ s.J.length s.cJ)) (go_keep)
    (first
      | (go_at_call 52
         refine (HE.out _).mono ?_
         rintro E w2 ⟨rfl, hb2⟩
         have p0 := (hb2.cell (p := ⟨w.heap.size, 0, none⟩) (by first | exact hz | exact Nat.lt_trans (Nat.lt_succ_self _) hz | exact Nat.lt_trans (Nat.lt_succ_self _) (Nat.lt_trans (Nat.lt_succ_self _) hz))).trans p0
         have p1 := (hb2.cell (p := ⟨w.heap.size, 1, none⟩) (by first | exact hz | exact Nat.lt_trans (Nat.lt_succ_self _) hz | exact Nat.lt_trans (Nat.lt_succ_self _) (Nat.lt_trans (Nat.lt_succ_self _) hz))).trans p1
         have p2 := (hb2.cell (p := ⟨w.heap.size, 2, none⟩) (by first | exact hz | exact Nat.lt_trans (Nat.lt_succ_self _) hz | exact Nat.lt_trans (Nat.lt_succ_self _) (Nat.lt_trans (Nat.lt_succ_self _) hz))).trans p2
         have p3 := (hb2.cell (p := ⟨w.heap.size, 3, none⟩) (by first | exact hz | exact Nat.lt_trans (Nat.lt_succ_self _) hz | exact Nat.lt_trans (Nat.lt_succ_self _) (Nat.lt_trans (Nat.lt_succ_self _) hz))).trans p3
         have p4 := (hb2.cell (p := ⟨w.heap.size, 4, none⟩) (by first | exact hz | exact Nat.lt_trans (Nat.lt_succ_self _) hz | exact Nat.lt_trans (Nat.lt_succ_self _) (Nat.lt_trans (Nat.lt_succ_self _) hz))).trans p4
         have p5 := (hb2.cell (p := ⟨w.heap.size, 5, none⟩) (by first | exact hz | exact Nat.lt_trans (Nat.lt_succ_self _) hz | exact Nat.lt_trans (Nat.lt_succ_self _) (Nat.lt_trans (Nat.lt_succ_self _) hz))).trans p5
         have p6 := (hb2.cell (p := ⟨w.heap.size, 6, none⟩) (by first | exact hz | exact Nat.lt_trans (Nat.lt_succ_self _) hz | exact Nat.lt_trans (Nat.lt_succ_self _) (Nat.lt_trans (Nat.lt_succ_self _) hz))).trans p6
         have q0 := (hb2.cell (p := ⟨w.heap.size + 1, 0, none⟩) (by first | exact hz | exact Nat.lt_trans (Nat.lt_succ_self _) hz | exact Nat.lt_trans (Nat.lt_succ_self _) (Nat.lt_trans (Nat.lt_succ_self _) hz))).trans q0
         have q1 := (hb2.cell (p := ⟨w.heap.size + 1, 1, none⟩) (by first | exact hz | exact Nat.lt_trans (Nat.lt_succ_self _) hz | exact Nat.lt_trans (Nat.lt_succ_self _) (Nat.lt_trans (Nat.lt_succ_self _) hz))).trans q1
         have q2 := (hb2.cell (p := ⟨w.heap.size + 1, 2, none⟩) (by first | exact hz | exact Nat.lt_trans (Nat.lt_succ_self _) hz | exact Nat.lt_trans (Nat.lt_succ_self _) (Nat.lt_trans (Nat.lt_succ_self _) hz))).trans q2
         have q3 := (hb2.cell (p := ⟨w.heap.size + 1, 3, none⟩) (by first | exact hz | exact Nat.lt_trans (Nat.lt_succ_self _) hz | exact Nat.lt_trans (Nat.lt_succ_self _) (Nat.lt_trans (Nat.lt_succ_self _) hz))).trans q3
         have r0 := (hb2.cell (p := ⟨w.heap.size + 1 + 1, 0, none⟩) (by first | exact hz | exact Nat.lt_trans (Nat.lt_succ_self _) hz | exact Nat.lt_trans (Nat.lt_succ_self _) (Nat.lt_trans (Nat.lt_succ_self _) hz))).trans r0
         have r1 := (hb2.cell (p := ⟨w.heap.size + 1 + 1, 1, none⟩) (by first | exact hz | exact Nat.lt_trans (Nat.lt_succ_self _) hz | exact Nat.lt_trans (Nat.lt_succ_self _) (Nat.lt_trans (Nat.lt_succ_self _) hz))).trans r1
         have r2 := (hb2.cell (p := ⟨w.heap.size + 1 + 1, 2, none⟩) (by first | exact hz | exact Nat.lt_trans (Nat.lt_succ_self _) hz | exact Nat.lt_trans (Nat.lt_succ_self _) (Nat.lt_trans (Nat.lt_succ_self _) hz))).trans r2
         have r3 := (hb2.cell (p := ⟨w.heap.size + 1 + 1, 3, none⟩) (by first | exact hz | exact Nat.lt_trans (Nat.lt_succ_self _) hz | exact Nat.lt_trans (Nat.lt_succ_self _) (Nat.lt_trans (Nat.lt_succ_self _) hz))).trans r3
         have r4 := (hb2.cell (p := ⟨w.heap.size + 1 + 1, 4, none⟩) (by first | exact hz | exact Nat.lt_trans (Nat.lt_succ_self _) hz | exact Nat.lt_trans (Nat.lt_succ_self _) (Nat.lt_trans (Nat.lt_succ_self _) hz))).trans r4
         have r5 := (hb2.cell (p := ⟨w.heap.size + 1 + 1, 5, none⟩) (by first | exact hz | exact Nat.lt_trans (Nat.lt_succ_self _) hz | exact Nat.lt_trans (Nat.lt_succ_self _) (Nat.lt_trans (Nat.lt_succ_self _) hz))).trans r5
         have HB : Hid (Below w.heap.size w w2) := Lib.hid (by first | exact (HB.out.drew).trans (hb2.mono HB.out.size) | exact HB.out.trans (hb2.mono HB.out.size))
         have hz : w.heap.size + 1 + 1 < w2.heap.size := Nat.lt_of_lt_of_le hz (by simpa using hb2.size))
      | (go_at_call 93
         refine (HS.out _ (by first | exact HB.out.drew | exact HB.out)).mono ?_
         rintro E w2 ⟨rfl, hb2⟩
         have p0 := (hb2.cell (p := ⟨w.heap.size, 0, none⟩) (by first | exact hz | exact Nat.lt_trans (Nat.lt_succ_self _) hz | exact Nat.lt_trans (Nat.lt_succ_self _) (Nat.lt_trans (Nat.lt_succ_self _) hz))).trans p0
         have p1 := (hb2.cell (p := ⟨w.heap.size, 1, none⟩) (by first | exact hz | exact Nat.lt_trans (Nat.lt_succ_self _) hz | exact Nat.lt_trans (Nat.lt_succ_self _) (Nat.lt_trans (Nat.lt_succ_self _) hz))).trans p1
         have p2 := (hb2.cell (p := ⟨w.heap.size, 2, none⟩) (by first | exact hz | exact Nat.lt_trans (Nat.lt_succ_self _) hz | exact Nat.lt_trans (Nat.lt_succ_self _) (Nat.lt_trans (Nat.lt_succ_self _) hz))).trans p2
         have p3 := (hb2.cell (p := ⟨w.heap.size, 3, none⟩) (by first | exact hz | exact Nat.lt_trans (Nat.lt_succ_self _) hz | exact Nat.lt_trans (Nat.lt_succ_self _) (Nat.lt_trans (Nat.lt_succ_self _) hz))).trans p3
         have p4 := (hb2.cell (p := ⟨w.heap.size, 4, none⟩) (by first | exact hz | exact Nat.lt_trans (Nat.lt_succ_self _) hz | exact Nat.lt_trans (Nat.lt_succ_self _) (Nat.lt_trans (Nat.lt_succ_self _) hz))).trans p4
         have p5 := (hb2.cell (p := ⟨w.heap.size, 5, none⟩) (by first | exact hz | exact Nat.lt_trans (Nat.lt_succ_self _) hz | exact Nat.lt_trans (Nat.lt_succ_self _) (Nat.lt_trans (Nat.lt_succ_self _) hz))).trans p5
         have p6 := (hb2.cell (p := ⟨w.heap.size, 6, none⟩) (by first | exact hz | exact Nat.lt_trans (Nat.lt_succ_self _) hz | exact Nat.lt_trans (Nat.lt_succ_self _) (Nat.lt_trans (Nat.lt_succ_self _) hz))).trans p6
         have q0 := (hb2.cell (p := ⟨w.heap.size + 1, 0, none⟩) (by first | exact hz | exact Nat.lt_trans (Nat.lt_succ_self _) hz | exact Nat.lt_trans (Nat.lt_succ_self _) (Nat.lt_trans (Nat.lt_succ_self _) hz))).trans q0
         have q1 := (hb2.cell (p := ⟨w.heap.size + 1, 1, none⟩) (by first | exact hz | exact Nat.lt_trans (Nat.lt_succ_self _) hz | exact Nat.lt_trans (Nat.lt_succ_self _) (Nat.lt_trans (Nat.lt_succ_self _) hz))).trans q1
         have q2 := (hb2.cell (p := ⟨w.heap.size + 1, 2, none⟩) (by first | exact hz | exact Nat.lt_trans (Nat.lt_succ_self _) hz | exact Nat.lt_trans (Nat.lt_succ_self _) (Nat.lt_trans (Nat.lt_succ_self _) hz))).trans q2
         have q3 := (hb2.cell (p := ⟨w.heap.size + 1, 3, none⟩) (by first | exact hz | exact Nat.lt_trans (Nat.lt_succ_self _) hz | exact Nat.lt_trans (Nat.lt_succ_self _) (Nat.lt_trans (Nat.lt_succ_self _) hz))).trans q3
         have r0 := (hb2.cell (p := ⟨w.heap.size + 1 + 1, 0, none⟩) (by first | exact hz | exact Nat.lt_trans (Nat.lt_succ_self _) hz | exact Nat.lt_trans (Nat.lt_succ_self _) (Nat.lt_trans (Nat.lt_succ_self _) hz))).trans r0
         have r1 := (hb2.cell (p := ⟨w.heap.size + 1 + 1, 1, none⟩) (by first | exact hz | exact Nat.lt_trans (Nat.lt_succ_self _) hz | exact Nat.lt_trans (Nat.lt_succ_self _) (Nat.lt_trans (Nat.lt_succ_self _) hz))).trans r1
         have r2 := (hb2.cell (p := ⟨w.heap.size + 1 + 1, 2, none⟩) (by first | exact hz | exact Nat.lt_trans (Nat.lt_succ_self _) hz | exact Nat.lt_trans (Nat.lt_succ_self _) (Nat.lt_trans (Nat.lt_succ_self _) hz))).trans r2
         have r3 := (hb2.cell (p := ⟨w.heap.size + 1 + 1, 3, none⟩) (by first | exact hz | exact Nat.lt_trans (Nat.lt_succ_self _) hz | exact Nat.lt_trans (Nat.lt_succ_self _) (Nat.lt_trans (Nat.lt_succ_self _) hz))).trans r3
         have r4 := (hb2.cell (p := ⟨w.heap.size + 1 + 1, 4, none⟩) (by first | exact hz | exact Nat.lt_trans (Nat.lt_succ_self _) hz | exact Nat.lt_trans (Nat.lt_succ_self _) (Nat.lt_trans (Nat.lt_succ_self _) hz))).trans r4
         have r5 := (hb2.cell (p := ⟨w.heap.size + 1 + 1, 5, none⟩) (by first | exact hz | exact Nat.lt_trans (Nat.lt_succ_self _) hz | exact Nat.lt_trans (Nat.lt_succ_self _) (Nat.lt_trans (Nat.lt_succ_self _) hz))).trans r5
         have HB : Hid (Below w.heap.size w w2) := Lib.hid (by first | exact (HB.out.drew).trans (hb2.mono HB.out.size) | exact HB.out.trans (hb2.mono HB.out.size))
         have hz : w.heap.size + 1 + 1 < w2.heap.size := Nat.lt_of_lt_of_le hz (by simpa using hb2.size)))
  all_goals
    go_wp2_with fail
    go_ret
    exact ⟨rfl, HB.out⟩
end Go.Proofs.Ytgphkfonjfdifaa
