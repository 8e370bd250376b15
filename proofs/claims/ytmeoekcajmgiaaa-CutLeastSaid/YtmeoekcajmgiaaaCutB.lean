/-
  The walks of the reference's Valid, and of fits and Fits of both. By an AI agent.
-/
import Derived.Test.YtmeoekcajmgiaaaCutA
namespace Go.Proofs.Ytmeoekcajmgiaaa
set_option linter.unusedVariables false
set_option linter.unusedSimpArgs false
open Go.RowKit

theorem from_q {n a b : Int} {v : Bool} (h : btw n a b = v) (w : World) :
    Calls Try.prog 36 #[.int .i64 a, .int .i64 n, .int .i64 b] w fun e w' => e = .returned (.bool v) ∧ w' = w := (from_any n a b w).mono fun e w' g => ⟨by rw [← h]; exact g.1, g.2.symm⟩

/-- A world in which the box of a cutting lies behind w. -/
def InBox (w W : World) (L K : Int) (s : Value) : Prop :=
  Below w.heap.size w W ∧ W.cell? ⟨w.heap.size, 0, none⟩ = some (.int .i64 L) ∧ W.cell? ⟨w.heap.size, 1, none⟩ = some (.int .i64 K) ∧ W.cell? ⟨w.heap.size, 2, none⟩ = some s
theorem InBox.start (w : World) (L K : Int) (s : Value) (T : TypeId) : InBox w (w.alloc (.cells #[.int .i64 L, .int .i64 K, s] T)) L K s :=
  ⟨(Below.refl _ _).alloc (Nat.le_refl _) _, by simp [go_sem], by simp [go_sem], by simp [go_sem]⟩
theorem InBox.on {w W W' : World} {L K : Int} {s : Value} (h : InBox w W L K s) (hb : Below W.heap.size W W') : InBox w W' L K s :=
  ⟨h.1.trans (hb.mono h.1.size), cell_below h.2.1 hb, cell_below h.2.2.1 hb, cell_below h.2.2.2 hb⟩

set_option maxRecDepth 100000 in
set_option maxHeartbeats 2000000 in
theorem refValid_any (L K : Int) (aa : Option Addr) (l : List (Int × Int)) (ca : Nat) (w : World) (hA : PairsS w aa l) :
    Calls Try.prog 19 #[.agg #[.int .i64 L, .int .i64 K, .slice aa l.length ca]] w fun e w' => e = .returned (.bool (cutB L K l)) ∧ Below w.heap.size w w' := by
  by_cases h1 : 1 ≤ L ∧ L ≤ 1000
  · have HB1 := Lib.hid (btw_t h1.1 h1.2)
    by_cases h2 : 0 ≤ K ∧ K ≤ 20
    · have HB2 := Lib.hid (btw_t h2.1 h2.2)
      by_cases h3 : l.length ≤ 8
      · have h4 : ¬ (8 : Int) < l.length := by omega
        obtain ⟨hlen, hbd, blk, off, hadr, hc⟩ := hA
        have HC := Lib.hid hc
        have HL : Hid (0 < l.length → aa = some ⟨blk, off, none⟩) := Lib.hid fun h => hadr (pos_ne (n := 0) h)
        have HT : Hid ((∀ j, j < l.length → asksOk L l j) → cutB L K l = true) := Lib.hid fun h => cutB_t ⟨h1, h2, h3, h⟩
        have HF : Hid (∀ j, j < l.length → ¬ asksOk L l j → cutB L K l = false) := Lib.hid fun j hj h => cutB_f fun g => h (g.2.2.2 j hj)
        have hS := InBox.start w L K (.slice aa l.length ca) 24
        generalize cutB L K l = R at *
        clear hc hbd hadr h1 h2
        go_enter Try.func19, Try.ntmps19
        go_wp2_with (go_at_call 36; refine (from_any _ _ _ _).mono ?_; rintro e w' ⟨rfl, rfl⟩; first | rw [HB1.out] | rw [HB2.out])
        obtain ⟨wB, hwB⟩ : ∃ wB, w.alloc (.cells #[.int .i64 L, .int .i64 K, .slice aa l.length ca] 24) = wB := ⟨_, rfl⟩
        rw [hwB] at hS ⊢
        clear hwB
        go_loopw [3] (fun i wr => ∃ k : Nat, k ≤ l.length ∧ i = .int .i64 k ∧ InBox w wr L K (.slice aa l.length ca) ∧ Hid (∀ j, j < k → asksOk L l j)) (fun i _ => l.length - (intOf i).toNat)
        case atStart => exact ⟨0, Nat.zero_le _, rfl, hS, Lib.hid fun j hj => absurd hj (Nat.not_lt_zero _)⟩
        case round =>
          obtain ⟨k, hk, rfl, hB, HA⟩ := hrel
          obtain ⟨hb, p0, p1, p2⟩ := hB
          by_cases hlt : k < l.length
          · obtain rfl := HL.out (by omega)
            have c0 := cell_below (HC.out k hlt).1 hb
            have c1 := cell_below (HC.out k hlt).2 hb
            have HK : Hid (asksOk L l k → ∀ j, j < k + 1 → asksOk L l j) := Lib.hid fun h j hj => by
              by_cases e : j = k
              · subst e; exact h
              · exact HA.out j (by omega)
            have HN := Lib.hid (HF.out k hlt)
            clear HC HL HT HF
            unfold asksOk at HK HN
            generalize (gp l k).1 = x at *
            generalize (gp l k).2 = y at *
            have q : ∀ n, InBox w (wr.drewN n) L K (.slice (some ⟨blk, off, none⟩) l.length ca) := fun n => InBox.on ⟨hb, p0, p1, p2⟩ (below_drewN (Below.refl _ _) _)
            have Q := Lib.hid q
            clear q
            by_cases g1 : 1 ≤ x ∧ x ≤ L
            · have G1 := Lib.hid (btw_t g1.1 g1.2)
              by_cases g2 : 0 ≤ y ∧ y ≤ 50
              · have G2 := Lib.hid (btw_t g2.1 g2.2)
                have HR := Lib.hid (HK.out ⟨g1, g2⟩)
                clear HK HN g1 g2 HB1 HB2
                go_wp2_with fail
                go_quiet ((go_at_call 36; exact Calls.quiet_of_same (from_q (by first | exact G1.out | exact G2.out) _)))
                go_wp2_with fail
                go_roundw
                case rel => exact ⟨k + 1, by omega, by go_num, Q.out _, HR⟩
                case measure => simp [intOf]; omega
              · have G2 := Lib.hid (btw_f g2)
                have HR := Lib.hid (HN.out fun h => g2 h.2)
                clear HK HN g1 g2 HB1 HB2
                go_wp2_with fail
                go_quiet ((go_at_call 36; exact Calls.quiet_of_same (from_q (by first | exact G1.out | exact G2.out) _)))
                go_wp2_with fail
                go_ret
                rw [HR.out]
                exact ⟨rfl, below_drewN hb _⟩
            · have G1 := Lib.hid (btw_f g1)
              have HR := Lib.hid (HN.out fun h => g1 h.1)
              clear HK HN g1 HB1 HB2
              go_wp2_with fail
              go_quiet ((go_at_call 36; exact Calls.quiet_of_same (from_q G1.out _)))
              go_wp2_with fail
              go_ret
              rw [HR.out]
              exact ⟨rfl, below_drewN hb _⟩
          · obtain rfl : k = l.length := by omega
            have HR := Lib.hid (HT.out HA.out)
            go_wp2_with fail
            go_ret
            rw [HR.out]
            exact ⟨rfl, hb⟩
      · have h4 : (8 : Int) < l.length := by omega
        rw [cutB_f fun h => h3 h.2.2.1]
        clear hA
        go_enter Try.func19, Try.ntmps19
        go_wp2_with (go_at_call 36; refine (from_any _ _ _ _).mono ?_; rintro e w' ⟨rfl, rfl⟩; first | rw [HB1.out] | rw [HB2.out])
        go_ret
        exact ⟨rfl, (Below.refl _ _).alloc (Nat.le_refl _) _⟩
    · have HB2 := Lib.hid (btw_f h2)
      rw [cutB_f fun h => h2 h.2.1]
      clear hA h2
      go_enter Try.func19, Try.ntmps19
      go_wp2_with (go_at_call 36; refine (from_any _ _ _ _).mono ?_; rintro e w' ⟨rfl, rfl⟩; first | rw [HB1.out] | rw [HB2.out])
      go_ret
      exact ⟨rfl, (Below.refl _ _).alloc (Nat.le_refl _) _⟩
  · have HB1 := Lib.hid (btw_f h1)
    have HB2 := HB1
    rw [cutB_f fun h => h1 h.1]
    clear hA h1
    go_enter Try.func19, Try.ntmps19
    go_wp2_with (go_at_call 36; refine (from_any _ _ _ _).mono ?_; rintro e w' ⟨rfl, rfl⟩; first | rw [HB1.out] | rw [HB2.out])
    go_ret
    exact ⟨rfl, (Below.refl _ _).alloc (Nat.le_refl _) _⟩

/-- How much of a roll's room the first k numbers of a pattern take. -/
def sumF (K : Int) (l : List (Int × Int)) (q : List Int) : Nat → Int
  | 0 => 0
  | k + 1 => sumF K l q k + gi q k * ((gp l k).1 + K)
def numOk (q : List Int) (j : Nat) : Prop := 0 ≤ gi q j ∧ gi q j ≤ 50
theorem sumF_bd {K : Int} {l : List (Int × Int)} {q : List Int} (k0 : 0 ≤ K) (k1 : K ≤ 20) : ∀ k, (∀ j, j < k → numOk q j) → (∀ j, j < k → 1 ≤ (gp l j).1 ∧ (gp l j).1 ≤ 1000) → 0 ≤ sumF K l q k ∧ sumF K l q k ≤ 51000 * k
  | 0, _, _ => by simp [sumF]
  | k + 1, h, g => by
    have ih := sumF_bd k0 k1 k (fun j hj => h j (by omega)) (fun j hj => g j (by omega))
    have hk := h k (by omega)
    have gk := g k (by omega)
    unfold numOk at hk
    have e1 := Int.mul_nonneg hk.1 (show 0 ≤ (gp l k).1 + K by omega)
    have e2 : gi q k * ((gp l k).1 + K) ≤ 50 * ((gp l k).1 + K) := Int.mul_le_mul_of_nonneg_right hk.2 (by omega)
    rw [sumF]
    omega
def FitOk (L K : Int) (l : List (Int × Int)) (q : List Int) : Prop := (∀ j, j < q.length → numOk q j) ∧ sumF K l q q.length ≤ L + K
open Classical in
noncomputable def fitB (L K : Int) (l : List (Int × Int)) (q : List Int) : Bool := decide (FitOk L K l q)
theorem fitB_t {L K : Int} {l : List (Int × Int)} {q : List Int} (h : FitOk L K l q) : fitB L K l q = true := by unfold fitB; simpa using h
theorem fitB_f {L K : Int} {l : List (Int × Int)} {q : List Int} (h : ¬ FitOk L K l q) : fitB L K l q = false := by unfold fitB; simpa using h

set_option maxRecDepth 100000 in
set_option maxHeartbeats 2000000 in
theorem refFits0_any (L K : Int) (aa : Option Addr) (l : List (Int × Int)) (ca : Nat) (ap : Option Addr) (q : List Int) (cq : Nat) (w : World) (hA : PairsS w aa l) (hQ : IntsS w ap q) (hV : CutOk L K l) (hl : q.length = l.length) :
    Calls Try.prog 37 #[.agg #[.int .i64 L, .int .i64 K, .slice aa l.length ca], .slice ap q.length cq] w fun e w' => e = .returned (.bool (fitB L K l q)) ∧ Below w.heap.size w w' := by
  obtain ⟨⟨l0, l1⟩, ⟨k0, k1⟩, h8, hok⟩ := hV
  have HS0 := Lib.hid (fun W (hW : Below w.heap.size w W) i hi h0 h1 => size_any L K aa l ca i W (hA.below hW) hi h0 h1 k0 k1)
  have HRm := Lib.hid (fun W => room_any L K aa l ca W (by omega) l1 k0 k1)
  have HSB : Hid (∀ k, k ≤ q.length → (∀ j, j < k → numOk q j) → 0 ≤ sumF K l q k ∧ sumF K l q k ≤ 51000 * k) := Lib.hid fun k hk h => sumF_bd k0 k1 k h (fun j hj => by have := (hok j (by omega)).1; omega)
  have HAB : Hid (∀ j, j < q.length → 1 ≤ (gp l j).1 ∧ (gp l j).1 ≤ 1000) := Lib.hid fun j hj => by have := (hok j (by omega)).1; omega
  obtain ⟨hlenA, -, blk, off, hadr, hc⟩ := hA
  obtain ⟨hlen, hbd, bq, oq, hadq, hq⟩ := hQ
  have HC := Lib.hid hc
  have HQ := Lib.hid hq
  have HL : Hid (0 < l.length → aa = some ⟨blk, off, none⟩) := Lib.hid fun h => hadr (pos_ne (n := 0) h)
  have HLQ : Hid (0 < q.length → ap = some ⟨bq, oq, none⟩) := Lib.hid fun h => hadq (pos_ne (n := 0) h)
  have HT : Hid ((∀ j, j < q.length → numOk q j) → sumF K l q q.length ≤ L + K → fitB L K l q = true) := Lib.hid fun h1 h2 => fitB_t ⟨h1, h2⟩
  have HF1 : Hid (∀ j, j < q.length → ¬ numOk q j → fitB L K l q = false) := Lib.hid fun j hj h => fitB_f fun g => h (g.1 j hj)
  have HF2 : Hid (¬ sumF K l q q.length ≤ L + K → fitB L K l q = false) := Lib.hid fun h => fitB_f fun g => h g.2
  have hS := InBox.start w L K (.slice aa l.length ca) 24
  generalize fitB L K l q = R at *
  clear hc hadr hq hadq hbd hok
  go_enter Try.func37, Try.ntmps37
  go_wp2_with fail
  obtain ⟨wB, hwB⟩ : ∃ wB, w.alloc (.cells #[.int .i64 L, .int .i64 K, .slice aa l.length ca] 24) = wB := ⟨_, rfl⟩
  rw [hwB] at hS ⊢
  clear hwB
  go_loopw [5, 6] (fun u i wr => ∃ k : Nat, k ≤ q.length ∧ i = .int .i64 k ∧ u = .int .i64 (sumF K l q k) ∧ InBox w wr L K (.slice aa l.length ca) ∧ Hid (∀ j, j < k → numOk q j)) (fun _ i _ => q.length - (intOf i).toNat)
  case atStart => exact ⟨0, Nat.zero_le _, rfl, rfl, hS, Lib.hid fun j hj => absurd hj (Nat.not_lt_zero _)⟩
  case round =>
    obtain ⟨k, hk, rfl, rfl, hB, HA⟩ := hrel
    obtain ⟨hb, p0, p1, p2⟩ := hB
    obtain ⟨s0, s1⟩ := HSB.out k hk HA.out
    by_cases hlt : k < q.length
    · obtain rfl := HL.out (by omega)
      obtain rfl := HLQ.out (by omega)
      have c0 := cell_below (HC.out k (by omega)).1 hb
      have d0 := cell_below (HQ.out k hlt) hb
      obtain ⟨a0, a1⟩ := HAB.out k hlt
      have HS := Lib.hid (fun W hW => HS0.out W hW k (by omega) (by omega) (by omega))
      have HN := Lib.hid (HF1.out k hlt)
      have HK : Hid (numOk q k → ∀ j, j < k + 1 → numOk q j) := Lib.hid fun h j hj => by
        by_cases e : j = k
        · subst e; exact h
        · exact HA.out j (by omega)
      have HU : Hid (sumF K l q (k + 1) = sumF K l q k + gi q k * ((gp l k).1 + K)) := Lib.hid rfl
      have Q : Hid (∀ n, InBox w (wr.drewN n) L K (.slice (some ⟨blk, off, none⟩) l.length ca)) := Lib.hid fun n => InBox.on ⟨hb, p0, p1, p2⟩ (below_drewN (Below.refl _ _) _)
      clear HC HQ HL HLQ HT HF1 HF2 HS0 HAB HSB
      unfold numOk at HN
      by_cases hv : 0 ≤ gi q k ∧ gi q k ≤ 50
      · have HR := Lib.hid (HK.out hv)
        have HB1 := Lib.hid (btw_t hv.1 hv.2)
        obtain ⟨v0, v1⟩ := hv
        have e1 := Int.mul_nonneg v0 (show 0 ≤ (gp l k).1 + K by omega)
        have e2 : gi q k * ((gp l k).1 + K) ≤ 50 * ((gp l k).1 + K) := Int.mul_le_mul_of_nonneg_right v1 (by omega)
        have kk : k ≤ 8 := by omega
        have g0 : (k : Int) < q.length := by omega
        have g1 : (k : Int) < l.length := by omega
        clear HK HN HRm
        generalize sumF K l q k = s at *
        generalize gi q k = v at *
        generalize (gp l k).1 = x at *
        obtain ⟨z, hz⟩ : ∃ z, x + K = z := ⟨_, rfl⟩
        rw [hz] at HS HU e1 e2
        obtain ⟨pq, hpq⟩ : ∃ pq, v * z = pq := ⟨_, rfl⟩
        rw [hpq] at HU e1 e2
        go_wp2_with (go_at_call 36; refine (from_any _ _ _ _).mono ?_; rintro e w' ⟨rfl, rfl⟩; rw [HB1.out])
        go_quiet (fail)
        go_wp2_with fail
        go_roundw
        case rel => exact ⟨k + 1, by omega, by go_num, by rw [HU.out], Q.out _, HR⟩
        case measure => simp [intOf]; omega
      · have HR := Lib.hid (HN.out hv)
        have HB1 := Lib.hid (btw_f hv)
        clear HK HN HRm hv
        generalize sumF K l q k = s at *
        generalize gi q k = v at *
        generalize (gp l k).1 = x at *
        go_wp2_with (go_at_call 36; refine (from_any _ _ _ _).mono ?_; rintro e w' ⟨rfl, rfl⟩; rw [HB1.out])
        go_ret
        rw [HR.out]
        exact ⟨rfl, hb⟩
    · obtain rfl : k = q.length := by omega
      by_cases hf : sumF K l q q.length ≤ L + K
      · have HR := Lib.hid (HT.out HA.out hf)
        clear HT HF1 HF2
        generalize sumF K l q q.length = s at *
        go_wp2_with fail
        go_ret
        rw [HR.out]
        exact ⟨by simp [hf], hb⟩
      · have HR := Lib.hid (HF2.out (by omega))
        clear HT HF1 HF2
        generalize sumF K l q q.length = s at *
        go_wp2_with fail
        go_ret
        rw [HR.out]
        exact ⟨by simp [hf], hb⟩
end Go.Proofs.Ytmeoekcajmgiaaa
