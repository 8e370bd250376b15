/-
  The reference's Metres and Lists. By an AI agent.
-/
import Derived.Test.YtdiabpcpcilclaaRoadX
import Derived.Test.YtdiabpcpcilclaaRoadTm
import Derived.Deep.RegionHeld3
import Derived.BigQuiet
namespace Go.Proofs.Ytdiabpcpcilclaa
set_option linter.unusedVariables false
set_option linter.unusedSimpArgs false
open Go.RowKit

theorem spnB_t {l : List Spn} (h : ∀ j, j < l.length → strB (gp l j).1 (gp l j).2 10000000 = true) : spnB l = true := by
  have := spnB_any l
  rw [(anyK_iff _).2 (fun j hj => by simp [h j hj])] at this
  simpa using this.symm
theorem spnB_f {l : List Spn} {j : Nat} (hj : j < l.length) (h : strB (gp l j).1 (gp l j).2 10000000 = false) : spnB l = false := by
  have := spnB_any l
  rw [anyK_true (j := j) (by simp [h]) _ hj] at this
  simpa using this.symm
theorem asc_sum {M : Int} : ∀ {q : List Spn} (f : Int), Asc0 q → InV M q → (∀ p ∈ q, f ≤ p.1) → f ≤ M → sumL q ≤ M - f
  | [], f, _, _, _, h => by simp only [sumL]; omega
  | p :: q, f, h, hI, hf, hM => by
    have hc := h.1
    rw [List.pairwise_cons] at hc
    have hp := hI p (by simp)
    have hv := h.2 p (by simp)
    have hfp := hf p (by simp)
    have := asc_sum (q := q) p.2 ⟨hc.2, fun r hr => h.2 r (List.mem_cons_of_mem _ hr)⟩ (fun r hr => hI r (List.mem_cons_of_mem _ hr)) (fun r hr => hc.1 r hr) hp.2.2
    simp only [sumL]; omega
theorem canon_sum {q : List Spn} (h : Canon q) (hI : InV 10000000 q) : 0 ≤ sumL q ∧ sumL q ≤ 10000000 := by
  have h1 := asc_sum (q := q) 0 (canon_asc h) hI (fun p hp => (hI p hp).1) (by decide)
  have h2 := sum_nonneg (q := q) fun p hp => Int.le_of_lt (h.2 p hp)
  omega
set_option maxRecDepth 100000 in
set_option maxHeartbeats 1000000 in
theorem metres_any (a : Option Addr) (q : List Spn) (ca : Nat) (w : World) (hA : PairsS w a q) (hI : InV 10000000 q) (hs : sumL q ≤ 10000000) :
    Calls Try.prog 39 #[.slice a q.length ca] w fun e w' => e = .returned (.int .i64 (sumL q)) ∧ Below w.heap.size w w' := by
  obtain ⟨hlen, -, blk, off, hadr, hcell⟩ := hA
  have HC := Lib.hid hcell
  have HL : Hid (0 < q.length → a = some ⟨blk, off, none⟩) := Lib.hid fun h => hadr (pos_ne (n := 0) h)
  have HS : Hid (∀ k, 0 ≤ sumL (q.take k) ∧ sumL (q.take k) ≤ 10000000) := Lib.hid fun k => by
    have h1 := sum_take_le (q := q) (fun p hp => (hI p hp).2.1) k
    have h2 := sum_nonneg (q := q.take k) fun p hp => (hI p (List.mem_of_mem_take hp)).2.1
    omega
  have HIn := Lib.hid hI
  have HT : Hid (sumL (q.take q.length) = sumL q) := Lib.hid (by rw [List.take_length])
  clear hcell hadr hI hs
  go_enter Try.func39, Try.ntmps39
  go_wp2_with fail
  go_loopw [3, 4] (fun n i wr => ∃ k : Nat, k ≤ q.length ∧ i = .int .i64 k ∧ n = .int .i64 (sumL (q.take k)) ∧ Below w.heap.size w wr) (fun _ i _ => q.length - (intOf i).toNat)
  case atStart => exact ⟨0, Nat.zero_le _, rfl, rfl, Below.refl _ _⟩
  case round =>
    obtain ⟨k, hk, rfl, rfl, hbr⟩ := hrel
    by_cases hlt : k < q.length
    · obtain rfl := HL.out (by omega)
      have c0 := cell_below (HC.out k hlt).1 hbr
      have c1 := cell_below (HC.out k hlt).2 hbr
      have HN := Lib.hid (sum_take hlt)
      obtain ⟨s0, s1⟩ := HS.out k
      obtain ⟨t0, t1⟩ := HS.out (k + 1)
      obtain ⟨x0, xy, y1⟩ := HIn.out _ (gp_mem hlt)
      have hkl : (k : Int) < (q.length : Int) := by omega
      have hk0 : (0 : Int) ≤ (k : Int) := by omega
      have hmeas : q.length - (k + 1) < q.length - k := by omega
      rw [HN.out] at t0 t1
      clear HC HL HS HIn HT
      generalize (gp q k).1 = x at *
      generalize (gp q k).2 = y at *
      generalize sumL (q.take k) = n at *
      have w1 : IntKind.i64.wrap (y - x) = y - x := IntWalk.i64_in _ (by omega)
      have w2 : IntKind.i64.wrap (n + (y - x)) = n + (y - x) := IntWalk.i64_in _ (by omega)
      go_wp2_with fail
      go_quiet (fail)
      go_wp2_with fail
      go_roundw
      case rel => exact ⟨k + 1, by omega, by go_num, by rw [HN.out], below_drewN hbr _⟩
      case measure => first | (simp [intOf]; exact hmeas) | simpa [intOf] using hmeas
    · obtain rfl : k = q.length := by omega
      rw [HT.out]
      clear HC HL HS HIn HT
      go_wp2_with fail
      go_ret
      exact ⟨rfl, hbr⟩
set_option maxRecDepth 100000 in
set_option maxHeartbeats 1000000 in
theorem lists_any (a : Option Addr) (l : List Spn) (ca : Nat) (w : World) (hA : PairsS w a l) :
    Calls Try.prog 21 #[.slice a l.length ca] w fun e w' => e = .returned (.bool (okL l)) ∧ Below w.heap.size w w' := by
  obtain ⟨hlen, -, blk, off, hadr, hcell⟩ := hA
  have HC := Lib.hid hcell
  have HL : Hid (0 < l.length → a = some ⟨blk, off, none⟩) := Lib.hid fun h => hadr (pos_ne (n := 0) h)
  have HB : Hid (∀ k, k < l.length → strB (gp l k).1 (gp l k).2 10000000 = false → okL l = false) := Lib.hid fun k hk h => by unfold okL; rw [spnB_f hk h, Bool.and_false]
  have HE : Hid ((∀ j, j < l.length → strB (gp l j).1 (gp l j).2 10000000 = true) → okL l = decide ((l.length : Int) ≤ 1000)) := Lib.hid fun h => by
    unfold okL; rw [spnB_t h, Bool.and_true]
    by_cases g : l.length ≤ 1000
    · rw [decide_eq_true g, decide_eq_true (by omega)]
    · rw [decide_eq_false g, decide_eq_false (by omega)]
  clear hcell hadr
  go_enter Try.func21, Try.ntmps21
  go_wp2_with fail
  go_loopw [3] (fun i wr => ∃ k : Nat, k ≤ l.length ∧ i = .int .i64 k ∧ Hid (∀ j, j < k → strB (gp l j).1 (gp l j).2 10000000 = true) ∧ Below w.heap.size w wr) (fun i _ => l.length - (intOf i).toNat)
  case atStart => exact ⟨0, Nat.zero_le _, rfl, Lib.hid fun j hj => absurd hj (Nat.not_lt_zero _), Below.refl _ _⟩
  case round =>
    obtain ⟨k, hk, rfl, HN, hbr⟩ := hrel
    by_cases hlt : k < l.length
    · obtain rfl := HL.out (by omega)
      have c0 := cell_below (HC.out k hlt).1 hbr
      have c1 := cell_below (HC.out k hlt).2 hbr
      have hkl : (k : Int) < (l.length : Int) := by omega
      have hk0 : (0 : Int) ≤ (k : Int) := by omega
      have hmeas : l.length - (k + 1) < l.length - k := by omega
      have HS : Hid (strB (gp l k).1 (gp l k).2 10000000 = true → ∀ j, j < k + 1 → strB (gp l j).1 (gp l j).2 10000000 = true) := Lib.hid fun h j hj => by
        by_cases e : j = k
        · subst e; exact h
        · exact HN.out j (by omega)
      obtain ⟨x, hx⟩ : ∃ x, (gp l k).1 = x := ⟨_, rfl⟩
      obtain ⟨y, hy⟩ : ∃ y, (gp l k).2 = y := ⟨_, rfl⟩
      have HB := Lib.hid (HB.out k hlt)
      rw [hx, hy] at HS HB
      rw [hx] at c0
      rw [hy] at c1
      clear hx hy HC HL HE HN
      by_cases h1 : x < 0
      · have hE := Lib.hid (HB.out (strB_f (by omega)))
        have b1 : decide (x < 0) = true := by simpa using h1
        clear HB HS
        go_wp2_with fail
        go_quiet (fail)
        go_wp2_with fail
        go_ret
        exact ⟨by rw [hE.out]; rfl, below_drewN hbr _⟩
      · have b1 : decide (x < 0) = false := by simpa using h1
        by_cases h2 : y ≤ x
        · have hE := Lib.hid (HB.out (strB_f (by omega)))
          have b2 : decide (y ≤ x) = true := by simpa using h2
          clear HB HS
          go_wp2_with fail
          go_quiet (fail)
          go_wp2_with fail
          go_ret
          exact ⟨by rw [hE.out]; rfl, below_drewN hbr _⟩
        · have b2 : decide (y ≤ x) = false := by simpa using h2
          by_cases h3 : 10000000 < y
          · have hE := Lib.hid (HB.out (strB_f (by omega)))
            have b3 : decide (10000000 < y) = true := by simpa using h3
            clear HB HS
            go_wp2_with fail
            go_quiet (fail)
            go_wp2_with fail
            go_ret
            exact ⟨by rw [hE.out]; rfl, below_drewN hbr _⟩
          · have b3 : decide (10000000 < y) = false := by simpa using h3
            have HSk := Lib.hid (HS.out (strB_t (by omega)))
            clear HB HS
            go_wp2_with fail
            go_quiet (fail)
            go_wp2_with fail
            go_roundw
            case rel => exact ⟨k + 1, by omega, by go_num, HSk, below_drewN hbr _⟩
            case measure => first | (simp [intOf]; exact hmeas) | simpa [intOf] using hmeas
    · obtain rfl : k = l.length := by omega
      have hE := Lib.hid (HE.out HN.out)
      clear HC HL HB HE HN
      go_wp2_with fail
      go_ret
      exact ⟨by rw [hE.out] <;> rfl, hbr⟩
end Go.Proofs.Ytdiabpcpcilclaa
