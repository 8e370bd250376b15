/-
  Ahead and Warn of package road and of the reference. By an AI agent.
-/
import Derived.Test.YtacmeadmmjehmaaRoadC
namespace Go.Proofs.Ytacmeadmmjehmaa
set_option linter.unusedVariables false
set_option linter.unusedSimpArgs false
open Go.RowKit

theorem isDir_1 (w : World) : Calls Try.prog 69 #[.int .i64 1] w fun e w' => e = .returned (.bool true) ∧ w = w' := by
  go_enter Try.func69, Try.ntmps69
  go_wp2
  go_ret
  exact ⟨rfl, rfl⟩
theorem isDir_m (w : World) : Calls Try.prog 69 #[.int .i64 (-1)] w fun e w' => e = .returned (.bool true) ∧ w = w' := by
  go_enter Try.func69, Try.ntmps69
  go_wp2
  go_ret
  exact ⟨rfl, rfl⟩
theorem isDir_no (d : Int) (h1 : d ≠ 1) (h2 : d ≠ -1) (w : World) : Calls Try.prog 69 #[.int .i64 d] w fun e w' => e = .returned (.bool false) ∧ w = w' := by
  have e1 : (d == 1) = false := by simpa using h1
  have e2 : (d == -1) = false := by simpa using h2
  clear h1 h2
  go_enter Try.func69, Try.ntmps69
  go_wp2
  go_ret
  exact ⟨rfl, rfl⟩
theorem dirn_1 (w : World) : Calls Try.prog 70 #[.int .i64 1] w fun e w' => e = .returned (.bool true) ∧ w = w' := by
  go_enter Try.func70, Try.ntmps70
  go_wp2
  go_ret
  exact ⟨rfl, rfl⟩
theorem dirn_m (w : World) : Calls Try.prog 70 #[.int .i64 (-1)] w fun e w' => e = .returned (.bool true) ∧ w = w' := by
  go_enter Try.func70, Try.ntmps70
  go_wp2
  go_ret
  exact ⟨rfl, rfl⟩
theorem dirn_no (d : Int) (h1 : d ≠ 1) (h2 : d ≠ -1) (w : World) : Calls Try.prog 70 #[.int .i64 d] w fun e w' => e = .returned (.bool false) ∧ w = w' := by
  have e1 : (d == 1) = false := by simpa using h1
  have e2 : (d == -1) = false := by simpa using h2
  clear h1 h2
  go_enter Try.func70, Try.ntmps70
  go_wp2
  go_ret
  exact ⟨rfl, rfl⟩
set_option maxHeartbeats 400000 in
theorem from_any (n a b : Int) (w : World) :
    Calls Try.prog 53 #[.int .i64 a, .int .i64 n, .int .i64 b] w fun e w' => e = .returned (.bool (btw n a b)) ∧ w = w' := by
  by_cases h1 : a ≤ n
  · by_cases h2 : n ≤ b
    · rw [btw_t h1 h2]
      go_enter Try.func53, Try.ntmps53
      go_wp2
      go_ret
      exact ⟨rfl, rfl⟩
    · rw [btw_f (fun h => h2 h.2)]
      go_enter Try.func53, Try.ntmps53
      go_wp2
      go_ret
      exact ⟨rfl, rfl⟩
  · rw [btw_f (fun h => h1 h.1)]
    go_enter Try.func53, Try.ntmps53
    go_wp2
    go_ret
    exact ⟨rfl, rfl⟩
theorem from_q {n a b : Int} {v : Bool} (h : btw n a b = v) (w : World) :
    Calls Try.prog 53 #[.int .i64 a, .int .i64 n, .int .i64 b] w fun e w' => e = .returned (.bool v) ∧ w' = w := (from_any n a b w).mono fun e w' g => ⟨by rw [← h]; exact g.1, g.2.symm⟩
def chB (a : Int) : Bool := btw a 0 10000000

theorem Ahead_up (a b : Int) (w : World) (ha : 0 ≤ a ∧ a ≤ 10000000) (hb : 0 ≤ b ∧ b ≤ 10000000) :
    Calls Try.prog 38 #[.int .i64 1, .int .i64 a, .int .i64 b] w fun e w' => e = .returned (.tuple #[.int .i64 (b - a), .int .i64 0]) ∧ Below w.heap.size w w' := by
  have HW : Hid ((btw a 0 10000000 && btw b 0 10000000) = true) := Lib.hid (by rw [btw_t ha.1 ha.2, btw_t hb.1 hb.2]; rfl)
  obtain ⟨a0, a1⟩ := ha
  obtain ⟨b0, b1⟩ := hb
  go_enter Try.func38, Try.ntmps38
  go_wp2_with (go_at_call 69; refine (isDir_1 _).mono ?_; rintro e w' ⟨rfl, rfl⟩)
  refine (within2_any _ _ a b _ _ (by simp [go_sem]) (by simp [go_sem])).mono ?_
  rintro e w1 ⟨rfl, hb1⟩
  rw [HW.out]
  go_wp2_with fail
  go_ret2
  exact ⟨by simp [go_sem] <;> omega, box_below hb1⟩

theorem refAhead_up (a b : Int) (w : World) (ha : 0 ≤ a ∧ a ≤ 10000000) (hb : 0 ≤ b ∧ b ≤ 10000000) :
    Calls Try.prog 39 #[.int .i64 1, .int .i64 a, .int .i64 b] w fun e w' => e = .returned (.tuple #[.int .i64 (b - a), .int .i64 0]) ∧ Below w.heap.size w w' := by
  have H1 := Lib.hid (btw_t ha.1 ha.2)
  have H2 := Lib.hid (btw_t hb.1 hb.2)
  obtain ⟨a0, a1⟩ := ha
  obtain ⟨b0, b1⟩ := hb
  go_enter Try.func39, Try.ntmps39
  go_wp2_with (first | (go_at_call 70; refine (dirn_1 _).mono ?_; rintro e w' ⟨rfl, rfl⟩) | (go_at_call 53; refine (from_any _ _ _ _).mono ?_; rintro e w' ⟨rfl, rfl⟩; first | rw [H1.out] | rw [H2.out]))
  go_ret2
  exact ⟨by simp [go_sem] <;> omega, Below.refl _ _⟩
theorem Ahead_upf (a b : Int) (w : World) (h : ¬ ((0 ≤ a ∧ a ≤ 10000000) ∧ 0 ≤ b ∧ b ≤ 10000000)) :
    Calls Try.prog 38 #[.int .i64 1, .int .i64 a, .int .i64 b] w fun e w' => e = .returned (.tuple #[.int .i64 0, .int .i64 2]) ∧ Below w.heap.size w w' := by
  have HW : Hid ((btw a 0 10000000 && btw b 0 10000000) = false) := Lib.hid (by
    rw [← Bool.not_eq_true, Bool.and_eq_true, btw_iff, btw_iff]; exact h)
  clear h
  go_enter Try.func38, Try.ntmps38
  go_wp2_with (go_at_call 69; refine (isDir_1 _).mono ?_; rintro e w' ⟨rfl, rfl⟩)
  refine (within2_any _ _ a b _ _ (by simp [go_sem]) (by simp [go_sem])).mono ?_
  rintro e w1 ⟨rfl, hb1⟩
  rw [HW.out]
  go_wp2_with fail
  go_ret2
  exact ⟨rfl, box_below hb1⟩

theorem refAhead_upf (a b : Int) (w : World) (h : ¬ ((0 ≤ a ∧ a ≤ 10000000) ∧ 0 ≤ b ∧ b ≤ 10000000)) :
    Calls Try.prog 39 #[.int .i64 1, .int .i64 a, .int .i64 b] w fun e w' => e = .returned (.tuple #[.int .i64 0, .int .i64 2]) ∧ Below w.heap.size w w' := by
  by_cases ha : 0 ≤ a ∧ a ≤ 10000000
  · have H1 := Lib.hid (btw_t ha.1 ha.2)
    have H2 := Lib.hid (btw_f (n := b) (a := 0) (b := 10000000) fun hb => h ⟨ha, hb⟩)
    clear h ha
    go_enter Try.func39, Try.ntmps39
    go_wp2_with (first | (go_at_call 70; refine (dirn_1 _).mono ?_; rintro e w' ⟨rfl, rfl⟩) | (go_at_call 53; refine (from_any _ _ _ _).mono ?_; rintro e w' ⟨rfl, rfl⟩; first | rw [H1.out] | rw [H2.out]))
    go_ret2
    exact ⟨rfl, Below.refl _ _⟩
  · have H1 := Lib.hid (btw_f ha)
    clear h ha
    go_enter Try.func39, Try.ntmps39
    go_wp2_with (first | (go_at_call 70; refine (dirn_1 _).mono ?_; rintro e w' ⟨rfl, rfl⟩) | (go_at_call 53; refine (from_any _ _ _ _).mono ?_; rintro e w' ⟨rfl, rfl⟩; rw [H1.out]))
    go_ret2
    exact ⟨rfl, Below.refl _ _⟩

theorem Ahead_dn (a b : Int) (w : World) (ha : 0 ≤ a ∧ a ≤ 10000000) (hb : 0 ≤ b ∧ b ≤ 10000000) :
    Calls Try.prog 38 #[.int .i64 (-1), .int .i64 a, .int .i64 b] w fun e w' => e = .returned (.tuple #[.int .i64 (-(b - a)), .int .i64 0]) ∧ Below w.heap.size w w' := by
  have HW : Hid ((btw a 0 10000000 && btw b 0 10000000) = true) := Lib.hid (by rw [btw_t ha.1 ha.2, btw_t hb.1 hb.2]; rfl)
  obtain ⟨a0, a1⟩ := ha
  obtain ⟨b0, b1⟩ := hb
  go_enter Try.func38, Try.ntmps38
  go_wp2_with (go_at_call 69; refine (isDir_m _).mono ?_; rintro e w' ⟨rfl, rfl⟩)
  refine (within2_any _ _ a b _ _ (by simp [go_sem]) (by simp [go_sem])).mono ?_
  rintro e w1 ⟨rfl, hb1⟩
  rw [HW.out]
  go_wp2_with fail
  go_ret2
  exact ⟨by simp [go_sem], box_below hb1⟩

theorem refAhead_dn (a b : Int) (w : World) (ha : 0 ≤ a ∧ a ≤ 10000000) (hb : 0 ≤ b ∧ b ≤ 10000000) :
    Calls Try.prog 39 #[.int .i64 (-1), .int .i64 a, .int .i64 b] w fun e w' => e = .returned (.tuple #[.int .i64 (-(b - a)), .int .i64 0]) ∧ Below w.heap.size w w' := by
  have H1 := Lib.hid (btw_t ha.1 ha.2)
  have H2 := Lib.hid (btw_t hb.1 hb.2)
  obtain ⟨a0, a1⟩ := ha
  obtain ⟨b0, b1⟩ := hb
  go_enter Try.func39, Try.ntmps39
  go_wp2_with (first | (go_at_call 70; refine (dirn_m _).mono ?_; rintro e w' ⟨rfl, rfl⟩) | (go_at_call 53; refine (from_any _ _ _ _).mono ?_; rintro e w' ⟨rfl, rfl⟩; first | rw [H1.out] | rw [H2.out]))
  go_ret2
  exact ⟨by simp [go_sem], Below.refl _ _⟩
theorem Ahead_dnf (a b : Int) (w : World) (h : ¬ ((0 ≤ a ∧ a ≤ 10000000) ∧ 0 ≤ b ∧ b ≤ 10000000)) :
    Calls Try.prog 38 #[.int .i64 (-1), .int .i64 a, .int .i64 b] w fun e w' => e = .returned (.tuple #[.int .i64 0, .int .i64 2]) ∧ Below w.heap.size w w' := by
  have HW : Hid ((btw a 0 10000000 && btw b 0 10000000) = false) := Lib.hid (by
    rw [← Bool.not_eq_true, Bool.and_eq_true, btw_iff, btw_iff]; exact h)
  clear h
  go_enter Try.func38, Try.ntmps38
  go_wp2_with (go_at_call 69; refine (isDir_m _).mono ?_; rintro e w' ⟨rfl, rfl⟩)
  refine (within2_any _ _ a b _ _ (by simp [go_sem]) (by simp [go_sem])).mono ?_
  rintro e w1 ⟨rfl, hb1⟩
  rw [HW.out]
  go_wp2_with fail
  go_ret2
  exact ⟨rfl, box_below hb1⟩

theorem refAhead_dnf (a b : Int) (w : World) (h : ¬ ((0 ≤ a ∧ a ≤ 10000000) ∧ 0 ≤ b ∧ b ≤ 10000000)) :
    Calls Try.prog 39 #[.int .i64 (-1), .int .i64 a, .int .i64 b] w fun e w' => e = .returned (.tuple #[.int .i64 0, .int .i64 2]) ∧ Below w.heap.size w w' := by
  by_cases ha : 0 ≤ a ∧ a ≤ 10000000
  · have H1 := Lib.hid (btw_t ha.1 ha.2)
    have H2 := Lib.hid (btw_f (n := b) (a := 0) (b := 10000000) fun hb => h ⟨ha, hb⟩)
    clear h ha
    go_enter Try.func39, Try.ntmps39
    go_wp2_with (first | (go_at_call 70; refine (dirn_m _).mono ?_; rintro e w' ⟨rfl, rfl⟩) | (go_at_call 53; refine (from_any _ _ _ _).mono ?_; rintro e w' ⟨rfl, rfl⟩; first | rw [H1.out] | rw [H2.out]))
    go_ret2
    exact ⟨rfl, Below.refl _ _⟩
  · have H1 := Lib.hid (btw_f ha)
    clear h ha
    go_enter Try.func39, Try.ntmps39
    go_wp2_with (first | (go_at_call 70; refine (dirn_m _).mono ?_; rintro e w' ⟨rfl, rfl⟩) | (go_at_call 53; refine (from_any _ _ _ _).mono ?_; rintro e w' ⟨rfl, rfl⟩; rw [H1.out]))
    go_ret2
    exact ⟨rfl, Below.refl _ _⟩

theorem Ahead_no (d a b : Int) (w : World) (h1 : d ≠ 1) (h2 : d ≠ -1) :
    Calls Try.prog 38 #[.int .i64 d, .int .i64 a, .int .i64 b] w fun e w' => e = .returned (.tuple #[.int .i64 0, .int .i64 2]) ∧ Below w.heap.size w w' := by
  have HD := Lib.hid (fun W => isDir_no d h1 h2 W)
  clear h1 h2
  go_enter Try.func38, Try.ntmps38
  go_wp2_with (go_at_call 69; refine (HD.out _).mono ?_; rintro e w' ⟨rfl, rfl⟩)
  go_ret2
  exact ⟨rfl, Below.refl _ _⟩

theorem refAhead_no (d a b : Int) (w : World) (h1 : d ≠ 1) (h2 : d ≠ -1) :
    Calls Try.prog 39 #[.int .i64 d, .int .i64 a, .int .i64 b] w fun e w' => e = .returned (.tuple #[.int .i64 0, .int .i64 2]) ∧ Below w.heap.size w w' := by
  have HD := Lib.hid (fun W => dirn_no d h1 h2 W)
  clear h1 h2
  go_enter Try.func39, Try.ntmps39
  go_wp2_with (go_at_call 70; refine (HD.out _).mono ?_; rintro e w' ⟨rfl, rfl⟩)
  go_ret2
  exact ⟨rfl, Below.refl _ _⟩

/-- The least distance of a warning sign. -/
def lstV (s : Int) : Int := if s ≤ 50 then 50 else if s ≤ 100 then 150 else 250
theorem lstV_c (s : Int) : (s ≤ 50 ∧ lstV s = 50) ∨ (50 < s ∧ s ≤ 100 ∧ lstV s = 150) ∨ (100 < s ∧ lstV s = 250) := by
  unfold lstV
  by_cases h1 : s ≤ 50
  · exact .inl ⟨h1, if_pos h1⟩
  · by_cases h2 : s ≤ 100
    · exact .inr (.inl ⟨by omega, h2, by rw [if_neg h1, if_pos h2]⟩)
    · exact .inr (.inr ⟨by omega, by rw [if_neg h1, if_neg h2]⟩)
theorem warnDistance_any (s : Int) (w : World) : Calls Try.prog 71 #[.int .i64 s] w fun e w' => e = .returned (.int .i64 (lstV s)) ∧ w = w' := by
  rcases lstV_c s with ⟨h1, h⟩ | ⟨h1, h2, h⟩ | ⟨h1, h⟩
  all_goals
    rw [h]
    clear h
    go_enter Try.func71, Try.ntmps71
    go_wp2
    go_ret
    exact ⟨rfl, rfl⟩
/-- Where a warning sign may stand. -/
def wnV (d dir s : Int) : Spn := if dir = -1 then (d + lstV s, d + lstV s + 101) else if d - lstV s < 0 then (0, 0) else (max (d - lstV s - 100) 0, d - lstV s + 1)
set_option maxRecDepth 100000 in
set_option maxHeartbeats 1000000 in
theorem Warn_up (d s : Int) (w : World) (hd : 0 ≤ d ∧ d ≤ 10000000) (hs : 10 ≤ s ∧ s ≤ 200) :
    Calls Try.prog 40 #[.int .i64 d, .int .i64 1, .int .i64 s] w fun e w' => e = .returned (.tuple #[.agg #[.int .i64 (wnV d 1 s).1, .int .i64 (wnV d 1 s).2], .int .i64 0]) ∧ Below w.heap.size w w' := by
  have H1 := Lib.hid (btw_t hd.1 hd.2)
  have H2 := Lib.hid (btw_t hs.1 hs.2)
  obtain ⟨d0, d1⟩ := hd
  have hl : 50 ≤ lstV s ∧ lstV s ≤ 250 := by rcases lstV_c s with h | h | h <;> omega
  obtain ⟨l0, l1⟩ := hl
  have HL := Lib.hid (fun W => warnDistance_any s W)

  have HV : Hid (wnV d 1 s = if d - lstV s < 0 then (0, 0) else (max (d - lstV s - 100) 0, d - lstV s + 1)) := Lib.hid (by unfold wnV; rw [if_neg (by decide)])
  generalize lstV s = m at *
  by_cases hx : d - m < 0
  · have hv : wnV d 1 s = (0, 0) := by rw [HV.out, if_pos hx]
    rw [hv]
    clear HV hv
    go_enter Try.func40, Try.ntmps40
    go_wp2_with (first | (go_at_call 69; refine (isDir_1 _).mono ?_; rintro e w' ⟨rfl, rfl⟩) | (go_at_call 71; refine (HL.out _).mono ?_; rintro e w' ⟨rfl, rfl⟩))
    obtain ⟨wB, hwB⟩ : ∃ wB, (w.alloc (.cells #[.int .i64 0, .int .i64 0] 35)).alloc (.cells #[.int .i64 d] 3) = wB := ⟨_, rfl⟩
    have hb : Below w.heap.size w wB := by rw [← hwB]; exact ((Below.refl _ _).alloc (Nat.le_refl _) _).alloc (by simp) _
    have r0 : wB.cell? ⟨w.heap.size, 0, none⟩ = some (.int .i64 0) := by rw [← hwB]; simp [go_sem]
    have r1 : wB.cell? ⟨w.heap.size, 1, none⟩ = some (.int .i64 0) := by rw [← hwB]; simp [go_sem]
    have f0 : wB.frozen? ⟨w.heap.size, 0, none⟩ = false := by rw [← hwB]; simp [go_sem]
    have f1 : wB.frozen? ⟨w.heap.size, 1, none⟩ = false := by rw [← hwB]; simp [go_sem]
    have pn : wB.cell? ⟨w.heap.size + 1, 0, none⟩ = some (.int .i64 d) := by rw [← hwB]; simp [go_sem]
    rw [hwB]
    clear hwB
    refine (within1_any _ _ d _ _ pn).mono ?_
    rintro e w1 ⟨rfl, hb1⟩
    rw [H1.out]
    have hz := block_lt r0
    have f0 := ((bcell hb1).2 w.heap.size 0 hz).trans f0
    have f1 := ((bcell hb1).2 w.heap.size 1 hz).trans f1
    have r0 := cell_below r0 hb1
    have r1 := cell_below r1 hb1
    have hb := below_on hb hb1
    have hz := block_lt r0
    clear hb1 pn
    go_wp2_with fail
    have hx1 : Below w1.heap.size w1 (w1.alloc (.cells #[.int .i64 s] 3)) := (Below.refl _ _).alloc (Nat.le_refl _) _
    refine (within1_any _ _ s _ _ (by simp [go_sem])).mono ?_
    rintro e w2 ⟨rfl, hb2⟩
    rw [H2.out]
    have hx2 := below_on hx1 hb2
    have f0 := ((bcell hx2).2 w.heap.size 0 hz).trans f0
    have f1 := ((bcell hx2).2 w.heap.size 1 hz).trans f1
    have r0 := cell_below r0 hx2
    have r1 := cell_below r1 hx2
    have hb := below_on hb hx2
    have hz := block_lt r0
    clear hb2 hx1 hx2
    go_wp2_with (first | (go_at_call 69; refine (isDir_1 _).mono ?_; rintro e w' ⟨rfl, rfl⟩) | (go_at_call 71; refine (HL.out _).mono ?_; rintro e w' ⟨rfl, rfl⟩))
    exact bodyPost_ret (v := .tuple #[.agg #[.int .i64 (0), .int .i64 (0)], .int .i64 0]) (by simp [results, Try.results40, r0, r1, go_sem]) rfl ⟨rfl, by repeat (first | exact hb | refine Below.setCell ?_ (by simp) _)⟩

  · have hx0 : 0 ≤ d - m := by omega
    by_cases hy : d - m - 100 < 0
    · have hv : wnV d 1 s = (0, d - m + 1) := by rw [HV.out, if_neg hx, show max (d - m - 100) 0 = 0 by omega]
      rw [hv]
      clear HV hv
      go_enter Try.func40, Try.ntmps40
      go_wp2_with (first | (go_at_call 69; refine (isDir_1 _).mono ?_; rintro e w' ⟨rfl, rfl⟩) | (go_at_call 71; refine (HL.out _).mono ?_; rintro e w' ⟨rfl, rfl⟩))
      obtain ⟨wB, hwB⟩ : ∃ wB, (w.alloc (.cells #[.int .i64 0, .int .i64 0] 35)).alloc (.cells #[.int .i64 d] 3) = wB := ⟨_, rfl⟩
      have hb : Below w.heap.size w wB := by rw [← hwB]; exact ((Below.refl _ _).alloc (Nat.le_refl _) _).alloc (by simp) _
      have r0 : wB.cell? ⟨w.heap.size, 0, none⟩ = some (.int .i64 0) := by rw [← hwB]; simp [go_sem]
      have r1 : wB.cell? ⟨w.heap.size, 1, none⟩ = some (.int .i64 0) := by rw [← hwB]; simp [go_sem]
      have f0 : wB.frozen? ⟨w.heap.size, 0, none⟩ = false := by rw [← hwB]; simp [go_sem]
      have f1 : wB.frozen? ⟨w.heap.size, 1, none⟩ = false := by rw [← hwB]; simp [go_sem]
      have pn : wB.cell? ⟨w.heap.size + 1, 0, none⟩ = some (.int .i64 d) := by rw [← hwB]; simp [go_sem]
      rw [hwB]
      clear hwB
      refine (within1_any _ _ d _ _ pn).mono ?_
      rintro e w1 ⟨rfl, hb1⟩
      rw [H1.out]
      have hz := block_lt r0
      have f0 := ((bcell hb1).2 w.heap.size 0 hz).trans f0
      have f1 := ((bcell hb1).2 w.heap.size 1 hz).trans f1
      have r0 := cell_below r0 hb1
      have r1 := cell_below r1 hb1
      have hb := below_on hb hb1
      have hz := block_lt r0
      clear hb1 pn
      go_wp2_with fail
      have hx1 : Below w1.heap.size w1 (w1.alloc (.cells #[.int .i64 s] 3)) := (Below.refl _ _).alloc (Nat.le_refl _) _
      refine (within1_any _ _ s _ _ (by simp [go_sem])).mono ?_
      rintro e w2 ⟨rfl, hb2⟩
      rw [H2.out]
      have hx2 := below_on hx1 hb2
      have f0 := ((bcell hx2).2 w.heap.size 0 hz).trans f0
      have f1 := ((bcell hx2).2 w.heap.size 1 hz).trans f1
      have r0 := cell_below r0 hx2
      have r1 := cell_below r1 hx2
      have hb := below_on hb hx2
      have hz := block_lt r0
      clear hb2 hx1 hx2
      go_wp2_with (first | (go_at_call 69; refine (isDir_1 _).mono ?_; rintro e w' ⟨rfl, rfl⟩) | (go_at_call 71; refine (HL.out _).mono ?_; rintro e w' ⟨rfl, rfl⟩))
      exact bodyPost_ret (v := .tuple #[.agg #[.int .i64 (0), .int .i64 (d - m + 1)], .int .i64 0]) (by simp [results, Try.results40, r0, r1, go_sem]) rfl ⟨rfl, by repeat (first | exact hb | refine Below.setCell ?_ (by simp) _)⟩

    · have hy0 : 0 ≤ d - m - 100 := by omega
      have hv : wnV d 1 s = (d - m - 100, d - m + 1) := by rw [HV.out, if_neg hx, show max (d - m - 100) 0 = d - m - 100 by omega]
      rw [hv]
      clear HV hv
      by_cases hyy : 0 < d - m - 100
      · 
        go_enter Try.func40, Try.ntmps40
        go_wp2_with (first | (go_at_call 69; refine (isDir_1 _).mono ?_; rintro e w' ⟨rfl, rfl⟩) | (go_at_call 71; refine (HL.out _).mono ?_; rintro e w' ⟨rfl, rfl⟩))
        obtain ⟨wB, hwB⟩ : ∃ wB, (w.alloc (.cells #[.int .i64 0, .int .i64 0] 35)).alloc (.cells #[.int .i64 d] 3) = wB := ⟨_, rfl⟩
        have hb : Below w.heap.size w wB := by rw [← hwB]; exact ((Below.refl _ _).alloc (Nat.le_refl _) _).alloc (by simp) _
        have r0 : wB.cell? ⟨w.heap.size, 0, none⟩ = some (.int .i64 0) := by rw [← hwB]; simp [go_sem]
        have r1 : wB.cell? ⟨w.heap.size, 1, none⟩ = some (.int .i64 0) := by rw [← hwB]; simp [go_sem]
        have f0 : wB.frozen? ⟨w.heap.size, 0, none⟩ = false := by rw [← hwB]; simp [go_sem]
        have f1 : wB.frozen? ⟨w.heap.size, 1, none⟩ = false := by rw [← hwB]; simp [go_sem]
        have pn : wB.cell? ⟨w.heap.size + 1, 0, none⟩ = some (.int .i64 d) := by rw [← hwB]; simp [go_sem]
        rw [hwB]
        clear hwB
        refine (within1_any _ _ d _ _ pn).mono ?_
        rintro e w1 ⟨rfl, hb1⟩
        rw [H1.out]
        have hz := block_lt r0
        have f0 := ((bcell hb1).2 w.heap.size 0 hz).trans f0
        have f1 := ((bcell hb1).2 w.heap.size 1 hz).trans f1
        have r0 := cell_below r0 hb1
        have r1 := cell_below r1 hb1
        have hb := below_on hb hb1
        have hz := block_lt r0
        clear hb1 pn
        go_wp2_with fail
        have hx1 : Below w1.heap.size w1 (w1.alloc (.cells #[.int .i64 s] 3)) := (Below.refl _ _).alloc (Nat.le_refl _) _
        refine (within1_any _ _ s _ _ (by simp [go_sem])).mono ?_
        rintro e w2 ⟨rfl, hb2⟩
        rw [H2.out]
        have hx2 := below_on hx1 hb2
        have f0 := ((bcell hx2).2 w.heap.size 0 hz).trans f0
        have f1 := ((bcell hx2).2 w.heap.size 1 hz).trans f1
        have r0 := cell_below r0 hx2
        have r1 := cell_below r1 hx2
        have hb := below_on hb hx2
        have hz := block_lt r0
        clear hb2 hx1 hx2
        go_wp2_with (first | (go_at_call 69; refine (isDir_1 _).mono ?_; rintro e w' ⟨rfl, rfl⟩) | (go_at_call 71; refine (HL.out _).mono ?_; rintro e w' ⟨rfl, rfl⟩))
        exact bodyPost_ret (v := .tuple #[.agg #[.int .i64 (d - m - 100), .int .i64 (d - m + 1)], .int .i64 0]) (by simp [results, Try.results40, r0, r1, go_sem]) rfl ⟨rfl, by repeat (first | exact hb | refine Below.setCell ?_ (by simp) _)⟩

      · have h0 : d - m - 100 = 0 := by omega
        have hdm : d = m + 100 := by omega
        subst hdm
        have e1 : m + 100 - m - 100 = 0 := by omega
        have e2 : m + 100 - m + 1 = 101 := by omega
        rw [e1, e2]
        clear hx hx0 hy hy0 hyy h0 e1 e2
        obtain ⟨d, hdd⟩ : ∃ d, m + 100 = d := ⟨_, rfl⟩
        rw [hdd] at H1 d0 d1 ⊢
        have e3 : d - m = 100 := by omega
        have e4 : d - m - 100 = 0 := by omega
        clear hdd
        go_enter Try.func40, Try.ntmps40
        go_wp2_with (first | (go_at_call 69; refine (isDir_1 _).mono ?_; rintro e w' ⟨rfl, rfl⟩) | (go_at_call 71; refine (HL.out _).mono ?_; rintro e w' ⟨rfl, rfl⟩))
        obtain ⟨wB, hwB⟩ : ∃ wB, (w.alloc (.cells #[.int .i64 0, .int .i64 0] 35)).alloc (.cells #[.int .i64 d] 3) = wB := ⟨_, rfl⟩
        have hb : Below w.heap.size w wB := by rw [← hwB]; exact ((Below.refl _ _).alloc (Nat.le_refl _) _).alloc (by simp) _
        have r0 : wB.cell? ⟨w.heap.size, 0, none⟩ = some (.int .i64 0) := by rw [← hwB]; simp [go_sem]
        have r1 : wB.cell? ⟨w.heap.size, 1, none⟩ = some (.int .i64 0) := by rw [← hwB]; simp [go_sem]
        have f0 : wB.frozen? ⟨w.heap.size, 0, none⟩ = false := by rw [← hwB]; simp [go_sem]
        have f1 : wB.frozen? ⟨w.heap.size, 1, none⟩ = false := by rw [← hwB]; simp [go_sem]
        have pn : wB.cell? ⟨w.heap.size + 1, 0, none⟩ = some (.int .i64 d) := by rw [← hwB]; simp [go_sem]
        rw [hwB]
        clear hwB
        refine (within1_any _ _ d _ _ pn).mono ?_
        rintro e w1 ⟨rfl, hb1⟩
        rw [H1.out]
        have hz := block_lt r0
        have f0 := ((bcell hb1).2 w.heap.size 0 hz).trans f0
        have f1 := ((bcell hb1).2 w.heap.size 1 hz).trans f1
        have r0 := cell_below r0 hb1
        have r1 := cell_below r1 hb1
        have hb := below_on hb hb1
        have hz := block_lt r0
        clear hb1 pn
        go_wp2_with fail
        have hx1 : Below w1.heap.size w1 (w1.alloc (.cells #[.int .i64 s] 3)) := (Below.refl _ _).alloc (Nat.le_refl _) _
        refine (within1_any _ _ s _ _ (by simp [go_sem])).mono ?_
        rintro e w2 ⟨rfl, hb2⟩
        rw [H2.out]
        have hx2 := below_on hx1 hb2
        have f0 := ((bcell hx2).2 w.heap.size 0 hz).trans f0
        have f1 := ((bcell hx2).2 w.heap.size 1 hz).trans f1
        have r0 := cell_below r0 hx2
        have r1 := cell_below r1 hx2
        have hb := below_on hb hx2
        have hz := block_lt r0
        clear hb2 hx1 hx2
        go_wp2_with (first | (go_at_call 69; refine (isDir_1 _).mono ?_; rintro e w' ⟨rfl, rfl⟩) | (go_at_call 71; refine (HL.out _).mono ?_; rintro e w' ⟨rfl, rfl⟩))
        exact bodyPost_ret (v := .tuple #[.agg #[.int .i64 (0), .int .i64 (101)], .int .i64 0]) (by simp [results, Try.results40, r0, r1, go_sem]) rfl ⟨rfl, by repeat (first | exact hb | refine Below.setCell ?_ (by simp) _)⟩

set_option maxRecDepth 100000 in
set_option maxHeartbeats 1000000 in
theorem Warn_dn (d s : Int) (w : World) (hd : 0 ≤ d ∧ d ≤ 10000000) (hs : 10 ≤ s ∧ s ≤ 200) :
    Calls Try.prog 40 #[.int .i64 d, .int .i64 (-1), .int .i64 s] w fun e w' => e = .returned (.tuple #[.agg #[.int .i64 (wnV d (-1) s).1, .int .i64 (wnV d (-1) s).2], .int .i64 0]) ∧ Below w.heap.size w w' := by
  have H1 := Lib.hid (btw_t hd.1 hd.2)
  have H2 := Lib.hid (btw_t hs.1 hs.2)
  obtain ⟨d0, d1⟩ := hd
  have hl : 50 ≤ lstV s ∧ lstV s ≤ 250 := by rcases lstV_c s with h | h | h <;> omega
  obtain ⟨l0, l1⟩ := hl
  have HL := Lib.hid (fun W => warnDistance_any s W)

  have HV : Hid (wnV d (-1) s = (d + lstV s, d + lstV s + 101)) := Lib.hid (by unfold wnV; rw [if_pos rfl])
  generalize lstV s = m at *
  rw [HV.out]
  clear HV
  go_enter Try.func40, Try.ntmps40
  go_wp2_with (first | (go_at_call 69; refine (isDir_m _).mono ?_; rintro e w' ⟨rfl, rfl⟩) | (go_at_call 71; refine (HL.out _).mono ?_; rintro e w' ⟨rfl, rfl⟩))
  obtain ⟨wB, hwB⟩ : ∃ wB, (w.alloc (.cells #[.int .i64 0, .int .i64 0] 35)).alloc (.cells #[.int .i64 d] 3) = wB := ⟨_, rfl⟩
  have hb : Below w.heap.size w wB := by rw [← hwB]; exact ((Below.refl _ _).alloc (Nat.le_refl _) _).alloc (by simp) _
  have r0 : wB.cell? ⟨w.heap.size, 0, none⟩ = some (.int .i64 0) := by rw [← hwB]; simp [go_sem]
  have r1 : wB.cell? ⟨w.heap.size, 1, none⟩ = some (.int .i64 0) := by rw [← hwB]; simp [go_sem]
  have f0 : wB.frozen? ⟨w.heap.size, 0, none⟩ = false := by rw [← hwB]; simp [go_sem]
  have f1 : wB.frozen? ⟨w.heap.size, 1, none⟩ = false := by rw [← hwB]; simp [go_sem]
  have pn : wB.cell? ⟨w.heap.size + 1, 0, none⟩ = some (.int .i64 d) := by rw [← hwB]; simp [go_sem]
  rw [hwB]
  clear hwB
  refine (within1_any _ _ d _ _ pn).mono ?_
  rintro e w1 ⟨rfl, hb1⟩
  rw [H1.out]
  have hz := block_lt r0
  have f0 := ((bcell hb1).2 w.heap.size 0 hz).trans f0
  have f1 := ((bcell hb1).2 w.heap.size 1 hz).trans f1
  have r0 := cell_below r0 hb1
  have r1 := cell_below r1 hb1
  have hb := below_on hb hb1
  have hz := block_lt r0
  clear hb1 pn
  go_wp2_with fail
  have hx1 : Below w1.heap.size w1 (w1.alloc (.cells #[.int .i64 s] 3)) := (Below.refl _ _).alloc (Nat.le_refl _) _
  refine (within1_any _ _ s _ _ (by simp [go_sem])).mono ?_
  rintro e w2 ⟨rfl, hb2⟩
  rw [H2.out]
  have hx2 := below_on hx1 hb2
  have f0 := ((bcell hx2).2 w.heap.size 0 hz).trans f0
  have f1 := ((bcell hx2).2 w.heap.size 1 hz).trans f1
  have r0 := cell_below r0 hx2
  have r1 := cell_below r1 hx2
  have hb := below_on hb hx2
  have hz := block_lt r0
  clear hb2 hx1 hx2
  go_wp2_with (first | (go_at_call 69; refine (isDir_m _).mono ?_; rintro e w' ⟨rfl, rfl⟩) | (go_at_call 71; refine (HL.out _).mono ?_; rintro e w' ⟨rfl, rfl⟩))
  exact bodyPost_ret (v := .tuple #[.agg #[.int .i64 (d + m), .int .i64 (d + m + 100 + 1)], .int .i64 0]) (by simp [results, Try.results40, r0, r1, go_sem]) rfl ⟨by rw [show d + m + 100 + 1 = d + m + 101 by omega], by repeat (first | exact hb | refine Below.setCell ?_ (by simp) _)⟩

set_option maxRecDepth 100000 in
theorem Warn_f1 (d s : Int) (w : World) (h : ¬ ((0 ≤ d ∧ d ≤ 10000000) ∧ 10 ≤ s ∧ s ≤ 200)) :
    Calls Try.prog 40 #[.int .i64 d, .int .i64 1, .int .i64 s] w fun e w' => e = .returned (.tuple #[.agg #[.int .i64 0, .int .i64 0], .int .i64 2]) ∧ Below w.heap.size w w' := by
  have HL := Lib.hid (fun W => warnDistance_any s W)
  by_cases hd : 0 ≤ d ∧ d ≤ 10000000
  · have H1 := Lib.hid (btw_t hd.1 hd.2)
    have H2 := Lib.hid (btw_f (n := s) (a := 10) (b := 200) fun hs => h ⟨hd, hs⟩)
    clear h hd
    go_enter Try.func40, Try.ntmps40
    go_wp2_with (first | (go_at_call 69; refine (isDir_1 _).mono ?_; rintro e w' ⟨rfl, rfl⟩) | (go_at_call 71; refine (HL.out _).mono ?_; rintro e w' ⟨rfl, rfl⟩))
    obtain ⟨wB, hwB⟩ : ∃ wB, (w.alloc (.cells #[.int .i64 0, .int .i64 0] 35)).alloc (.cells #[.int .i64 d] 3) = wB := ⟨_, rfl⟩
    have hb : Below w.heap.size w wB := by rw [← hwB]; exact ((Below.refl _ _).alloc (Nat.le_refl _) _).alloc (by simp) _
    have r0 : wB.cell? ⟨w.heap.size, 0, none⟩ = some (.int .i64 0) := by rw [← hwB]; simp [go_sem]
    have r1 : wB.cell? ⟨w.heap.size, 1, none⟩ = some (.int .i64 0) := by rw [← hwB]; simp [go_sem]
    have f0 : wB.frozen? ⟨w.heap.size, 0, none⟩ = false := by rw [← hwB]; simp [go_sem]
    have f1 : wB.frozen? ⟨w.heap.size, 1, none⟩ = false := by rw [← hwB]; simp [go_sem]
    have pn : wB.cell? ⟨w.heap.size + 1, 0, none⟩ = some (.int .i64 d) := by rw [← hwB]; simp [go_sem]
    rw [hwB]
    clear hwB
    refine (within1_any _ _ d _ _ pn).mono ?_
    rintro e w1 ⟨rfl, hb1⟩
    rw [H1.out]
    have hz := block_lt r0
    have f0 := ((bcell hb1).2 w.heap.size 0 hz).trans f0
    have f1 := ((bcell hb1).2 w.heap.size 1 hz).trans f1
    have r0 := cell_below r0 hb1
    have r1 := cell_below r1 hb1
    have hb := below_on hb hb1
    have hz := block_lt r0
    clear hb1 pn
    go_wp2_with fail
    have hx1 : Below w1.heap.size w1 (w1.alloc (.cells #[.int .i64 s] 3)) := (Below.refl _ _).alloc (Nat.le_refl _) _
    refine (within1_any _ _ s _ _ (by simp [go_sem])).mono ?_
    rintro e w2 ⟨rfl, hb2⟩
    rw [H2.out]
    have hx2 := below_on hx1 hb2
    have f0 := ((bcell hx2).2 w.heap.size 0 hz).trans f0
    have f1 := ((bcell hx2).2 w.heap.size 1 hz).trans f1
    have r0 := cell_below r0 hx2
    have r1 := cell_below r1 hx2
    have hb := below_on hb hx2
    have hz := block_lt r0
    clear hb2 hx1 hx2
    go_wp2_with (first | (go_at_call 69; refine (isDir_1 _).mono ?_; rintro e w' ⟨rfl, rfl⟩) | (go_at_call 71; refine (HL.out _).mono ?_; rintro e w' ⟨rfl, rfl⟩))
    exact bodyPost_ret (v := .tuple #[.agg #[.int .i64 (0), .int .i64 (0)], .int .i64 2]) (by simp [results, Try.results40, r0, r1, go_sem]) rfl ⟨rfl, by repeat (first | exact hb | refine Below.setCell ?_ (by simp) _)⟩

  · have H1 := Lib.hid (btw_f hd)
    clear h hd
    go_enter Try.func40, Try.ntmps40
    go_wp2_with (first | (go_at_call 69; refine (isDir_1 _).mono ?_; rintro e w' ⟨rfl, rfl⟩) | (go_at_call 71; refine (HL.out _).mono ?_; rintro e w' ⟨rfl, rfl⟩))
    obtain ⟨wB, hwB⟩ : ∃ wB, (w.alloc (.cells #[.int .i64 0, .int .i64 0] 35)).alloc (.cells #[.int .i64 d] 3) = wB := ⟨_, rfl⟩
    have hb : Below w.heap.size w wB := by rw [← hwB]; exact ((Below.refl _ _).alloc (Nat.le_refl _) _).alloc (by simp) _
    have r0 : wB.cell? ⟨w.heap.size, 0, none⟩ = some (.int .i64 0) := by rw [← hwB]; simp [go_sem]
    have r1 : wB.cell? ⟨w.heap.size, 1, none⟩ = some (.int .i64 0) := by rw [← hwB]; simp [go_sem]
    have f0 : wB.frozen? ⟨w.heap.size, 0, none⟩ = false := by rw [← hwB]; simp [go_sem]
    have f1 : wB.frozen? ⟨w.heap.size, 1, none⟩ = false := by rw [← hwB]; simp [go_sem]
    have pn : wB.cell? ⟨w.heap.size + 1, 0, none⟩ = some (.int .i64 d) := by rw [← hwB]; simp [go_sem]
    rw [hwB]
    clear hwB
    refine (within1_any _ _ d _ _ pn).mono ?_
    rintro e w1 ⟨rfl, hb1⟩
    rw [H1.out]
    have hz := block_lt r0
    have f0 := ((bcell hb1).2 w.heap.size 0 hz).trans f0
    have f1 := ((bcell hb1).2 w.heap.size 1 hz).trans f1
    have r0 := cell_below r0 hb1
    have r1 := cell_below r1 hb1
    have hb := below_on hb hb1
    have hz := block_lt r0
    clear hb1 pn
    go_wp2_with fail
    exact bodyPost_ret (v := .tuple #[.agg #[.int .i64 (0), .int .i64 (0)], .int .i64 2]) (by simp [results, Try.results40, r0, r1, go_sem]) rfl ⟨rfl, by repeat (first | exact hb | refine Below.setCell ?_ (by simp) _)⟩

set_option maxRecDepth 100000 in
theorem Warn_fm (d s : Int) (w : World) (h : ¬ ((0 ≤ d ∧ d ≤ 10000000) ∧ 10 ≤ s ∧ s ≤ 200)) :
    Calls Try.prog 40 #[.int .i64 d, .int .i64 (-1), .int .i64 s] w fun e w' => e = .returned (.tuple #[.agg #[.int .i64 0, .int .i64 0], .int .i64 2]) ∧ Below w.heap.size w w' := by
  have HL := Lib.hid (fun W => warnDistance_any s W)
  by_cases hd : 0 ≤ d ∧ d ≤ 10000000
  · have H1 := Lib.hid (btw_t hd.1 hd.2)
    have H2 := Lib.hid (btw_f (n := s) (a := 10) (b := 200) fun hs => h ⟨hd, hs⟩)
    clear h hd
    go_enter Try.func40, Try.ntmps40
    go_wp2_with (first | (go_at_call 69; refine (isDir_m _).mono ?_; rintro e w' ⟨rfl, rfl⟩) | (go_at_call 71; refine (HL.out _).mono ?_; rintro e w' ⟨rfl, rfl⟩))
    obtain ⟨wB, hwB⟩ : ∃ wB, (w.alloc (.cells #[.int .i64 0, .int .i64 0] 35)).alloc (.cells #[.int .i64 d] 3) = wB := ⟨_, rfl⟩
    have hb : Below w.heap.size w wB := by rw [← hwB]; exact ((Below.refl _ _).alloc (Nat.le_refl _) _).alloc (by simp) _
    have r0 : wB.cell? ⟨w.heap.size, 0, none⟩ = some (.int .i64 0) := by rw [← hwB]; simp [go_sem]
    have r1 : wB.cell? ⟨w.heap.size, 1, none⟩ = some (.int .i64 0) := by rw [← hwB]; simp [go_sem]
    have f0 : wB.frozen? ⟨w.heap.size, 0, none⟩ = false := by rw [← hwB]; simp [go_sem]
    have f1 : wB.frozen? ⟨w.heap.size, 1, none⟩ = false := by rw [← hwB]; simp [go_sem]
    have pn : wB.cell? ⟨w.heap.size + 1, 0, none⟩ = some (.int .i64 d) := by rw [← hwB]; simp [go_sem]
    rw [hwB]
    clear hwB
    refine (within1_any _ _ d _ _ pn).mono ?_
    rintro e w1 ⟨rfl, hb1⟩
    rw [H1.out]
    have hz := block_lt r0
    have f0 := ((bcell hb1).2 w.heap.size 0 hz).trans f0
    have f1 := ((bcell hb1).2 w.heap.size 1 hz).trans f1
    have r0 := cell_below r0 hb1
    have r1 := cell_below r1 hb1
    have hb := below_on hb hb1
    have hz := block_lt r0
    clear hb1 pn
    go_wp2_with fail
    have hx1 : Below w1.heap.size w1 (w1.alloc (.cells #[.int .i64 s] 3)) := (Below.refl _ _).alloc (Nat.le_refl _) _
    refine (within1_any _ _ s _ _ (by simp [go_sem])).mono ?_
    rintro e w2 ⟨rfl, hb2⟩
    rw [H2.out]
    have hx2 := below_on hx1 hb2
    have f0 := ((bcell hx2).2 w.heap.size 0 hz).trans f0
    have f1 := ((bcell hx2).2 w.heap.size 1 hz).trans f1
    have r0 := cell_below r0 hx2
    have r1 := cell_below r1 hx2
    have hb := below_on hb hx2
    have hz := block_lt r0
    clear hb2 hx1 hx2
    go_wp2_with (first | (go_at_call 69; refine (isDir_m _).mono ?_; rintro e w' ⟨rfl, rfl⟩) | (go_at_call 71; refine (HL.out _).mono ?_; rintro e w' ⟨rfl, rfl⟩))
    exact bodyPost_ret (v := .tuple #[.agg #[.int .i64 (0), .int .i64 (0)], .int .i64 2]) (by simp [results, Try.results40, r0, r1, go_sem]) rfl ⟨rfl, by repeat (first | exact hb | refine Below.setCell ?_ (by simp) _)⟩

  · have H1 := Lib.hid (btw_f hd)
    clear h hd
    go_enter Try.func40, Try.ntmps40
    go_wp2_with (first | (go_at_call 69; refine (isDir_m _).mono ?_; rintro e w' ⟨rfl, rfl⟩) | (go_at_call 71; refine (HL.out _).mono ?_; rintro e w' ⟨rfl, rfl⟩))
    obtain ⟨wB, hwB⟩ : ∃ wB, (w.alloc (.cells #[.int .i64 0, .int .i64 0] 35)).alloc (.cells #[.int .i64 d] 3) = wB := ⟨_, rfl⟩
    have hb : Below w.heap.size w wB := by rw [← hwB]; exact ((Below.refl _ _).alloc (Nat.le_refl _) _).alloc (by simp) _
    have r0 : wB.cell? ⟨w.heap.size, 0, none⟩ = some (.int .i64 0) := by rw [← hwB]; simp [go_sem]
    have r1 : wB.cell? ⟨w.heap.size, 1, none⟩ = some (.int .i64 0) := by rw [← hwB]; simp [go_sem]
    have f0 : wB.frozen? ⟨w.heap.size, 0, none⟩ = false := by rw [← hwB]; simp [go_sem]
    have f1 : wB.frozen? ⟨w.heap.size, 1, none⟩ = false := by rw [← hwB]; simp [go_sem]
    have pn : wB.cell? ⟨w.heap.size + 1, 0, none⟩ = some (.int .i64 d) := by rw [← hwB]; simp [go_sem]
    rw [hwB]
    clear hwB
    refine (within1_any _ _ d _ _ pn).mono ?_
    rintro e w1 ⟨rfl, hb1⟩
    rw [H1.out]
    have hz := block_lt r0
    have f0 := ((bcell hb1).2 w.heap.size 0 hz).trans f0
    have f1 := ((bcell hb1).2 w.heap.size 1 hz).trans f1
    have r0 := cell_below r0 hb1
    have r1 := cell_below r1 hb1
    have hb := below_on hb hb1
    have hz := block_lt r0
    clear hb1 pn
    go_wp2_with fail
    exact bodyPost_ret (v := .tuple #[.agg #[.int .i64 (0), .int .i64 (0)], .int .i64 2]) (by simp [results, Try.results40, r0, r1, go_sem]) rfl ⟨rfl, by repeat (first | exact hb | refine Below.setCell ?_ (by simp) _)⟩

theorem Warn_no (d k s : Int) (w : World) (h1 : k ≠ 1) (h2 : k ≠ -1) :
    Calls Try.prog 40 #[.int .i64 d, .int .i64 k, .int .i64 s] w fun e w' => e = .returned (.tuple #[.agg #[.int .i64 0, .int .i64 0], .int .i64 2]) ∧ Below w.heap.size w w' := by
  have HD := Lib.hid (fun W => isDir_no k h1 h2 W)
  have hb : Below w.heap.size w (w.alloc (.cells #[.int .i64 0, .int .i64 0] 35)) := (Below.refl _ _).alloc (Nat.le_refl _) _
  clear h1 h2
  go_enter Try.func40, Try.ntmps40
  go_wp2_with (go_at_call 69; refine (HD.out _).mono ?_; rintro e w' ⟨rfl, rfl⟩)
  exact bodyPost_ret (v := .tuple #[.agg #[.int .i64 0, .int .i64 0], .int .i64 2]) (by simp [results, Try.results40, go_sem]) rfl ⟨rfl, by repeat (first | exact hb | refine Below.setCell ?_ (by simp) _)⟩
end Go.Proofs.Ytacmeadmmjehmaa
