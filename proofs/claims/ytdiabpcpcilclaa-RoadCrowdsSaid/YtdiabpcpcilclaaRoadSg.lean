/-
  Sight of package road. By an AI agent.
-/
import Derived.Test.YtdiabpcpcilclaaRoadN
import Derived.Deep.RegionHeld3
import Derived.BigQuiet
namespace Go.Proofs.Ytdiabpcpcilclaa
set_option linter.unusedVariables false
set_option linter.unusedSimpArgs false
open Go.RowKit

/-- Is it a direction? -/
def dirB (d : Int) : Bool := d == 1 || d == -1
/-- Is it a side? -/
def sdB (s : Int) : Bool := s == 0 || s == 1
theorem isDir_any {d : Int} {v : Bool} (h : dirB d = v) (w : World) : Calls Try.prog 67 #[.int .i64 d] w fun e w' => e = .returned (.bool v) ∧ w = w' := by
  subst h
  by_cases h1 : d = 1
  · subst h1; exact isDir_1 w
  · by_cases h2 : d = -1
    · subst h2; exact isDir_m w
    · have e : dirB d = false := by simp [dirB, h1, h2]
      rw [e]; exact isDir_no d h1 h2 w
theorem dirB_c {d : Int} (h : dirB d = true) : d = 1 ∨ d = -1 := by simpa [dirB] using h
theorem isSide_any {s : Int} {v : Bool} (h : sdB s = v) (w : World) : Calls Try.prog 68 #[.int .i64 s] w fun e w' => e = .returned (.bool v) ∧ w = w' := by
  subst h
  by_cases h1 : s = 0
  · subst h1
    go_enter Try.func68, Try.ntmps68
    go_wp2
    go_ret
    exact ⟨rfl, rfl⟩
  · by_cases h2 : s = 1
    · subst h2
      go_enter Try.func68, Try.ntmps68
      go_wp2
      go_ret
      exact ⟨rfl, rfl⟩
    · have e : sdB s = false := by simp [sdB, h1, h2]
      rw [e]
      have e1 : (s == 0) = false := by simpa using h1
      have e2 : (s == 1) = false := by simpa using h2
      clear h1 h2 e
      go_enter Try.func68, Try.ntmps68
      go_wp2
      go_ret
      exact ⟨rfl, rfl⟩
/-- Is a post valid? -/
def postB (c d s : Int) : Bool := btw c 0 10000000 && dirB d && sdB s
/-- Is a wall valid? -/
def wallB (x : Sw) : Bool := sdB x.1 && (btw x.2.1 0 10000000 && btw x.2.2 0 10000000) && decide (x.2.1 ≤ x.2.2)
theorem postValid_a (n c d s : Int) (w : World) (h : btw c 0 10000000 = false) :
    Calls Try.prog 46 #[.agg #[.int .i64 n, .int .i64 c, .int .i64 d, .int .i64 s]] w fun e w' => e = .returned (.bool false) ∧ Below w.heap.size w w' := by
  have HW := Lib.hid h
  clear h
  go_enter Try.func46, Try.ntmps46
  go_wp2_with fail
  obtain ⟨wB, hwB⟩ : ∃ wB, (w.alloc (.cells #[.int .i64 n, .int .i64 c, .int .i64 d, .int .i64 s] 78)).alloc (.cells #[.int .i64 c] 3) = wB := ⟨_, rfl⟩
  have hb : Below w.heap.size w wB := by rw [← hwB]; exact ((Below.refl _ _).alloc (Nat.le_refl _) _).alloc (by simp) _
  have q0 : wB.cell? ⟨w.heap.size + 1, 0, none⟩ = some (.int .i64 c) := by rw [← hwB]; simp [go_sem]
  have p2 : wB.cell? ⟨w.heap.size, 2, none⟩ = some (.int .i64 d) := by rw [← hwB]; simp [go_sem]
  have p3 : wB.cell? ⟨w.heap.size, 3, none⟩ = some (.int .i64 s) := by rw [← hwB]; simp [go_sem]
  rw [hwB]
  clear hwB
  refine (within1_any _ _ c _ _ q0).mono ?_
  rintro e w1 ⟨rfl, hb1⟩
  rw [HW.out]
  have p2 := cell_below p2 hb1
  have p3 := cell_below p3 hb1
  have hb := below_on hb hb1
  clear hb1 q0

  go_wp2_with (fail)
  go_ret
  exact ⟨rfl, hb⟩
theorem postValid_b (n c d s : Int) (w : World) (h : btw c 0 10000000 = true) (h2 : dirB d = false) :
    Calls Try.prog 46 #[.agg #[.int .i64 n, .int .i64 c, .int .i64 d, .int .i64 s]] w fun e w' => e = .returned (.bool false) ∧ Below w.heap.size w w' := by
  have HW := Lib.hid h
  have HD := Lib.hid (fun W => isDir_any h2 W)
  clear h h2
  go_enter Try.func46, Try.ntmps46
  go_wp2_with fail
  obtain ⟨wB, hwB⟩ : ∃ wB, (w.alloc (.cells #[.int .i64 n, .int .i64 c, .int .i64 d, .int .i64 s] 78)).alloc (.cells #[.int .i64 c] 3) = wB := ⟨_, rfl⟩
  have hb : Below w.heap.size w wB := by rw [← hwB]; exact ((Below.refl _ _).alloc (Nat.le_refl _) _).alloc (by simp) _
  have q0 : wB.cell? ⟨w.heap.size + 1, 0, none⟩ = some (.int .i64 c) := by rw [← hwB]; simp [go_sem]
  have p2 : wB.cell? ⟨w.heap.size, 2, none⟩ = some (.int .i64 d) := by rw [← hwB]; simp [go_sem]
  have p3 : wB.cell? ⟨w.heap.size, 3, none⟩ = some (.int .i64 s) := by rw [← hwB]; simp [go_sem]
  rw [hwB]
  clear hwB
  refine (within1_any _ _ c _ _ q0).mono ?_
  rintro e w1 ⟨rfl, hb1⟩
  rw [HW.out]
  have p2 := cell_below p2 hb1
  have p3 := cell_below p3 hb1
  have hb := below_on hb hb1
  clear hb1 q0

  go_wp2_with (go_at_call 67; refine (HD.out _).mono ?_; rintro e w' ⟨rfl, rfl⟩)
  go_ret
  exact ⟨rfl, hb⟩
theorem postValid_c (n c d s : Int) (w : World) (h : btw c 0 10000000 = true) (h2 : dirB d = true) :
    Calls Try.prog 46 #[.agg #[.int .i64 n, .int .i64 c, .int .i64 d, .int .i64 s]] w fun e w' => e = .returned (.bool (sdB s)) ∧ Below w.heap.size w w' := by
  have HW := Lib.hid h
  have HD := Lib.hid (fun W => isDir_any h2 W)
  have HS := Lib.hid (fun W => isSide_any (s := s) rfl W)
  generalize sdB s = b at *
  clear h h2
  go_enter Try.func46, Try.ntmps46
  go_wp2_with fail
  obtain ⟨wB, hwB⟩ : ∃ wB, (w.alloc (.cells #[.int .i64 n, .int .i64 c, .int .i64 d, .int .i64 s] 78)).alloc (.cells #[.int .i64 c] 3) = wB := ⟨_, rfl⟩
  have hb : Below w.heap.size w wB := by rw [← hwB]; exact ((Below.refl _ _).alloc (Nat.le_refl _) _).alloc (by simp) _
  have q0 : wB.cell? ⟨w.heap.size + 1, 0, none⟩ = some (.int .i64 c) := by rw [← hwB]; simp [go_sem]
  have p2 : wB.cell? ⟨w.heap.size, 2, none⟩ = some (.int .i64 d) := by rw [← hwB]; simp [go_sem]
  have p3 : wB.cell? ⟨w.heap.size, 3, none⟩ = some (.int .i64 s) := by rw [← hwB]; simp [go_sem]
  rw [hwB]
  clear hwB
  refine (within1_any _ _ c _ _ q0).mono ?_
  rintro e w1 ⟨rfl, hb1⟩
  rw [HW.out]
  have p2 := cell_below p2 hb1
  have p3 := cell_below p3 hb1
  have hb := below_on hb hb1
  clear hb1 q0

  go_wp2_with (first | (go_at_call 67; refine (HD.out _).mono ?_; rintro e w' ⟨rfl, rfl⟩) | (go_at_call 68; refine (HS.out _).mono ?_; rintro e w' ⟨rfl, rfl⟩))
  go_ret
  exact ⟨rfl, hb⟩
theorem postValid_any (n c d s : Int) (w : World)  :
    Calls Try.prog 46 #[.agg #[.int .i64 n, .int .i64 c, .int .i64 d, .int .i64 s]] w fun e w' => e = .returned (.bool (postB c d s)) ∧ Below w.heap.size w w' := by
  unfold postB
  cases h : btw c 0 10000000 with
  | false => exact postValid_a n c d s w h
  | true =>
    cases h2 : dirB d with
    | false => exact postValid_b n c d s w h h2
    | true => exact postValid_c n c d s w h h2
/-- From how far in front of a post a wall stands. -/
def frN (c d a b : Int) : Int := min (d * (c - a)) (d * (c - b))
/-- To how far in front of a post a wall stands. -/
def frE (c d a b : Int) : Int := max (d * (c - a)) (d * (c - b))
end Go.Proofs.Ytdiabpcpcilclaa
