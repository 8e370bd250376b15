/-
  Sight of package road. By an AI agent.
-/
import Derived.Test.YtacmeadmmjehmaaRoadN
import Derived.Deep.RegionHeld3
import Derived.BigQuiet
namespace Go.Proofs.Ytacmeadmmjehmaa
set_option linter.unusedVariables false
set_option linter.unusedSimpArgs false
open Go.RowKit

/-- Is it a direction? -/
def dirB (d : Int) : Bool := d == 1 || d == -1
/-- Is it a side? -/
def sdB (s : Int) : Bool := s == 0 || s == 1
theorem isDir_any {d : Int} {v : Bool} (h : dirB d = v) (w : World) : Calls Try.prog 69 #[.int .i64 d] w fun e w' => e = .returned (.bool v) ∧ w = w' := by
  subst h
  by_cases h1 : d = 1
  · subst h1; exact isDir_1 w
  · by_cases h2 : d = -1
    · subst h2; exact isDir_m w
    · have e : dirB d = false := by simp [dirB, h1, h2]
      rw [e]; exact isDir_no d h1 h2 w
theorem dirB_c {d : Int} (h : dirB d = true) : d = 1 ∨ d = -1 := by simpa [dirB] using h
theorem isSide_any {s : Int} {v : Bool} (h : sdB s = v) (w : World) : Calls Try.prog 96 #[.int .i64 s] w fun e w' => e = .returned (.bool v) ∧ w = w' := by
  subst h
  by_cases h1 : s = 0
  · subst h1
    go_enter Try.func96, Try.ntmps96
    go_wp2
    go_ret
    exact ⟨rfl, rfl⟩
  · by_cases h2 : s = 1
    · subst h2
      go_enter Try.func96, Try.ntmps96
      go_wp2
      go_ret
      exact ⟨rfl, rfl⟩
    · have e : sdB s = false := by simp [sdB, h1, h2]
      rw [e]
      have e1 : (s == 0) = false := by simpa using h1
      have e2 : (s == 1) = false := by simpa using h2
      clear h1 h2 e
      go_enter Try.func96, Try.ntmps96
      go_wp2
      go_ret
      exact ⟨rfl, rfl⟩
/-- Is a post valid? -/
def postB (c d s : Int) : Bool := btw c 0 10000000 && dirB d && sdB s
/-- Is a wall valid? -/
def wallB (x : Sw) : Bool := sdB x.1 && (btw x.2.1 0 10000000 && btw x.2.2 0 10000000) && decide (x.2.1 ≤ x.2.2)
theorem postValid_a (n c d s : Int) (w : World) (h : btw c 0 10000000 = false) :
    Calls Try.prog 73 #[.agg #[.int .i64 n, .int .i64 c, .int .i64 d, .int .i64 s]] w fun e w' => e = .returned (.bool false) ∧ Below w.heap.size w w' := by
  have HW := Lib.hid h
  clear h
  go_enter Try.func73, Try.ntmps73
  go_wp2_with fail
  obtain ⟨wB, hwB⟩ : ∃ wB, (w.alloc (.cells #[.int .i64 n, .int .i64 c, .int .i64 d, .int .i64 s] 64)).alloc (.cells #[.int .i64 c] 3) = wB := ⟨_, rfl⟩
  have hb : Below w.heap.size w wB := by rw [← hwB]; exact ((Below.refl _ _).alloc (Nat.le_refl _) _).alloc (by simp) _
  have q0 : wB.cell? ⟨w.heap.size + 1, 0, none⟩ = some (.int .i64 c) := by rw [← hwB]; simp [go_sem]
  have p2 : wB.cell? ⟨w.heap.size, 2, none⟩ = some (.int .i64 d) := by rw [← hwB]; simp [go_sem]
  have p3 : wB.cell? ⟨w.heap.size, 3, none⟩ = some (.int .i64 s) := by rw [← hwB]; simp [go_sem]
  rw [hwB]
  clear hwB
  refine (within1_any _ _ c _ _ q0).mono ?_
  rintro e w1 ⟨rfl, hb1⟩
  rw [HW.out]
  have p2 := cell_below p2 hb1
  have p3 := cell_below p3 hb1
  have hb := below_on hb hb1
  clear hb1 q0

  go_wp2_with (fail)
  go_ret
  exact ⟨rfl, hb⟩
theorem postValid_b (n c d s : Int) (w : World) (h : btw c 0 10000000 = true) (h2 : dirB d = false) :
    Calls Try.prog 73 #[.agg #[.int .i64 n, .int .i64 c, .int .i64 d, .int .i64 s]] w fun e w' => e = .returned (.bool false) ∧ Below w.heap.size w w' := by
  have HW := Lib.hid h
  have HD := Lib.hid (fun W => isDir_any h2 W)
  clear h h2
  go_enter Try.func73, Try.ntmps73
  go_wp2_with fail
  obtain ⟨wB, hwB⟩ : ∃ wB, (w.alloc (.cells #[.int .i64 n, .int .i64 c, .int .i64 d, .int .i64 s] 64)).alloc (.cells #[.int .i64 c] 3) = wB := ⟨_, rfl⟩
  have hb : Below w.heap.size w wB := by rw [← hwB]; exact ((Below.refl _ _).alloc (Nat.le_refl _) _).alloc (by simp) _
  have q0 : wB.cell? ⟨w.heap.size + 1, 0, none⟩ = some (.int .i64 c) := by rw [← hwB]; simp [go_sem]
  have p2 : wB.cell? ⟨w.heap.size, 2, none⟩ = some (.int .i64 d) := by rw [← hwB]; simp [go_sem]
  have p3 : wB.cell? ⟨w.heap.size, 3, none⟩ = some (.int .i64 s) := by rw [← hwB]; simp [go_sem]
  rw [hwB]
  clear hwB
  refine (within1_any _ _ c _ _ q0).mono ?_
  rintro e w1 ⟨rfl, hb1⟩
  rw [HW.out]
  have p2 := cell_below p2 hb1
  have p3 := cell_below p3 hb1
  have hb := below_on hb hb1
  clear hb1 q0

  go_wp2_with (go_at_call 69; refine (HD.out _).mono ?_; rintro e w' ⟨rfl, rfl⟩)
  go_ret
  exact ⟨rfl, hb⟩
theorem postValid_c (n c d s : Int) (w : World) (h : btw c 0 10000000 = true) (h2 : dirB d = true) :
    Calls Try.prog 73 #[.agg #[.int .i64 n, .int .i64 c, .int .i64 d, .int .i64 s]] w fun e w' => e = .returned (.bool (sdB s)) ∧ Below w.heap.size w w' := by
  have HW := Lib.hid h
  have HD := Lib.hid (fun W => isDir_any h2 W)
  have HS := Lib.hid (fun W => isSide_any (s := s) rfl W)
  generalize sdB s = b at *
  clear h h2
  go_enter Try.func73, Try.ntmps73
  go_wp2_with fail
  obtain ⟨wB, hwB⟩ : ∃ wB, (w.alloc (.cells #[.int .i64 n, .int .i64 c, .int .i64 d, .int .i64 s] 64)).alloc (.cells #[.int .i64 c] 3) = wB := ⟨_, rfl⟩
  have hb : Below w.heap.size w wB := by rw [← hwB]; exact ((Below.refl _ _).alloc (Nat.le_refl _) _).alloc (by simp) _
  have q0 : wB.cell? ⟨w.heap.size + 1, 0, none⟩ = some (.int .i64 c) := by rw [← hwB]; simp [go_sem]
  have p2 : wB.cell? ⟨w.heap.size, 2, none⟩ = some (.int .i64 d) := by rw [← hwB]; simp [go_sem]
  have p3 : wB.cell? ⟨w.heap.size, 3, none⟩ = some (.int .i64 s) := by rw [← hwB]; simp [go_sem]
  rw [hwB]
  clear hwB
  refine (within1_any _ _ c _ _ q0).mono ?_
  rintro e w1 ⟨rfl, hb1⟩
  rw [HW.out]
  have p2 := cell_below p2 hb1
  have p3 := cell_below p3 hb1
  have hb := below_on hb hb1
  clear hb1 q0

  go_wp2_with (first | (go_at_call 69; refine (HD.out _).mono ?_; rintro e w' ⟨rfl, rfl⟩) | (go_at_call 96; refine (HS.out _).mono ?_; rintro e w' ⟨rfl, rfl⟩))
  go_ret
  exact ⟨rfl, hb⟩
theorem postValid_any (n c d s : Int) (w : World)  :
    Calls Try.prog 73 #[.agg #[.int .i64 n, .int .i64 c, .int .i64 d, .int .i64 s]] w fun e w' => e = .returned (.bool (postB c d s)) ∧ Below w.heap.size w w' := by
  unfold postB
  cases h : btw c 0 10000000 with
  | false => exact postValid_a n c d s w h
  | true =>
    cases h2 : dirB d with
    | false => exact postValid_b n c d s w h h2
    | true => exact postValid_c n c d s w h h2
theorem wallValid_a (x a b : Int) (w : World) (h : sdB x = false) :
    Calls Try.prog 77 #[.agg #[.int .i64 x, .int .i64 a, .int .i64 b]] w fun e w' => e = .returned (.bool false) ∧ Below w.heap.size w w' := by
  have HS := Lib.hid (fun W => isSide_any h W)
  clear h
  go_enter Try.func77, Try.ntmps77
  go_wp2_with (go_at_call 96; refine (HS.out _).mono ?_; rintro e w' ⟨rfl, rfl⟩)

  go_ret
  exact ⟨rfl, (Below.refl _ _).alloc (Nat.le_refl _) _⟩
theorem wallValid_b (x a b : Int) (w : World) (h : sdB x = true) (h2 : (btw a 0 10000000 && btw b 0 10000000) = false) :
    Calls Try.prog 77 #[.agg #[.int .i64 x, .int .i64 a, .int .i64 b]] w fun e w' => e = .returned (.bool false) ∧ Below w.heap.size w w' := by
  have HS := Lib.hid (fun W => isSide_any h W)
  have HW := Lib.hid h2
  clear h h2
  go_enter Try.func77, Try.ntmps77
  go_wp2_with (go_at_call 96; refine (HS.out _).mono ?_; rintro e w' ⟨rfl, rfl⟩)
  obtain ⟨wB, hwB⟩ : ∃ wB, (w.alloc (.cells #[.int .i64 x, .int .i64 a, .int .i64 b] 69)).alloc (.cells #[.int .i64 a, .int .i64 b] 3) = wB := ⟨_, rfl⟩
  have hb : Below w.heap.size w wB := by rw [← hwB]; exact ((Below.refl _ _).alloc (Nat.le_refl _) _).alloc (by simp) _
  have q0 : wB.cell? ⟨w.heap.size + 1, 0, none⟩ = some (.int .i64 a) := by rw [← hwB]; simp [go_sem]
  have q1 : wB.cell? ⟨w.heap.size + 1, 1, none⟩ = some (.int .i64 b) := by rw [← hwB]; simp [go_sem]
  have p1 : wB.cell? ⟨w.heap.size, 1, none⟩ = some (.int .i64 a) := by rw [← hwB]; simp [go_sem]
  have p2 : wB.cell? ⟨w.heap.size, 2, none⟩ = some (.int .i64 b) := by rw [← hwB]; simp [go_sem]
  rw [hwB]
  clear hwB
  refine (within2_any _ _ a b _ _ q0 q1).mono ?_
  rintro e w1 ⟨rfl, hb1⟩
  rw [HW.out]
  have p1 := cell_below p1 hb1
  have p2 := cell_below p2 hb1
  have hb := below_on hb hb1
  clear hb1 q0 q1
  go_wp2_with fail

  go_ret
  exact ⟨rfl, hb⟩
theorem wallValid_c (x a b : Int) (w : World) (h : sdB x = true) (h2 : (btw a 0 10000000 && btw b 0 10000000) = true) :
    Calls Try.prog 77 #[.agg #[.int .i64 x, .int .i64 a, .int .i64 b]] w fun e w' => e = .returned (.bool (decide (a ≤ b))) ∧ Below w.heap.size w w' := by
  have HS := Lib.hid (fun W => isSide_any h W)
  have HW := Lib.hid h2
  clear h h2
  go_enter Try.func77, Try.ntmps77
  go_wp2_with (go_at_call 96; refine (HS.out _).mono ?_; rintro e w' ⟨rfl, rfl⟩)
  obtain ⟨wB, hwB⟩ : ∃ wB, (w.alloc (.cells #[.int .i64 x, .int .i64 a, .int .i64 b] 69)).alloc (.cells #[.int .i64 a, .int .i64 b] 3) = wB := ⟨_, rfl⟩
  have hb : Below w.heap.size w wB := by rw [← hwB]; exact ((Below.refl _ _).alloc (Nat.le_refl _) _).alloc (by simp) _
  have q0 : wB.cell? ⟨w.heap.size + 1, 0, none⟩ = some (.int .i64 a) := by rw [← hwB]; simp [go_sem]
  have q1 : wB.cell? ⟨w.heap.size + 1, 1, none⟩ = some (.int .i64 b) := by rw [← hwB]; simp [go_sem]
  have p1 : wB.cell? ⟨w.heap.size, 1, none⟩ = some (.int .i64 a) := by rw [← hwB]; simp [go_sem]
  have p2 : wB.cell? ⟨w.heap.size, 2, none⟩ = some (.int .i64 b) := by rw [← hwB]; simp [go_sem]
  rw [hwB]
  clear hwB
  refine (within2_any _ _ a b _ _ q0 q1).mono ?_
  rintro e w1 ⟨rfl, hb1⟩
  rw [HW.out]
  have p1 := cell_below p1 hb1
  have p2 := cell_below p2 hb1
  have hb := below_on hb hb1
  clear hb1 q0 q1
  go_wp2_with fail

  go_ret
  exact ⟨rfl, hb⟩
theorem wallValid_any (x a b : Int) (w : World)  :
    Calls Try.prog 77 #[.agg #[.int .i64 x, .int .i64 a, .int .i64 b]] w fun e w' => e = .returned (.bool (wallB (x, a, b))) ∧ Below w.heap.size w w' := by
  unfold wallB
  simp only []
  cases h : sdB x with
  | false => exact wallValid_a x a b w h
  | true =>
    cases h2 : (btw a 0 10000000 && btw b 0 10000000) with
    | false => exact wallValid_b x a b w h h2
    | true => exact wallValid_c x a b w h h2
theorem wrong_any (x a b : Int) (w : World) :
    Calls Try.prog 76 #[.agg #[.int .i64 x, .int .i64 a, .int .i64 b]] w fun e w' => e = .returned (.bool (!(wallB (x, a, b)))) ∧ Below w.heap.size w w' := by
  have HV := Lib.hid (fun W => wallValid_any x a b W)
  generalize wallB (x, a, b) = v at *
  go_enter Try.func76, Try.ntmps76
  go_wp2_with fail
  have hb := (Below.refl w.heap.size w).alloc (Nat.le_refl _) (.cells #[.int .i64 x, .int .i64 a, .int .i64 b] 69)
  refine (HV.out _).mono ?_
  rintro e w1 ⟨rfl, hb1⟩
  go_wp2_with fail
  go_ret
  exact ⟨rfl, below_on hb hb1⟩
set_option maxRecDepth 100000 in
set_option maxHeartbeats 1000000 in
theorem idxWl_any (aa : Option Addr) (l : List (Sw)) (ca : Nat) (lb : Array Value) (p : Nat → Bool) (w : World) (hA : TripS w aa l)
    (hp : ∀ j W, j < l.length → Below w.heap.size w W → Calls Try.prog 76 (#[.agg #[.int .i64 (gw l j).1, .int .i64 (gw l j).2.1, .int .i64 (gw l j).2.2]] ++ lb) W fun e w' => e = .returned (.bool (p j)) ∧ Below W.heap.size W w') :
    Calls Try.prog 98 #[.slice aa l.length ca, .func (.func 76) #[] lb] w fun e w' => e = .returned (.int .i64 (idxK p l.length)) ∧ Below w.heap.size w w' := by
  obtain ⟨hlen, -, blk, off, hadr, hc⟩ := hA
  have HP := Lib.hid hp
  have HC := Lib.hid hc
  have HH : Hid (∀ k, k < l.length → p k = true → (∀ j, j < k → p j = false) → idxK p l.length = k) := Lib.hid fun k hk h hb => idxK_hit h hb _ hk
  have HM : Hid ((∀ j, j < l.length → p j = false) → idxK p l.length = -1) := Lib.hid fun h => idxK_miss _ h
  have HL : Hid (0 < l.length → aa = some ⟨blk, off, none⟩) := Lib.hid fun h => hadr (pos_ne (n := 0) h)
  generalize idxK p l.length = R at *
  clear hp hc hadr
  go_enter Try.func98, Try.ntmps98
  go_wp2_with fail
  go_loopw [8] (fun i wr => ∃ k : Nat, k ≤ l.length ∧ i = .int .i64 k ∧ Below w.heap.size w wr ∧ Hid (∀ j, j < k → p j = false)) (fun i _ => l.length - (intOf i).toNat)
  case atStart => exact ⟨0, Nat.zero_le _, rfl, Below.refl _ _, Lib.hid fun j hj => absurd hj (Nat.not_lt_zero _)⟩
  case round =>
    obtain ⟨k, hk, rfl, hb, HA⟩ := hrel
    by_cases hlt : k < l.length
    · obtain rfl := HL.out (by omega)
      obtain ⟨c0, c1, c2⟩ := HC.out k hlt
      have c0 := cell_below c0 hb
      have c1 := cell_below c1 hb
      have c2 := cell_below c2 hb
      have HK := Lib.hid (fun W => HP.out k W hlt)
      have HHk := Lib.hid (HH.out k hlt)
      have HN : Hid (p k = false → ∀ j, j < k + 1 → p j = false) := Lib.hid fun h j hj => by
        by_cases e : j = k
        · subst e; exact h
        · exact HA.out j (by omega)
      clear HP HC HM HL HH
      generalize (gw l k).1 = x0 at *
      generalize (gw l k).2.1 = x1 at *
      generalize (gw l k).2.2 = x2 at *
      cases hpk : p k with
      | true =>
        have HR := Lib.hid (HHk.out hpk HA.out)
        rw [hpk] at HK
        clear hpk HHk HN
        go_wp2_with fail
        refine (HK.out _ hb).mono ?_
        rintro e w1 ⟨rfl, hb1⟩
        go_wp2_with fail
        go_ret
        rw [HR.out]
        exact ⟨rfl, hb.trans (hb1.mono hb.size)⟩
      | false =>
        have HR := Lib.hid (HN.out hpk)
        rw [hpk] at HK
        clear hpk HHk HN
        go_wp2_with fail
        refine (HK.out _ hb).mono ?_
        rintro e w1 ⟨rfl, hb1⟩
        go_wp2_with fail
        go_roundw
        case rel => exact ⟨k + 1, by omega, by go_num, hb.trans (hb1.mono hb.size), HR⟩
        case measure => simp [intOf]; omega
    · obtain rfl : k = l.length := by omega
      have HR := Lib.hid (HM.out HA.out)
      go_wp2_with fail
      go_ret
      rw [HR.out]
      exact ⟨rfl, hb⟩

set_option maxRecDepth 100000 in
theorem containsWl_any (aa : Option Addr) (l : List (Sw)) (ca : Nat) (lb : Array Value) (p : Nat → Bool) (w : World) (hA : TripS w aa l)
    (hp : ∀ j W, j < l.length → Below w.heap.size w W → Calls Try.prog 76 (#[.agg #[.int .i64 (gw l j).1, .int .i64 (gw l j).2.1, .int .i64 (gw l j).2.2]] ++ lb) W fun e w' => e = .returned (.bool (p j)) ∧ Below W.heap.size W w') :
    Calls Try.prog 78 #[.slice aa l.length ca, .func (.func 76) #[] lb] w fun e w' => e = .returned (.bool (anyK p l.length)) ∧ Below w.heap.size w w' := by
  have H := Lib.hid (idxWl_any aa l ca lb p w hA hp)
  have hq := Lib.hid (idxK_any p l.length)
  clear hp hA
  generalize idxK p l.length = R at *
  generalize anyK p l.length = B at *
  have hq := hq.out
  subst hq
  go_enter Try.func78, Try.ntmps78
  go_wp2_with fail
  refine H.out.mono ?_
  rintro e w1 ⟨rfl, hb1⟩
  go_wp2_with fail
  all_goals
    go_ret
    exact ⟨by simp_all, hb1⟩

/-- From how far in front of a post a wall stands. -/
def frN (c d a b : Int) : Int := min (d * (c - a)) (d * (c - b))
/-- To how far in front of a post a wall stands. -/
def frE (c d a b : Int) : Int := max (d * (c - a)) (d * (c - b))
set_option maxHeartbeats 1000000 in
theorem inFront_1 (n c s x a b : Int) (w : World) (hc : 0 ≤ c ∧ c ≤ 10000000) (ha : 0 ≤ a ∧ a ≤ 10000000) (hb : 0 ≤ b ∧ b ≤ 10000000) :
    Calls Try.prog 79 #[.agg #[.int .i64 n, .int .i64 c, .int .i64 1, .int .i64 s], .agg #[.int .i64 x, .int .i64 a, .int .i64 b]] w fun e w' => e = .returned (.tuple #[.int .i64 (frN c 1 a b), .int .i64 (frE c 1 a b)]) ∧ Below w.heap.size w w' := by
  obtain ⟨c0, c1⟩ := hc
  obtain ⟨a0, a1⟩ := ha
  obtain ⟨b0, b1⟩ := hb
  have e1 : 1 * (c - a) = c - a := by omega
  have e2 : 1 * (c - b) = c - b := by omega
  unfold frN frE
  rw [e1, e2]
  obtain ⟨X, hX⟩ : ∃ X, c - a = X := ⟨_, rfl⟩
  obtain ⟨Y, hY⟩ : ∃ Y, c - b = Y := ⟨_, rfl⟩
  rw [hX, hY]
  have e1 := e1.trans hX
  have e2 := e2.trans hY
  have w1 : IntKind.i64.wrap (1 * (c - a)) = X := by rw [e1]; exact IntWalk.i64_in _ (by omega)
  have w2 : IntKind.i64.wrap (1 * (c - b)) = Y := by rw [e2]; exact IntWalk.i64_in _ (by omega)
  clear hX hY
  go_enter Try.func79, Try.ntmps79
  go_wp2_with fail
  obtain ⟨wB, hwB⟩ : ∃ wB, (w.alloc (.cells #[.int .i64 n, .int .i64 c, .int .i64 1, .int .i64 s] 64)).alloc (.cells #[.int .i64 x, .int .i64 a, .int .i64 b] 69) = wB := ⟨_, rfl⟩
  have hbB : Below w.heap.size w wB := by rw [← hwB]; exact ((Below.refl _ _).alloc (Nat.le_refl _) _).alloc (by simp) _
  have p1 : wB.cell? ⟨w.heap.size, 1, none⟩ = some (.int .i64 c) := by rw [← hwB]; simp [go_sem]
  have p2 : wB.cell? ⟨w.heap.size, 2, none⟩ = some (.int .i64 1) := by rw [← hwB]; simp [go_sem]
  have q1 : wB.cell? ⟨w.heap.size + 1, 1, none⟩ = some (.int .i64 a) := by rw [← hwB]; simp [go_sem]
  have q2 : wB.cell? ⟨w.heap.size + 1, 2, none⟩ = some (.int .i64 b) := by rw [← hwB]; simp [go_sem]
  rw [hwB]
  clear hwB
  go_quiet (fail)
  have hbB := below_drewN hbB nq
  generalize wB.drewN nq = wC at hbB ⊢
  clear p1 p2 q1 q2
  go_wp2_with fail
  all_goals
    go_ret2
    exact ⟨by first | rfl | (simp; omega), hbB⟩
set_option maxHeartbeats 1000000 in
theorem inFront_m (n c s x a b : Int) (w : World) (hc : 0 ≤ c ∧ c ≤ 10000000) (ha : 0 ≤ a ∧ a ≤ 10000000) (hb : 0 ≤ b ∧ b ≤ 10000000) :
    Calls Try.prog 79 #[.agg #[.int .i64 n, .int .i64 c, .int .i64 (-1), .int .i64 s], .agg #[.int .i64 x, .int .i64 a, .int .i64 b]] w fun e w' => e = .returned (.tuple #[.int .i64 (frN c (-1) a b), .int .i64 (frE c (-1) a b)]) ∧ Below w.heap.size w w' := by
  obtain ⟨c0, c1⟩ := hc
  obtain ⟨a0, a1⟩ := ha
  obtain ⟨b0, b1⟩ := hb
  have e1 : (-1) * (c - a) = -(c - a) := by omega
  have e2 : (-1) * (c - b) = -(c - b) := by omega
  unfold frN frE
  rw [e1, e2]
  obtain ⟨X, hX⟩ : ∃ X, -(c - a) = X := ⟨_, rfl⟩
  obtain ⟨Y, hY⟩ : ∃ Y, -(c - b) = Y := ⟨_, rfl⟩
  rw [hX, hY]
  have e1 := e1.trans hX
  have e2 := e2.trans hY
  have w1 : IntKind.i64.wrap ((-1) * (c - a)) = X := by rw [e1]; exact IntWalk.i64_in _ (by omega)
  have w2 : IntKind.i64.wrap ((-1) * (c - b)) = Y := by rw [e2]; exact IntWalk.i64_in _ (by omega)
  clear hX hY
  go_enter Try.func79, Try.ntmps79
  go_wp2_with fail
  obtain ⟨wB, hwB⟩ : ∃ wB, (w.alloc (.cells #[.int .i64 n, .int .i64 c, .int .i64 (-1), .int .i64 s] 64)).alloc (.cells #[.int .i64 x, .int .i64 a, .int .i64 b] 69) = wB := ⟨_, rfl⟩
  have hbB : Below w.heap.size w wB := by rw [← hwB]; exact ((Below.refl _ _).alloc (Nat.le_refl _) _).alloc (by simp) _
  have p1 : wB.cell? ⟨w.heap.size, 1, none⟩ = some (.int .i64 c) := by rw [← hwB]; simp [go_sem]
  have p2 : wB.cell? ⟨w.heap.size, 2, none⟩ = some (.int .i64 (-1)) := by rw [← hwB]; simp [go_sem]
  have q1 : wB.cell? ⟨w.heap.size + 1, 1, none⟩ = some (.int .i64 a) := by rw [← hwB]; simp [go_sem]
  have q2 : wB.cell? ⟨w.heap.size + 1, 2, none⟩ = some (.int .i64 b) := by rw [← hwB]; simp [go_sem]
  rw [hwB]
  clear hwB
  go_quiet (fail)
  have hbB := below_drewN hbB nq
  generalize wB.drewN nq = wC at hbB ⊢
  clear p1 p2 q1 q2
  go_wp2_with fail
  all_goals
    go_ret2
    exact ⟨by first | rfl | (simp; omega), hbB⟩
end Go.Proofs.Ytacmeadmmjehmaa
