/-
  Places on a plate: the walks of placeValid, apart, plateValid, and of what looks for a place. By an AI agent.
-/
import Derived.Test.YtkmonaeajejamaaCutB
namespace Go.Proofs.Ytkmonaeajejamaa
set_option linter.unusedVariables false
set_option linter.unusedSimpArgs false
open Go.RowKit

def plB (x y m h : Int) : Bool := btw m 1 1000 && (btw h 1 1000 && (btw x 0 1000 && btw y 0 1000))
def apB (x y m h x' y' m' h' k : Int) : Bool := decide (x + m + k ≤ x') || (decide (x' + m' + k ≤ x) || (decide (y + h + k ≤ y') || decide (y' + h' + k ≤ y)))
def plateB (a b k : Int) : Bool := btw a 1 1000 && (btw b 1 1000 && btw k 0 20)
theorem plB_iff {x y m h : Int} : plB x y m h = true ↔ (1 ≤ m ∧ m ≤ 1000) ∧ (1 ≤ h ∧ h ≤ 1000) ∧ (0 ≤ x ∧ x ≤ 1000) ∧ 0 ≤ y ∧ y ≤ 1000 := by
  unfold plB; rw [Bool.and_eq_true, Bool.and_eq_true, Bool.and_eq_true, btw_iff, btw_iff, btw_iff, btw_iff]
theorem plateB_iff {a b k : Int} : plateB a b k = true ↔ (1 ≤ a ∧ a ≤ 1000) ∧ (1 ≤ b ∧ b ≤ 1000) ∧ 0 ≤ k ∧ k ≤ 20 := by
  unfold plateB; rw [Bool.and_eq_true, Bool.and_eq_true, btw_iff, btw_iff, btw_iff]
theorem apB_comm (x y m h x' y' m' h' k : Int) : apB x y m h x' y' m' h' k = apB x' y' m' h' x y m h k := by
  unfold apB
  cases decide (x + m + k ≤ x') <;> cases decide (x' + m' + k ≤ x) <;> cases decide (y + h + k ≤ y') <;> cases decide (y' + h' + k ≤ y) <;> rfl
theorem btw_cases (n a b : Int) : btw n a b = true ∨ btw n a b = false := by cases btw n a b <;> simp

set_option maxRecDepth 100000 in
theorem placeValid_any (c x y m h : Int) (w : World) :
    Calls Try.prog 78 #[.agg #[.int .u8 c, .int .i64 x, .int .i64 y, .int .i64 m, .int .i64 h]] w fun e w' => e = .returned (.bool (plB x y m h)) ∧ Below w.heap.size w w' := by
  rcases btw_cases m 1 1000 with b1 | b1
  rotate_left
  · have hr : plB x y m h = false := by simp [plB, b1]
    rw [hr]
    have B1 := Lib.hid b1
    have B2 := Lib.hid b1
    have B3 := Lib.hid b1
    have B4 := Lib.hid b1
    clear hr b1
    go_enter Try.func78, Try.ntmps78
    go_wp2_with (go_at_call 48; refine (cbt_any _ _ _ _).mono ?_; rintro e w' ⟨rfl, rfl⟩; first | rw [B1.out] | rw [B2.out] | rw [B3.out] | rw [B4.out])
    go_ret
    exact ⟨rfl, (Below.refl _ _).alloc (Nat.le_refl _) _⟩
  rcases btw_cases h 1 1000 with b2 | b2
  rotate_left
  · have hr : plB x y m h = false := by simp [plB, b1, b2]
    rw [hr]
    have B1 := Lib.hid b1
    have B2 := Lib.hid b2
    have B3 := Lib.hid b2
    have B4 := Lib.hid b2
    clear hr b1 b2
    go_enter Try.func78, Try.ntmps78
    go_wp2_with (go_at_call 48; refine (cbt_any _ _ _ _).mono ?_; rintro e w' ⟨rfl, rfl⟩; first | rw [B1.out] | rw [B2.out] | rw [B3.out] | rw [B4.out])
    go_ret
    exact ⟨rfl, (Below.refl _ _).alloc (Nat.le_refl _) _⟩
  rcases btw_cases x 0 1000 with b3 | b3
  rotate_left
  · have hr : plB x y m h = false := by simp [plB, b1, b2, b3]
    rw [hr]
    have B1 := Lib.hid b1
    have B2 := Lib.hid b2
    have B3 := Lib.hid b3
    have B4 := Lib.hid b3
    clear hr b1 b2 b3
    go_enter Try.func78, Try.ntmps78
    go_wp2_with (go_at_call 48; refine (cbt_any _ _ _ _).mono ?_; rintro e w' ⟨rfl, rfl⟩; first | rw [B1.out] | rw [B2.out] | rw [B3.out] | rw [B4.out])
    go_ret
    exact ⟨rfl, (Below.refl _ _).alloc (Nat.le_refl _) _⟩
  rcases btw_cases y 0 1000 with b4 | b4
  rotate_left
  · have hr : plB x y m h = false := by simp [plB, b1, b2, b3, b4]
    rw [hr]
    have B1 := Lib.hid b1
    have B2 := Lib.hid b2
    have B3 := Lib.hid b3
    have B4 := Lib.hid b4
    clear hr b1 b2 b3 b4
    go_enter Try.func78, Try.ntmps78
    go_wp2_with (go_at_call 48; refine (cbt_any _ _ _ _).mono ?_; rintro e w' ⟨rfl, rfl⟩; first | rw [B1.out] | rw [B2.out] | rw [B3.out] | rw [B4.out])
    go_ret
    exact ⟨rfl, (Below.refl _ _).alloc (Nat.le_refl _) _⟩
  have hr : plB x y m h = true := by simp [plB, b1, b2, b3, b4]
  rw [hr]
  have B1 := Lib.hid b1
  have B2 := Lib.hid b2
  have B3 := Lib.hid b3
  have B4 := Lib.hid b4
  clear hr b1 b2 b3 b4
  go_enter Try.func78, Try.ntmps78
  go_wp2_with (go_at_call 48; refine (cbt_any _ _ _ _).mono ?_; rintro e w' ⟨rfl, rfl⟩; first | rw [B1.out] | rw [B2.out] | rw [B3.out] | rw [B4.out])
  go_ret
  exact ⟨rfl, (Below.refl _ _).alloc (Nat.le_refl _) _⟩

set_option maxRecDepth 100000 in
theorem plateValid_any (a b k : Int) (w : World) :
    Calls Try.prog 68 #[.int .i64 a, .int .i64 b, .int .i64 k] w fun e w' => e = .returned (.bool (plateB a b k)) ∧ w = w' := by
  rcases btw_cases a 1 1000 with b1 | b1
  rotate_left
  · have hr : plateB a b k = false := by simp [plateB, b1]
    rw [hr]
    have B1 := Lib.hid b1
    have B2 := Lib.hid b1
    have B3 := Lib.hid b1
    have B4 := Lib.hid b1
    clear hr b1
    go_enter Try.func68, Try.ntmps68
    go_wp2_with (go_at_call 48; refine (cbt_any _ _ _ _).mono ?_; rintro e w' ⟨rfl, rfl⟩; first | rw [B1.out] | rw [B2.out] | rw [B3.out] | rw [B4.out])
    go_ret
    exact ⟨rfl, rfl⟩
  rcases btw_cases b 1 1000 with b2 | b2
  rotate_left
  · have hr : plateB a b k = false := by simp [plateB, b1, b2]
    rw [hr]
    have B1 := Lib.hid b1
    have B2 := Lib.hid b2
    have B3 := Lib.hid b2
    have B4 := Lib.hid b2
    clear hr b1 b2
    go_enter Try.func68, Try.ntmps68
    go_wp2_with (go_at_call 48; refine (cbt_any _ _ _ _).mono ?_; rintro e w' ⟨rfl, rfl⟩; first | rw [B1.out] | rw [B2.out] | rw [B3.out] | rw [B4.out])
    go_ret
    exact ⟨rfl, rfl⟩
  rcases btw_cases k 0 20 with b3 | b3
  rotate_left
  · have hr : plateB a b k = false := by simp [plateB, b1, b2, b3]
    rw [hr]
    have B1 := Lib.hid b1
    have B2 := Lib.hid b2
    have B3 := Lib.hid b3
    have B4 := Lib.hid b3
    clear hr b1 b2 b3
    go_enter Try.func68, Try.ntmps68
    go_wp2_with (go_at_call 48; refine (cbt_any _ _ _ _).mono ?_; rintro e w' ⟨rfl, rfl⟩; first | rw [B1.out] | rw [B2.out] | rw [B3.out] | rw [B4.out])
    go_ret
    exact ⟨rfl, rfl⟩
  have hr : plateB a b k = true := by simp [plateB, b1, b2, b3]
  rw [hr]
  have B1 := Lib.hid b1
  have B2 := Lib.hid b2
  have B3 := Lib.hid b3
  have B4 := Lib.hid b3
  clear hr b1 b2 b3
  go_enter Try.func68, Try.ntmps68
  go_wp2_with (go_at_call 48; refine (cbt_any _ _ _ _).mono ?_; rintro e w' ⟨rfl, rfl⟩; first | rw [B1.out] | rw [B2.out] | rw [B3.out] | rw [B4.out])
  go_ret
  exact ⟨rfl, rfl⟩

set_option maxRecDepth 100000 in
theorem refPlate_any (a b k : Int) (w : World) :
    Calls Try.prog 72 #[.int .i64 a, .int .i64 b, .int .i64 k] w fun e w' => e = .returned (.bool (plateB a b k)) ∧ w = w' := by
  rcases btw_cases a 1 1000 with b1 | b1
  rotate_left
  · have hr : plateB a b k = false := by simp [plateB, b1]
    rw [hr]
    have B1 := Lib.hid b1
    have B2 := Lib.hid b1
    have B3 := Lib.hid b1
    have B4 := Lib.hid b1
    clear hr b1
    go_enter Try.func72, Try.ntmps72
    go_wp2_with (go_at_call 51; refine (from_any _ _ _ _).mono ?_; rintro e w' ⟨rfl, rfl⟩; first | rw [B1.out] | rw [B2.out] | rw [B3.out] | rw [B4.out])
    go_ret
    exact ⟨rfl, rfl⟩
  rcases btw_cases b 1 1000 with b2 | b2
  rotate_left
  · have hr : plateB a b k = false := by simp [plateB, b1, b2]
    rw [hr]
    have B1 := Lib.hid b1
    have B2 := Lib.hid b2
    have B3 := Lib.hid b2
    have B4 := Lib.hid b2
    clear hr b1 b2
    go_enter Try.func72, Try.ntmps72
    go_wp2_with (go_at_call 51; refine (from_any _ _ _ _).mono ?_; rintro e w' ⟨rfl, rfl⟩; first | rw [B1.out] | rw [B2.out] | rw [B3.out] | rw [B4.out])
    go_ret
    exact ⟨rfl, rfl⟩
  rcases btw_cases k 0 20 with b3 | b3
  rotate_left
  · have hr : plateB a b k = false := by simp [plateB, b1, b2, b3]
    rw [hr]
    have B1 := Lib.hid b1
    have B2 := Lib.hid b2
    have B3 := Lib.hid b3
    have B4 := Lib.hid b3
    clear hr b1 b2 b3
    go_enter Try.func72, Try.ntmps72
    go_wp2_with (go_at_call 51; refine (from_any _ _ _ _).mono ?_; rintro e w' ⟨rfl, rfl⟩; first | rw [B1.out] | rw [B2.out] | rw [B3.out] | rw [B4.out])
    go_ret
    exact ⟨rfl, rfl⟩
  have hr : plateB a b k = true := by simp [plateB, b1, b2, b3]
  rw [hr]
  have B1 := Lib.hid b1
  have B2 := Lib.hid b2
  have B3 := Lib.hid b3
  have B4 := Lib.hid b3
  clear hr b1 b2 b3
  go_enter Try.func72, Try.ntmps72
  go_wp2_with (go_at_call 51; refine (from_any _ _ _ _).mono ?_; rintro e w' ⟨rfl, rfl⟩; first | rw [B1.out] | rw [B2.out] | rw [B3.out] | rw [B4.out])
  go_ret
  exact ⟨rfl, rfl⟩

set_option maxRecDepth 100000 in
set_option maxHeartbeats 1000000 in
theorem apart_any (c x y m h c' x' y' m' h' k : Int) (w : World) (hp : plB x y m h = true) (hq : plB x' y' m' h' = true) (hk : 0 ≤ k ∧ k ≤ 20) :
    Calls Try.prog 80 #[.agg #[.int .u8 c, .int .i64 x, .int .i64 y, .int .i64 m, .int .i64 h], .agg #[.int .u8 c', .int .i64 x', .int .i64 y', .int .i64 m', .int .i64 h'], .int .i64 k] w fun e w' => e = .returned (.bool (apB x y m h x' y' m' h' k)) ∧ Below w.heap.size w w' := by
  obtain ⟨⟨p0, p1⟩, ⟨p2, p3⟩, ⟨p4, p5⟩, p6, p7⟩ := plB_iff.1 hp
  obtain ⟨⟨q0, q1⟩, ⟨q2, q3⟩, ⟨q4, q5⟩, q6, q7⟩ := plB_iff.1 hq
  obtain ⟨k0, k1⟩ := hk
  clear hp hq
  by_cases h1 : x + m + k ≤ x'
  · have hr : apB x y m h x' y' m' h' k = true := by simp [apB, h1]
    rw [hr]
    clear hr
    go_enter Try.func80, Try.ntmps80
    go_wp2
    go_ret
    exact ⟨rfl, ((Below.refl _ _).alloc (Nat.le_refl _) _ : Below w.heap.size w (w.alloc _)).alloc (by simp) _⟩
  by_cases h2 : x' + m' + k ≤ x
  · have hr : apB x y m h x' y' m' h' k = true := by simp [apB, h1, h2]
    rw [hr]
    clear hr
    go_enter Try.func80, Try.ntmps80
    go_wp2
    go_ret
    exact ⟨rfl, ((Below.refl _ _).alloc (Nat.le_refl _) _ : Below w.heap.size w (w.alloc _)).alloc (by simp) _⟩
  by_cases h3 : y + h + k ≤ y'
  · have hr : apB x y m h x' y' m' h' k = true := by simp [apB, h1, h2, h3]
    rw [hr]
    clear hr
    go_enter Try.func80, Try.ntmps80
    go_wp2
    go_ret
    exact ⟨rfl, ((Below.refl _ _).alloc (Nat.le_refl _) _ : Below w.heap.size w (w.alloc _)).alloc (by simp) _⟩
  by_cases h4 : y' + h' + k ≤ y
  · have hr : apB x y m h x' y' m' h' k = true := by simp [apB, h1, h2, h3, h4]
    rw [hr]
    clear hr
    go_enter Try.func80, Try.ntmps80
    go_wp2
    go_ret
    exact ⟨rfl, ((Below.refl _ _).alloc (Nat.le_refl _) _ : Below w.heap.size w (w.alloc _)).alloc (by simp) _⟩
  have hr : apB x y m h x' y' m' h' k = false := by simp [apB]; omega
  rw [hr]
  clear hr
  go_enter Try.func80, Try.ntmps80
  go_wp2
  go_ret
  exact ⟨rfl, ((Below.refl _ _).alloc (Nat.le_refl _) _ : Below w.heap.size w (w.alloc _)).alloc (by simp) _⟩

set_option maxRecDepth 100000 in
theorem clash1_any (c x y m h : Int) (w : World) :
    Calls Try.prog 77 #[.agg #[.int .u8 c, .int .i64 x, .int .i64 y, .int .i64 m, .int .i64 h]] w fun e w' => e = .returned (.bool (!(plB x y m h))) ∧ Below w.heap.size w w' := by
  have H := Lib.hid (placeValid_any c x y m h)
  generalize plB x y m h = b at *
  go_enter Try.func77, Try.ntmps77
  go_wp2_with fail
  refine (H.out _).mono ?_
  rintro e w1 ⟨rfl, hb1⟩
  go_wp2_with fail
  go_ret
  exact ⟨rfl, box_below hb1⟩

set_option maxRecDepth 100000 in
set_option maxHeartbeats 1000000 in
theorem clash2_any (c x y m h c' x' y' m' h' k : Int) (bp bk : Nat) (w : World) (hp : plB x y m h = true) (hq : plB x' y' m' h' = true) (hk : 0 ≤ k ∧ k ≤ 20)
    (d0 : w.cell? ⟨bp, 0, none⟩ = some (.int .u8 c)) (d1 : w.cell? ⟨bp, 1, none⟩ = some (.int .i64 x)) (d2 : w.cell? ⟨bp, 2, none⟩ = some (.int .i64 y)) (d3 : w.cell? ⟨bp, 3, none⟩ = some (.int .i64 m)) (d4 : w.cell? ⟨bp, 4, none⟩ = some (.int .i64 h)) (dk : w.cell? ⟨bk, 0, none⟩ = some (.int .i64 k)) :
    Calls Try.prog 79 #[.agg #[.int .u8 c', .int .i64 x', .int .i64 y', .int .i64 m', .int .i64 h'], .pointer (some ⟨bp, 0, none⟩), .pointer (some ⟨bk, 0, none⟩)] w fun e w' => e = .returned (.bool (!(apB x y m h x' y' m' h' k))) ∧ Below w.heap.size w w' := by
  have H := Lib.hid (fun W => apart_any c x y m h c' x' y' m' h' k W hp hq hk)
  have n0 := block_lt d0
  have n1 := block_lt dk
  have n2 : bp ≠ w.heap.size := by omega
  have n3 : bk ≠ w.heap.size := by omega
  clear hp hq hk
  generalize apB x y m h x' y' m' h' k = b at *
  go_enter Try.func79, Try.ntmps79
  go_wp2_with fail
  refine (H.out _).mono ?_
  rintro e w1 ⟨rfl, hb1⟩
  go_wp2_with fail
  go_ret
  exact ⟨rfl, box_below hb1⟩

abbrev Plc := Int × Int × Int × Int × Int
def gq (l : List Plc) (i : Nat) : Plc := l.getD i (0, 0, 0, 0, 0)
def PlaceAt (w : World) (b o : Nat) (p : Plc) : Prop := w.cell? ⟨b, o, none⟩ = some (.int .u8 p.1) ∧ w.cell? ⟨b, o + 1, none⟩ = some (.int .i64 p.2.1) ∧ w.cell? ⟨b, o + 2, none⟩ = some (.int .i64 p.2.2.1) ∧ w.cell? ⟨b, o + 3, none⟩ = some (.int .i64 p.2.2.2.1) ∧ w.cell? ⟨b, o + 4, none⟩ = some (.int .i64 p.2.2.2.2)
theorem PlaceAt.below {w w' : World} {b o : Nat} {p : Plc} (h : PlaceAt w b o p) (hb : Below w.heap.size w w') : PlaceAt w' b o p :=
  ⟨cell_below h.1 hb, cell_below h.2.1 hb, cell_below h.2.2.1 hb, cell_below h.2.2.2.1 hb, cell_below h.2.2.2.2 hb⟩
/-- A slice of places. -/
def PlacesS (w : World) (a : Option Addr) (l : List Plc) : Prop :=
  l.length ≤ 9223372036854775807 ∧ ∃ blk off, (l ≠ [] → a = some ⟨blk, off, none⟩) ∧ ∀ i, i < l.length → PlaceAt w blk (off + i * 5) (gq l i)
theorem PlacesS.below {w w' : World} {a : Option Addr} {l : List Plc} (h : PlacesS w a l) (hb : Below w.heap.size w w') : PlacesS w' a l := by
  obtain ⟨h0, blk, off, h2, h3⟩ := h
  exact ⟨h0, blk, off, h2, fun i hi => (h3 i hi).below hb⟩

set_option maxRecDepth 100000 in
set_option maxHeartbeats 1000000 in
theorem idxPl1_any (a : Option Addr) (l : List Plc) (n ca : Nat) (lb : Array Value) (p : Nat → Bool) (w : World) (hA : PlacesS w a l) (hn : n ≤ l.length)
    (hp : ∀ j W, j < n → Below w.heap.size w W → Calls Try.prog 77 (#[.agg #[.int .u8 (gq l j).1, .int .i64 (gq l j).2.1, .int .i64 (gq l j).2.2.1, .int .i64 (gq l j).2.2.2.1, .int .i64 (gq l j).2.2.2.2]] ++ lb) W fun e w' => e = .returned (.bool (p j)) ∧ Below W.heap.size W w') :
    Calls Try.prog 107 #[.slice a n ca, .func (.func 77) #[] lb] w fun e w' => e = .returned (.int .i64 (idxK p n)) ∧ Below w.heap.size w w' := by
  obtain ⟨hlen, blk, off, hadr, hc⟩ := hA
  have HP := Lib.hid hp
  have HC := Lib.hid hc
  have HH : Hid (∀ k, k < n → p k = true → (∀ j, j < k → p j = false) → idxK p n = k) := Lib.hid fun k hk h hb => idxK_hit h hb _ hk
  have HM : Hid ((∀ j, j < n → p j = false) → idxK p n = -1) := Lib.hid fun h => idxK_miss _ h
  have HL : Hid (0 < n → a = some ⟨blk, off, none⟩) := Lib.hid fun h => hadr (pos_ne (n := 0) (i := 0) (by omega))
  have hn2 : n ≤ 9223372036854775807 := by omega
  have HN0 := Lib.hid hn
  generalize idxK p n = R at *
  clear hp hc hadr hn
  go_enter Try.func107, Try.ntmps107
  go_wp2_with fail
  go_loopw [8] (fun i wr => ∃ k : Nat, k ≤ n ∧ i = .int .i64 k ∧ Below w.heap.size w wr ∧ Hid (∀ j, j < k → p j = false)) (fun i _ => n - (intOf i).toNat)
  case atStart => exact ⟨0, Nat.zero_le _, rfl, Below.refl _ _, Lib.hid fun j hj => absurd hj (Nat.not_lt_zero _)⟩
  case round =>
    obtain ⟨k, hk, rfl, hb, HA⟩ := hrel
    by_cases hlt : k < n
    · obtain rfl := HL.out (by omega)
      obtain ⟨c0, c1, c2, c3, c4⟩ := (HC.out k (by have := HN0.out; omega)).below hb
      have HK := Lib.hid (fun W => HP.out k W hlt)
      have HHk := Lib.hid (HH.out k hlt)
      have HN : Hid (p k = false → ∀ j, j < k + 1 → p j = false) := Lib.hid fun h j hj => by
        by_cases e : j = k
        · subst e; exact h
        · exact HA.out j (by omega)
      clear HP HC HM HL HH
      generalize (gq l k).1 = x0 at *
      generalize (gq l k).2.1 = x1 at *
      generalize (gq l k).2.2.1 = x2 at *
      generalize (gq l k).2.2.2.1 = x3 at *
      generalize (gq l k).2.2.2.2 = x4 at *
      cases hpk : p k with
      | true =>
        have HR := Lib.hid (HHk.out hpk HA.out)
        rw [hpk] at HK
        clear hpk HHk HN
        go_wp2_with fail
        refine (HK.out _ hb).mono ?_
        rintro e w1 ⟨rfl, hb1⟩
        go_wp2_with fail
        go_ret
        rw [HR.out]
        exact ⟨rfl, hb.trans (hb1.mono hb.size)⟩
      | false =>
        have HR := Lib.hid (HN.out hpk)
        rw [hpk] at HK
        clear hpk HHk HN
        go_wp2_with fail
        refine (HK.out _ hb).mono ?_
        rintro e w1 ⟨rfl, hb1⟩
        go_wp2_with fail
        go_roundw
        case rel => exact ⟨k + 1, by omega, by go_num, hb.trans (hb1.mono hb.size), HR⟩
        case measure => simp [intOf]; omega
    · obtain rfl : k = n := by omega
      have HR := Lib.hid (HM.out HA.out)
      go_wp2_with fail
      go_ret
      rw [HR.out]
      exact ⟨rfl, hb⟩

set_option maxRecDepth 100000 in
theorem containsPl1_any (a : Option Addr) (l : List Plc) (n ca : Nat) (lb : Array Value) (p : Nat → Bool) (w : World) (hA : PlacesS w a l) (hn : n ≤ l.length)
    (hp : ∀ j W, j < n → Below w.heap.size w W → Calls Try.prog 77 (#[.agg #[.int .u8 (gq l j).1, .int .i64 (gq l j).2.1, .int .i64 (gq l j).2.2.1, .int .i64 (gq l j).2.2.2.1, .int .i64 (gq l j).2.2.2.2]] ++ lb) W fun e w' => e = .returned (.bool (p j)) ∧ Below W.heap.size W w') :
    Calls Try.prog 76 #[.slice a n ca, .func (.func 77) #[] lb] w fun e w' => e = .returned (.bool (anyK p n)) ∧ Below w.heap.size w w' := by
  have H := Lib.hid (idxPl1_any a l n ca lb p w hA hn hp)
  have hq := Lib.hid (idxK_any p n)
  clear hp hA
  generalize idxK p n = R at *
  generalize anyK p n = B at *
  have hq := hq.out
  subst hq
  go_enter Try.func76, Try.ntmps76
  go_wp2_with fail
  refine H.out.mono ?_
  rintro e w1 ⟨rfl, hb1⟩
  go_wp2_with fail
  all_goals
    go_ret
    exact ⟨by simp_all, hb1⟩

set_option maxRecDepth 100000 in
set_option maxHeartbeats 1000000 in
theorem idxPl2_any (a : Option Addr) (l : List Plc) (n ca : Nat) (lb : Array Value) (p : Nat → Bool) (w : World) (hA : PlacesS w a l) (hn : n ≤ l.length)
    (hp : ∀ j W, j < n → Below w.heap.size w W → Calls Try.prog 79 (#[.agg #[.int .u8 (gq l j).1, .int .i64 (gq l j).2.1, .int .i64 (gq l j).2.2.1, .int .i64 (gq l j).2.2.2.1, .int .i64 (gq l j).2.2.2.2]] ++ lb) W fun e w' => e = .returned (.bool (p j)) ∧ Below W.heap.size W w') :
    Calls Try.prog 107 #[.slice a n ca, .func (.func 79) #[] lb] w fun e w' => e = .returned (.int .i64 (idxK p n)) ∧ Below w.heap.size w w' := by
  obtain ⟨hlen, blk, off, hadr, hc⟩ := hA
  have HP := Lib.hid hp
  have HC := Lib.hid hc
  have HH : Hid (∀ k, k < n → p k = true → (∀ j, j < k → p j = false) → idxK p n = k) := Lib.hid fun k hk h hb => idxK_hit h hb _ hk
  have HM : Hid ((∀ j, j < n → p j = false) → idxK p n = -1) := Lib.hid fun h => idxK_miss _ h
  have HL : Hid (0 < n → a = some ⟨blk, off, none⟩) := Lib.hid fun h => hadr (pos_ne (n := 0) (i := 0) (by omega))
  have hn2 : n ≤ 9223372036854775807 := by omega
  have HN0 := Lib.hid hn
  generalize idxK p n = R at *
  clear hp hc hadr hn
  go_enter Try.func107, Try.ntmps107
  go_wp2_with fail
  go_loopw [8] (fun i wr => ∃ k : Nat, k ≤ n ∧ i = .int .i64 k ∧ Below w.heap.size w wr ∧ Hid (∀ j, j < k → p j = false)) (fun i _ => n - (intOf i).toNat)
  case atStart => exact ⟨0, Nat.zero_le _, rfl, Below.refl _ _, Lib.hid fun j hj => absurd hj (Nat.not_lt_zero _)⟩
  case round =>
    obtain ⟨k, hk, rfl, hb, HA⟩ := hrel
    by_cases hlt : k < n
    · obtain rfl := HL.out (by omega)
      obtain ⟨c0, c1, c2, c3, c4⟩ := (HC.out k (by have := HN0.out; omega)).below hb
      have HK := Lib.hid (fun W => HP.out k W hlt)
      have HHk := Lib.hid (HH.out k hlt)
      have HN : Hid (p k = false → ∀ j, j < k + 1 → p j = false) := Lib.hid fun h j hj => by
        by_cases e : j = k
        · subst e; exact h
        · exact HA.out j (by omega)
      clear HP HC HM HL HH
      generalize (gq l k).1 = x0 at *
      generalize (gq l k).2.1 = x1 at *
      generalize (gq l k).2.2.1 = x2 at *
      generalize (gq l k).2.2.2.1 = x3 at *
      generalize (gq l k).2.2.2.2 = x4 at *
      cases hpk : p k with
      | true =>
        have HR := Lib.hid (HHk.out hpk HA.out)
        rw [hpk] at HK
        clear hpk HHk HN
        go_wp2_with fail
        refine (HK.out _ hb).mono ?_
        rintro e w1 ⟨rfl, hb1⟩
        go_wp2_with fail
        go_ret
        rw [HR.out]
        exact ⟨rfl, hb.trans (hb1.mono hb.size)⟩
      | false =>
        have HR := Lib.hid (HN.out hpk)
        rw [hpk] at HK
        clear hpk HHk HN
        go_wp2_with fail
        refine (HK.out _ hb).mono ?_
        rintro e w1 ⟨rfl, hb1⟩
        go_wp2_with fail
        go_roundw
        case rel => exact ⟨k + 1, by omega, by go_num, hb.trans (hb1.mono hb.size), HR⟩
        case measure => simp [intOf]; omega
    · obtain rfl : k = n := by omega
      have HR := Lib.hid (HM.out HA.out)
      go_wp2_with fail
      go_ret
      rw [HR.out]
      exact ⟨rfl, hb⟩

set_option maxRecDepth 100000 in
theorem containsPl2_any (a : Option Addr) (l : List Plc) (n ca : Nat) (lb : Array Value) (p : Nat → Bool) (w : World) (hA : PlacesS w a l) (hn : n ≤ l.length)
    (hp : ∀ j W, j < n → Below w.heap.size w W → Calls Try.prog 79 (#[.agg #[.int .u8 (gq l j).1, .int .i64 (gq l j).2.1, .int .i64 (gq l j).2.2.1, .int .i64 (gq l j).2.2.2.1, .int .i64 (gq l j).2.2.2.2]] ++ lb) W fun e w' => e = .returned (.bool (p j)) ∧ Below W.heap.size W w') :
    Calls Try.prog 76 #[.slice a n ca, .func (.func 79) #[] lb] w fun e w' => e = .returned (.bool (anyK p n)) ∧ Below w.heap.size w w' := by
  have H := Lib.hid (idxPl2_any a l n ca lb p w hA hn hp)
  have hq := Lib.hid (idxK_any p n)
  clear hp hA
  generalize idxK p n = R at *
  generalize anyK p n = B at *
  have hq := hq.out
  subst hq
  go_enter Try.func76, Try.ntmps76
  go_wp2_with fail
  refine H.out.mono ?_
  rintro e w1 ⟨rfl, hb1⟩
  go_wp2_with fail
  all_goals
    go_ret
    exact ⟨by simp_all, hb1⟩
end Go.Proofs.Ytkmonaeajejamaa
