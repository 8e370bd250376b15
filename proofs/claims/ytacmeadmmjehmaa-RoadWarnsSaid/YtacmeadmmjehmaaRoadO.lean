/-
  The reference's Warn. By an AI agent.
-/
import Derived.Test.YtacmeadmmjehmaaRoadN
namespace Go.Proofs.Ytacmeadmmjehmaa
set_option linter.unusedVariables false
set_option linter.unusedSimpArgs false
open Go.RowKit

set_option maxRecDepth 100000 in
set_option maxHeartbeats 1000000 in
theorem refWarn_up (d s : Int) (w : World) (hd : 0 ≤ d ∧ d ≤ 10000000) (hs : 10 ≤ s ∧ s ≤ 200) :
    Calls Try.prog 41 #[.int .i64 d, .int .i64 1, .int .i64 s] w fun e w' => e = .returned (.tuple #[.agg #[.int .i64 (wnV d 1 s).1, .int .i64 (wnV d 1 s).2], .int .i64 0]) ∧ Below w.heap.size w w' := by
  have H1 := Lib.hid (btw_t hd.1 hd.2)
  have H2 := Lib.hid (btw_t hs.1 hs.2)
  obtain ⟨d0, d1⟩ := hd
  clear hs
  rcases lstV_c s with ⟨h1, hl⟩ | ⟨h1, h2, hl⟩ | ⟨h1, hl⟩
  · have hv : wnV d 1 s = if d - 50 < 0 then (0, 0) else (max (d - 50 - 100) 0, d - 50 + 1) := by unfold wnV; rw [if_neg (by decide), hl]
    by_cases hx : d - 50 < 0
    · rw [if_pos hx] at hv
      rw [hv]
      clear hv hl
      have hy : max 0 (d - 50 - 100) = 0 := by omega
      have hxx : d - 50 + 1 ≤ 0 := by omega
      go_enter Try.func41, Try.ntmps41
      go_wp2_with (first | (go_at_call 70; refine (dirn_1 _).mono ?_; rintro e w' ⟨rfl, rfl⟩) | (go_at_call 53; refine (from_any _ _ _ _).mono ?_; rintro e w' ⟨rfl, rfl⟩; first | rw [H1.out] | rw [H2.out]))
      exact bodyPost_ret (v := .tuple #[.agg #[.int .i64 (0), .int .i64 (0)], .int .i64 0]) (by simp [results, Try.results41, go_sem]) rfl ⟨rfl, by repeat (first | exact Below.refl _ _ | refine Below.setCell ?_ (by simp) _ | refine Below.alloc ?_ (by first | exact Nat.le_refl _ | (simp; done) | (simp; omega)) _)⟩

    · rw [if_neg hx] at hv
      rw [hv]
      clear hv hl
      by_cases hy : d - 50 - 100 < 0
      · have hm : max (d - 50 - 100) 0 = 0 := by omega
        have hxx : ¬ d - 50 + 1 ≤ 0 := by omega
        rw [hm]
        clear hm
        go_enter Try.func41, Try.ntmps41
        go_wp2_with (first | (go_at_call 70; refine (dirn_1 _).mono ?_; rintro e w' ⟨rfl, rfl⟩) | (go_at_call 53; refine (from_any _ _ _ _).mono ?_; rintro e w' ⟨rfl, rfl⟩; first | rw [H1.out] | rw [H2.out]))
        exact bodyPost_ret (v := .tuple #[.agg #[.int .i64 (0), .int .i64 (d - 50 + 1)], .int .i64 0]) (by simp [results, Try.results41, go_sem]) rfl ⟨rfl, by repeat (first | exact Below.refl _ _ | refine Below.setCell ?_ (by simp) _ | refine Below.alloc ?_ (by first | exact Nat.le_refl _ | (simp; done) | (simp; omega)) _)⟩

      · have hm : max (d - 50 - 100) 0 = d - 50 - 100 := by omega
        rw [hm]
        clear hm
        by_cases hyy : 0 < d - 50 - 100
        · 
          go_enter Try.func41, Try.ntmps41
          go_wp2_with (first | (go_at_call 70; refine (dirn_1 _).mono ?_; rintro e w' ⟨rfl, rfl⟩) | (go_at_call 53; refine (from_any _ _ _ _).mono ?_; rintro e w' ⟨rfl, rfl⟩; first | rw [H1.out] | rw [H2.out]))
          exact bodyPost_ret (v := .tuple #[.agg #[.int .i64 (d - 50 - 100), .int .i64 (d - 50 + 1)], .int .i64 0]) (by simp [results, Try.results41, go_sem]) rfl ⟨rfl, by repeat (first | exact Below.refl _ _ | refine Below.setCell ?_ (by simp) _ | refine Below.alloc ?_ (by first | exact Nat.le_refl _ | (simp; done) | (simp; omega)) _)⟩

        · obtain rfl : d = 150 := by omega
          clear hx hy hyy
          go_enter Try.func41, Try.ntmps41
          go_wp2_with (first | (go_at_call 70; refine (dirn_1 _).mono ?_; rintro e w' ⟨rfl, rfl⟩) | (go_at_call 53; refine (from_any _ _ _ _).mono ?_; rintro e w' ⟨rfl, rfl⟩; first | rw [H1.out] | rw [H2.out]))
          exact bodyPost_ret (v := .tuple #[.agg #[.int .i64 (0), .int .i64 (101)], .int .i64 0]) (by simp [results, Try.results41, go_sem]) rfl ⟨rfl, by repeat (first | exact Below.refl _ _ | refine Below.setCell ?_ (by simp) _ | refine Below.alloc ?_ (by first | exact Nat.le_refl _ | (simp; done) | (simp; omega)) _)⟩

  · have hv : wnV d 1 s = if d - 150 < 0 then (0, 0) else (max (d - 150 - 100) 0, d - 150 + 1) := by unfold wnV; rw [if_neg (by decide), hl]
    by_cases hx : d - 150 < 0
    · rw [if_pos hx] at hv
      rw [hv]
      clear hv hl
      have hy : max 0 (d - 150 - 100) = 0 := by omega
      have hxx : d - 150 + 1 ≤ 0 := by omega
      go_enter Try.func41, Try.ntmps41
      go_wp2_with (first | (go_at_call 70; refine (dirn_1 _).mono ?_; rintro e w' ⟨rfl, rfl⟩) | (go_at_call 53; refine (from_any _ _ _ _).mono ?_; rintro e w' ⟨rfl, rfl⟩; first | rw [H1.out] | rw [H2.out]))
      exact bodyPost_ret (v := .tuple #[.agg #[.int .i64 (0), .int .i64 (0)], .int .i64 0]) (by simp [results, Try.results41, go_sem]) rfl ⟨rfl, by repeat (first | exact Below.refl _ _ | refine Below.setCell ?_ (by simp) _ | refine Below.alloc ?_ (by first | exact Nat.le_refl _ | (simp; done) | (simp; omega)) _)⟩

    · rw [if_neg hx] at hv
      rw [hv]
      clear hv hl
      by_cases hy : d - 150 - 100 < 0
      · have hm : max (d - 150 - 100) 0 = 0 := by omega
        have hxx : ¬ d - 150 + 1 ≤ 0 := by omega
        rw [hm]
        clear hm
        go_enter Try.func41, Try.ntmps41
        go_wp2_with (first | (go_at_call 70; refine (dirn_1 _).mono ?_; rintro e w' ⟨rfl, rfl⟩) | (go_at_call 53; refine (from_any _ _ _ _).mono ?_; rintro e w' ⟨rfl, rfl⟩; first | rw [H1.out] | rw [H2.out]))
        exact bodyPost_ret (v := .tuple #[.agg #[.int .i64 (0), .int .i64 (d - 150 + 1)], .int .i64 0]) (by simp [results, Try.results41, go_sem]) rfl ⟨rfl, by repeat (first | exact Below.refl _ _ | refine Below.setCell ?_ (by simp) _ | refine Below.alloc ?_ (by first | exact Nat.le_refl _ | (simp; done) | (simp; omega)) _)⟩

      · have hm : max (d - 150 - 100) 0 = d - 150 - 100 := by omega
        rw [hm]
        clear hm
        by_cases hyy : 0 < d - 150 - 100
        · 
          go_enter Try.func41, Try.ntmps41
          go_wp2_with (first | (go_at_call 70; refine (dirn_1 _).mono ?_; rintro e w' ⟨rfl, rfl⟩) | (go_at_call 53; refine (from_any _ _ _ _).mono ?_; rintro e w' ⟨rfl, rfl⟩; first | rw [H1.out] | rw [H2.out]))
          exact bodyPost_ret (v := .tuple #[.agg #[.int .i64 (d - 150 - 100), .int .i64 (d - 150 + 1)], .int .i64 0]) (by simp [results, Try.results41, go_sem]) rfl ⟨rfl, by repeat (first | exact Below.refl _ _ | refine Below.setCell ?_ (by simp) _ | refine Below.alloc ?_ (by first | exact Nat.le_refl _ | (simp; done) | (simp; omega)) _)⟩

        · obtain rfl : d = 250 := by omega
          clear hx hy hyy
          go_enter Try.func41, Try.ntmps41
          go_wp2_with (first | (go_at_call 70; refine (dirn_1 _).mono ?_; rintro e w' ⟨rfl, rfl⟩) | (go_at_call 53; refine (from_any _ _ _ _).mono ?_; rintro e w' ⟨rfl, rfl⟩; first | rw [H1.out] | rw [H2.out]))
          exact bodyPost_ret (v := .tuple #[.agg #[.int .i64 (0), .int .i64 (101)], .int .i64 0]) (by simp [results, Try.results41, go_sem]) rfl ⟨rfl, by repeat (first | exact Below.refl _ _ | refine Below.setCell ?_ (by simp) _ | refine Below.alloc ?_ (by first | exact Nat.le_refl _ | (simp; done) | (simp; omega)) _)⟩

  · have hv : wnV d 1 s = if d - 250 < 0 then (0, 0) else (max (d - 250 - 100) 0, d - 250 + 1) := by unfold wnV; rw [if_neg (by decide), hl]
    by_cases hx : d - 250 < 0
    · rw [if_pos hx] at hv
      rw [hv]
      clear hv hl
      have hy : max 0 (d - 250 - 100) = 0 := by omega
      have hxx : d - 250 + 1 ≤ 0 := by omega
      go_enter Try.func41, Try.ntmps41
      go_wp2_with (first | (go_at_call 70; refine (dirn_1 _).mono ?_; rintro e w' ⟨rfl, rfl⟩) | (go_at_call 53; refine (from_any _ _ _ _).mono ?_; rintro e w' ⟨rfl, rfl⟩; first | rw [H1.out] | rw [H2.out]))
      exact bodyPost_ret (v := .tuple #[.agg #[.int .i64 (0), .int .i64 (0)], .int .i64 0]) (by simp [results, Try.results41, go_sem]) rfl ⟨rfl, by repeat (first | exact Below.refl _ _ | refine Below.setCell ?_ (by simp) _ | refine Below.alloc ?_ (by first | exact Nat.le_refl _ | (simp; done) | (simp; omega)) _)⟩

    · rw [if_neg hx] at hv
      rw [hv]
      clear hv hl
      by_cases hy : d - 250 - 100 < 0
      · have hm : max (d - 250 - 100) 0 = 0 := by omega
        have hxx : ¬ d - 250 + 1 ≤ 0 := by omega
        rw [hm]
        clear hm
        go_enter Try.func41, Try.ntmps41
        go_wp2_with (first | (go_at_call 70; refine (dirn_1 _).mono ?_; rintro e w' ⟨rfl, rfl⟩) | (go_at_call 53; refine (from_any _ _ _ _).mono ?_; rintro e w' ⟨rfl, rfl⟩; first | rw [H1.out] | rw [H2.out]))
        exact bodyPost_ret (v := .tuple #[.agg #[.int .i64 (0), .int .i64 (d - 250 + 1)], .int .i64 0]) (by simp [results, Try.results41, go_sem]) rfl ⟨rfl, by repeat (first | exact Below.refl _ _ | refine Below.setCell ?_ (by simp) _ | refine Below.alloc ?_ (by first | exact Nat.le_refl _ | (simp; done) | (simp; omega)) _)⟩

      · have hm : max (d - 250 - 100) 0 = d - 250 - 100 := by omega
        rw [hm]
        clear hm
        by_cases hyy : 0 < d - 250 - 100
        · 
          go_enter Try.func41, Try.ntmps41
          go_wp2_with (first | (go_at_call 70; refine (dirn_1 _).mono ?_; rintro e w' ⟨rfl, rfl⟩) | (go_at_call 53; refine (from_any _ _ _ _).mono ?_; rintro e w' ⟨rfl, rfl⟩; first | rw [H1.out] | rw [H2.out]))
          exact bodyPost_ret (v := .tuple #[.agg #[.int .i64 (d - 250 - 100), .int .i64 (d - 250 + 1)], .int .i64 0]) (by simp [results, Try.results41, go_sem]) rfl ⟨rfl, by repeat (first | exact Below.refl _ _ | refine Below.setCell ?_ (by simp) _ | refine Below.alloc ?_ (by first | exact Nat.le_refl _ | (simp; done) | (simp; omega)) _)⟩

        · obtain rfl : d = 350 := by omega
          clear hx hy hyy
          go_enter Try.func41, Try.ntmps41
          go_wp2_with (first | (go_at_call 70; refine (dirn_1 _).mono ?_; rintro e w' ⟨rfl, rfl⟩) | (go_at_call 53; refine (from_any _ _ _ _).mono ?_; rintro e w' ⟨rfl, rfl⟩; first | rw [H1.out] | rw [H2.out]))
          exact bodyPost_ret (v := .tuple #[.agg #[.int .i64 (0), .int .i64 (101)], .int .i64 0]) (by simp [results, Try.results41, go_sem]) rfl ⟨rfl, by repeat (first | exact Below.refl _ _ | refine Below.setCell ?_ (by simp) _ | refine Below.alloc ?_ (by first | exact Nat.le_refl _ | (simp; done) | (simp; omega)) _)⟩

set_option maxRecDepth 100000 in
theorem refWarn_f1 (d s : Int) (w : World) (h : ¬ ((0 ≤ d ∧ d ≤ 10000000) ∧ 10 ≤ s ∧ s ≤ 200)) :
    Calls Try.prog 41 #[.int .i64 d, .int .i64 1, .int .i64 s] w fun e w' => e = .returned (.tuple #[.agg #[.int .i64 0, .int .i64 0], .int .i64 2]) ∧ Below w.heap.size w w' := by
  by_cases hd : 0 ≤ d ∧ d ≤ 10000000
  · have H1 := Lib.hid (btw_t hd.1 hd.2)
    have H2 := Lib.hid (btw_f (n := s) (a := 10) (b := 200) fun hs => h ⟨hd, hs⟩)
    clear h hd
    go_enter Try.func41, Try.ntmps41
    go_wp2_with (first | (go_at_call 70; refine (dirn_1 _).mono ?_; rintro e w' ⟨rfl, rfl⟩) | (go_at_call 53; refine (from_any _ _ _ _).mono ?_; rintro e w' ⟨rfl, rfl⟩; first | rw [H1.out] | rw [H2.out]))
    exact bodyPost_ret (v := .tuple #[.agg #[.int .i64 (0), .int .i64 (0)], .int .i64 2]) (by simp [results, Try.results41, go_sem]) rfl ⟨rfl, by repeat (first | exact Below.refl _ _ | refine Below.setCell ?_ (by simp) _ | refine Below.alloc ?_ (by first | exact Nat.le_refl _ | (simp; done) | (simp; omega)) _)⟩

  · have H1 := Lib.hid (btw_f hd)
    have H2 := H1
    clear h hd
    go_enter Try.func41, Try.ntmps41
    go_wp2_with (first | (go_at_call 70; refine (dirn_1 _).mono ?_; rintro e w' ⟨rfl, rfl⟩) | (go_at_call 53; refine (from_any _ _ _ _).mono ?_; rintro e w' ⟨rfl, rfl⟩; first | rw [H1.out] | rw [H2.out]))
    exact bodyPost_ret (v := .tuple #[.agg #[.int .i64 (0), .int .i64 (0)], .int .i64 2]) (by simp [results, Try.results41, go_sem]) rfl ⟨rfl, by repeat (first | exact Below.refl _ _ | refine Below.setCell ?_ (by simp) _ | refine Below.alloc ?_ (by first | exact Nat.le_refl _ | (simp; done) | (simp; omega)) _)⟩

set_option maxRecDepth 100000 in
set_option maxHeartbeats 1000000 in
theorem refWarn_dn (d s : Int) (w : World) (hd : 0 ≤ d ∧ d ≤ 10000000) (hs : 10 ≤ s ∧ s ≤ 200) :
    Calls Try.prog 41 #[.int .i64 d, .int .i64 (-1), .int .i64 s] w fun e w' => e = .returned (.tuple #[.agg #[.int .i64 (wnV d (-1) s).1, .int .i64 (wnV d (-1) s).2], .int .i64 0]) ∧ Below w.heap.size w w' := by
  have H1 := Lib.hid (btw_t hd.1 hd.2)
  have H2 := Lib.hid (btw_t hs.1 hs.2)
  obtain ⟨d0, d1⟩ := hd
  clear hs
  rcases lstV_c s with ⟨h1, hl⟩ | ⟨h1, h2, hl⟩ | ⟨h1, hl⟩
  · have hv : wnV d (-1) s = (d + 50, d + 50 + 101) := by unfold wnV; rw [if_pos rfl, hl]
    rw [hv]
    clear hv hl
    go_enter Try.func41, Try.ntmps41
    go_wp2_with (first | (go_at_call 70; refine (dirn_m _).mono ?_; rintro e w' ⟨rfl, rfl⟩) | (go_at_call 53; refine (from_any _ _ _ _).mono ?_; rintro e w' ⟨rfl, rfl⟩; first | rw [H1.out] | rw [H2.out]))
    exact bodyPost_ret (v := .tuple #[.agg #[.int .i64 (d + 50), .int .i64 (d + 50 + 101)], .int .i64 0]) (by simp [results, Try.results41, go_sem]) rfl ⟨rfl, by repeat (first | exact Below.refl _ _ | refine Below.setCell ?_ (by simp) _ | refine Below.alloc ?_ (by first | exact Nat.le_refl _ | (simp; done) | (simp; omega)) _)⟩

  · have hv : wnV d (-1) s = (d + 150, d + 150 + 101) := by unfold wnV; rw [if_pos rfl, hl]
    rw [hv]
    clear hv hl
    go_enter Try.func41, Try.ntmps41
    go_wp2_with (first | (go_at_call 70; refine (dirn_m _).mono ?_; rintro e w' ⟨rfl, rfl⟩) | (go_at_call 53; refine (from_any _ _ _ _).mono ?_; rintro e w' ⟨rfl, rfl⟩; first | rw [H1.out] | rw [H2.out]))
    exact bodyPost_ret (v := .tuple #[.agg #[.int .i64 (d + 150), .int .i64 (d + 150 + 101)], .int .i64 0]) (by simp [results, Try.results41, go_sem]) rfl ⟨rfl, by repeat (first | exact Below.refl _ _ | refine Below.setCell ?_ (by simp) _ | refine Below.alloc ?_ (by first | exact Nat.le_refl _ | (simp; done) | (simp; omega)) _)⟩

  · have hv : wnV d (-1) s = (d + 250, d + 250 + 101) := by unfold wnV; rw [if_pos rfl, hl]
    rw [hv]
    clear hv hl
    go_enter Try.func41, Try.ntmps41
    go_wp2_with (first | (go_at_call 70; refine (dirn_m _).mono ?_; rintro e w' ⟨rfl, rfl⟩) | (go_at_call 53; refine (from_any _ _ _ _).mono ?_; rintro e w' ⟨rfl, rfl⟩; first | rw [H1.out] | rw [H2.out]))
    exact bodyPost_ret (v := .tuple #[.agg #[.int .i64 (d + 250), .int .i64 (d + 250 + 101)], .int .i64 0]) (by simp [results, Try.results41, go_sem]) rfl ⟨rfl, by repeat (first | exact Below.refl _ _ | refine Below.setCell ?_ (by simp) _ | refine Below.alloc ?_ (by first | exact Nat.le_refl _ | (simp; done) | (simp; omega)) _)⟩

set_option maxRecDepth 100000 in
theorem refWarn_fm (d s : Int) (w : World) (h : ¬ ((0 ≤ d ∧ d ≤ 10000000) ∧ 10 ≤ s ∧ s ≤ 200)) :
    Calls Try.prog 41 #[.int .i64 d, .int .i64 (-1), .int .i64 s] w fun e w' => e = .returned (.tuple #[.agg #[.int .i64 0, .int .i64 0], .int .i64 2]) ∧ Below w.heap.size w w' := by
  by_cases hd : 0 ≤ d ∧ d ≤ 10000000
  · have H1 := Lib.hid (btw_t hd.1 hd.2)
    have H2 := Lib.hid (btw_f (n := s) (a := 10) (b := 200) fun hs => h ⟨hd, hs⟩)
    clear h hd
    go_enter Try.func41, Try.ntmps41
    go_wp2_with (first | (go_at_call 70; refine (dirn_m _).mono ?_; rintro e w' ⟨rfl, rfl⟩) | (go_at_call 53; refine (from_any _ _ _ _).mono ?_; rintro e w' ⟨rfl, rfl⟩; first | rw [H1.out] | rw [H2.out]))
    exact bodyPost_ret (v := .tuple #[.agg #[.int .i64 (0), .int .i64 (0)], .int .i64 2]) (by simp [results, Try.results41, go_sem]) rfl ⟨rfl, by repeat (first | exact Below.refl _ _ | refine Below.setCell ?_ (by simp) _ | refine Below.alloc ?_ (by first | exact Nat.le_refl _ | (simp; done) | (simp; omega)) _)⟩

  · have H1 := Lib.hid (btw_f hd)
    have H2 := H1
    clear h hd
    go_enter Try.func41, Try.ntmps41
    go_wp2_with (first | (go_at_call 70; refine (dirn_m _).mono ?_; rintro e w' ⟨rfl, rfl⟩) | (go_at_call 53; refine (from_any _ _ _ _).mono ?_; rintro e w' ⟨rfl, rfl⟩; first | rw [H1.out] | rw [H2.out]))
    exact bodyPost_ret (v := .tuple #[.agg #[.int .i64 (0), .int .i64 (0)], .int .i64 2]) (by simp [results, Try.results41, go_sem]) rfl ⟨rfl, by repeat (first | exact Below.refl _ _ | refine Below.setCell ?_ (by simp) _ | refine Below.alloc ?_ (by first | exact Nat.le_refl _ | (simp; done) | (simp; omega)) _)⟩

theorem refWarn_no (d k s : Int) (w : World) (h1 : k ≠ 1) (h2 : k ≠ -1) :
    Calls Try.prog 41 #[.int .i64 d, .int .i64 k, .int .i64 s] w fun e w' => e = .returned (.tuple #[.agg #[.int .i64 0, .int .i64 0], .int .i64 2]) ∧ Below w.heap.size w w' := by
  have HD := Lib.hid (fun W => dirn_no k h1 h2 W)
  clear h1 h2
  go_enter Try.func41, Try.ntmps41
  go_wp2_with (go_at_call 70; refine (HD.out _).mono ?_; rintro e w' ⟨rfl, rfl⟩)
  exact bodyPost_ret (v := .tuple #[.agg #[.int .i64 (0), .int .i64 (0)], .int .i64 2]) (by simp [results, Try.results41, go_sem]) rfl ⟨rfl, by repeat (first | exact Below.refl _ _ | refine Below.setCell ?_ (by simp) _ | refine Below.alloc ?_ (by first | exact Nat.le_refl _ | (simp; done) | (simp; omega)) _)⟩

end Go.Proofs.Ytacmeadmmjehmaa
