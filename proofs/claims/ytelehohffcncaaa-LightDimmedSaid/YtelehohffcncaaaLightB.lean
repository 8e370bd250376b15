/-
  The walks of Aged, of its callees, and of its reference. By an AI agent.
-/
import Derived.Test.YtelehohffcncaaaLightA
namespace Go.Proofs.Ytelehohffcncaaa
set_option linter.unusedVariables false
set_option linter.unusedSimpArgs false
open Go.RowKit

theorem coefValid_any (r : Int) (w : World) : Calls Try.prog 31 #[.int .i64 r] w fun e w' => e = .returned (.bool (btw r 0 100000)) ∧ w = w' := by
  go_enter Try.func31, Try.ntmps31
  go_wp2_with (go_at_call 28; refine (between_any _ _ _ _).mono ?_; rintro e w' ⟨rfl, rfl⟩)
  go_ret
  exact ⟨rfl, rfl⟩
def ageB (keep years : Int) : Bool := btw keep 0 1000 && btw years 0 300
theorem ageingValid_any (keep years : Int) (w : World) : Calls Try.prog 19 #[.int .i64 keep, .int .i64 years] w fun e w' => e = .returned (.bool (ageB keep years)) ∧ w = w' := by
  unfold ageB
  by_cases h : btw keep 0 1000 = true
  · rw [h]
    have H := Lib.hid h
    clear h
    go_enter Try.func19, Try.ntmps19
    go_wp2_with (go_at_call 28; refine (between_any _ _ _ _).mono ?_; rintro e w' ⟨rfl, rfl⟩; first | rw [H.out] | skip)
    go_ret
    exact ⟨rfl, rfl⟩
  · have h : btw keep 0 1000 = false := by simpa using h
    rw [h]
    have H := Lib.hid h
    clear h
    go_enter Try.func19, Try.ntmps19
    go_wp2_with (go_at_call 28; refine (between_any _ _ _ _).mono ?_; rintro e w' ⟨rfl, rfl⟩; first | rw [H.out] | skip)
    go_ret
    exact ⟨rfl, rfl⟩
theorem afterYear_any (r keep : Int) (w : World) (h0 : 0 ≤ r) (h1 : r ≤ 100000) (k0 : 0 ≤ keep) (k1 : keep ≤ 1000) : Calls Try.prog 33 #[.int .i64 r, .int .i64 keep] w fun e w' => e = .returned (.int .i64 (r * keep / 1000)) ∧ w = w' := by
  have p := prod_bd h0 h1 k0 k1
  obtain ⟨q, hq⟩ : ∃ q, r * keep = q := ⟨_, rfl⟩
  rw [hq] at p
  obtain ⟨p0, p1⟩ := p
  rw [hq]
  go_enter Try.func33, Try.ntmps33
  go_wp2
  go_ret
  exact ⟨rfl, rfl⟩
theorem afterYears_any (r keep : Int) (n : Nat) (w : World) (h0 : 0 ≤ r) (h1 : r ≤ 100000) (k0 : 0 ≤ keep) (k1 : keep ≤ 1000) (hn : n ≤ 300) : Calls Try.prog 21 #[.int .i64 r, .int .i64 keep, .int .i64 n] w fun e w' => e = .returned (.int .i64 (agV r keep n)) ∧ w = w' := by
  go_enter Try.func21, Try.ntmps21
  go_wp2
  go_loop [0, 8] (fun x i => ∃ k : Nat, k ≤ n ∧ i = .int .i64 k ∧ x = .int .i64 (agV r keep k)) (fun _ i => n - (intOf i).toNat)
  case atStart => exact ⟨0, Nat.zero_le _, rfl, rfl⟩
  case round =>
    obtain ⟨k, hk, rfl, rfl⟩ := hrel
    obtain ⟨b0, b1⟩ := agV_bd h0 h1 k0 k1 k
    by_cases hlt : k < n
    · go_wp2_with (go_at_call 33; refine (afterYear_any _ _ _ b0 b1 k0 k1).mono ?_; rintro e w' ⟨rfl, rfl⟩)
      go_round
      case rel => exact ⟨k + 1, by omega, by go_num, rfl⟩
      case measure => simp [intOf]; omega
    · obtain rfl : k = n := by omega
      go_wp2
      go_ret
      exact ⟨rfl, rfl⟩

/-- What Aged answers. -/
def agedB (r keep years : Int) : Bool := btw r 0 100000 && ageB keep years
def agedV (r keep years : Int) : Int := if agedB r keep years then agV r keep years.toNat else 0
def agedE (r keep years : Int) : Int := if agedB r keep years then 0 else 2
theorem agedB_iff (r keep years : Int) : agedB r keep years = true ↔ (0 ≤ r ∧ r ≤ 100000) ∧ (0 ≤ keep ∧ keep ≤ 1000) ∧ 0 ≤ years ∧ years ≤ 300 := by
  unfold agedB ageB; rw [Bool.and_eq_true, Bool.and_eq_true, btw_iff, btw_iff, btw_iff]
theorem aged_any (r keep years : Int) (w : World) : Calls Try.prog 17 #[.int .i64 r, .int .i64 keep, .int .i64 years] w fun e w' => e = .returned (.tuple #[.int .i64 (agedV r keep years), .int .i64 (agedE r keep years)]) ∧ w = w' := by
  by_cases h1 : btw r 0 100000 = true
  · have H1 := Lib.hid h1
    by_cases h2 : ageB keep years = true
    · have H2 := Lib.hid h2
      have hb : agedB r keep years = true := by unfold agedB; rw [h1, h2]; rfl
      obtain ⟨⟨r0, r1⟩, ⟨k0, k1⟩, y0, y1⟩ := (agedB_iff _ _ _).1 hb
      have e1 : agedV r keep years = agV r keep years.toNat := by unfold agedV; rw [if_pos hb]
      have e2 : agedE r keep years = 0 := by unfold agedE; rw [if_pos hb]
      rw [e1, e2]
      obtain ⟨n, rfl⟩ : ∃ n : Nat, years = n := ⟨years.toNat, by omega⟩
      have hn : n ≤ 300 := by omega
      rw [Int.toNat_natCast]
      clear e1 e2 hb h1 h2
      go_enter Try.func17, Try.ntmps17
      go_wp2_with (first | (go_at_call 31; refine (coefValid_any _ _).mono ?_; rintro e w' ⟨rfl, rfl⟩; rw [H1.out]) | (go_at_call 19; refine (ageingValid_any _ _ _).mono ?_; rintro e w' ⟨rfl, rfl⟩; rw [H2.out]) | (go_at_call 21; refine (afterYears_any _ _ n _ r0 r1 k0 k1 hn).mono ?_; rintro e w' ⟨rfl, rfl⟩))
      go_ret2
      exact ⟨rfl, rfl⟩
    · have h2 : ageB keep years = false := by simpa using h2
      have H2 := Lib.hid h2
      have hb : agedB r keep years = false := by unfold agedB; rw [h1, h2]; rfl
      have e1 : agedV r keep years = 0 := by unfold agedV; rw [hb]; rfl
      have e2 : agedE r keep years = 2 := by unfold agedE; rw [hb]; rfl
      rw [e1, e2]
      clear e1 e2 hb h1 h2
      go_enter Try.func17, Try.ntmps17
      go_wp2_with (first | (go_at_call 31; refine (coefValid_any _ _).mono ?_; rintro e w' ⟨rfl, rfl⟩; rw [H1.out]) | (go_at_call 19; refine (ageingValid_any _ _ _).mono ?_; rintro e w' ⟨rfl, rfl⟩; rw [H2.out]))
      go_ret2
      exact ⟨rfl, rfl⟩
  · have h1 : btw r 0 100000 = false := by simpa using h1
    have H1 := Lib.hid h1
    have hb : agedB r keep years = false := by unfold agedB; rw [h1]; rfl
    have e1 : agedV r keep years = 0 := by unfold agedV; rw [hb]; rfl
    have e2 : agedE r keep years = 2 := by unfold agedE; rw [hb]; rfl
    rw [e1, e2]
    clear e1 e2 hb h1
    go_enter Try.func17, Try.ntmps17
    go_wp2_with (first | (go_at_call 31; refine (coefValid_any _ _).mono ?_; rintro e w' ⟨rfl, rfl⟩; rw [H1.out]))
    go_ret2
    exact ⟨rfl, rfl⟩
theorem refAged_any (r keep years : Int) (w : World) : Calls Try.prog 22 #[.int .i64 r, .int .i64 keep, .int .i64 years] w fun e w' => e = .returned (.tuple #[.int .i64 (agedV r keep years), .int .i64 (agedE r keep years)]) ∧ w = w' := by
  by_cases h1 : btw r 0 100000 = true
  · have H1 := Lib.hid h1
    by_cases h2 : btw keep 0 1000 = true
    · have H2 := Lib.hid h2
      by_cases h3 : btw years 0 300 = true
      · have H3 := Lib.hid h3
        have hb : agedB r keep years = true := by unfold agedB ageB; rw [h1, h2, h3]; rfl
        obtain ⟨⟨r0, r1⟩, ⟨k0, k1⟩, y0, y1⟩ := (agedB_iff _ _ _).1 hb
        have e1 : agedV r keep years = agV r keep years.toNat := by unfold agedV; rw [if_pos hb]
        have e2 : agedE r keep years = 0 := by unfold agedE; rw [if_pos hb]
        rw [e1, e2]
        obtain ⟨n, rfl⟩ : ∃ n : Nat, years = n := ⟨years.toNat, by omega⟩
        have hn : n ≤ 300 := by omega
        rw [Int.toNat_natCast]
        clear e1 e2 hb h1 h2 h3
        go_enter Try.func22, Try.ntmps22
        go_wp2_with (first | (go_at_call 25; refine (within_any _ _ _ _).mono ?_; rintro e w' ⟨rfl, rfl⟩; first | rw [H1.out] | rw [H2.out] | rw [H3.out]))
        go_loop [0, 8] (fun x i => ∃ k : Nat, k ≤ n ∧ i = .int .i64 k ∧ x = .int .i64 (agV r keep k)) (fun _ i => n - (intOf i).toNat)
        case atStart => exact ⟨0, Nat.zero_le _, rfl, rfl⟩
        case round =>
          obtain ⟨k, hk, rfl, rfl⟩ := hrel
          have p := prod_bd (agV_bd r0 r1 k0 k1 k).1 (agV_bd r0 r1 k0 k1 k).2 k0 k1
          have HS : Hid (agV r keep (k + 1) = agV r keep k * keep / 1000) := Lib.hid rfl
          obtain ⟨q, hq⟩ : ∃ q, agV r keep k * keep = q := ⟨_, rfl⟩
          rw [hq] at p HS
          obtain ⟨p0, p1⟩ := p
          by_cases hlt : k < n
          · go_wp2
            go_round
            case rel => exact ⟨k + 1, by omega, by go_num, by rw [HS.out]⟩
            case measure => simp [intOf]; omega
          · obtain rfl : k = n := by omega
            clear hq
            go_wp2
            go_ret2
            exact ⟨rfl, rfl⟩
      · have h3 : btw years 0 300 = false := by simpa using h3
        have H3 := Lib.hid h3
        have hb : agedB r keep years = false := by unfold agedB ageB; rw [h1, h2, h3]; rfl
        have e1 : agedV r keep years = 0 := by unfold agedV; rw [hb]; rfl
        have e2 : agedE r keep years = 2 := by unfold agedE; rw [hb]; rfl
        rw [e1, e2]
        clear e1 e2 hb h1 h2 h3
        go_enter Try.func22, Try.ntmps22
        go_wp2_with (first | (go_at_call 25; refine (within_any _ _ _ _).mono ?_; rintro e w' ⟨rfl, rfl⟩; first | rw [H1.out] | rw [H2.out] | rw [H3.out]))
        go_ret2
        exact ⟨rfl, rfl⟩
    · have h2 : btw keep 0 1000 = false := by simpa using h2
      have H2 := Lib.hid h2
      have hb : agedB r keep years = false := by unfold agedB ageB; rw [h1, h2]; rfl
      have e1 : agedV r keep years = 0 := by unfold agedV; rw [hb]; rfl
      have e2 : agedE r keep years = 2 := by unfold agedE; rw [hb]; rfl
      rw [e1, e2]
      clear e1 e2 hb h1 h2
      go_enter Try.func22, Try.ntmps22
      go_wp2_with (first | (go_at_call 25; refine (within_any _ _ _ _).mono ?_; rintro e w' ⟨rfl, rfl⟩; first | rw [H1.out] | rw [H2.out]))
      go_ret2
      exact ⟨rfl, rfl⟩
  · have h1 : btw r 0 100000 = false := by simpa using h1
    have H1 := Lib.hid h1
    have hb : agedB r keep years = false := by unfold agedB; rw [h1]; rfl
    have e1 : agedV r keep years = 0 := by unfold agedV; rw [hb]; rfl
    have e2 : agedE r keep years = 2 := by unfold agedE; rw [hb]; rfl
    rw [e1, e2]
    clear e1 e2 hb h1
    go_enter Try.func22, Try.ntmps22
    go_wp2_with (first | (go_at_call 25; refine (within_any _ _ _ _).mono ?_; rintro e w' ⟨rfl, rfl⟩; first | rw [H1.out]))
    go_ret2
    exact ⟨rfl, rfl⟩
end Go.Proofs.Ytelehohffcncaaa
