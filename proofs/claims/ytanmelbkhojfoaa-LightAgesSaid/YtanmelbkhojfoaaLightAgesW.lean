/-
  The walk of the law LightAges: it answers true. By an AI agent.
-/
import Derived.Test.YtanmelbkhojfoaaLightG
namespace Go.Proofs.Ytanmelbkhojfoaa
set_option linter.unusedVariables false
set_option linter.unusedSimpArgs false
open Go.RowKit

set_option maxRecDepth 100000 in
set_option maxHeartbeats 4000000 in
theorem lightAges_any (r keep m n : Int) (w : World) (hr : I64 r) (hk : I64 keep) (hm : 0 ≤ m ∧ m ≤ 255) (hn : 0 ≤ n ∧ n ≤ 255) :
    Calls Try.prog 10 #[.int .i64 r, .int .i64 keep, .agg #[.int .u8 m, .int .u8 n]] w fun e w' => e = .returned (.bool true) ∧ Below w.heap.size w w' := by
  have HA : Hid (∀ R Y W, Calls Try.prog 39 #[.int .i64 R, .int .i64 keep, .int .i64 Y] W fun e w' => e = .returned (.tuple #[.int .i64 (agedV R keep Y), .int .i64 (agedE R keep Y)]) ∧ W = w') := Lib.hid fun R Y W => aged_any R keep Y W
  have HR := Lib.hid (refAged_any r keep m)
  have H1 := Lib.hid first_any
  obtain ⟨m0, m1⟩ := hm
  obtain ⟨n0, n1⟩ := hn
  obtain ⟨r0, r1⟩ := hr
  obtain ⟨k0, k1⟩ := hk
  have g0 : agedE r keep (-1 - n) = 2 := by
    unfold agedE; rw [if_neg]; intro h; have := (agedB_iff _ _ _).1 h; omega
  have g1 : agedE r keep (301 + n) = 2 := by
    unfold agedE; rw [if_neg]; intro h; have := (agedB_iff _ _ _).1 h; omega
  by_cases hB : agedB r keep m = true
  · have e1 : agedE r keep m = 0 := by unfold agedE; rw [if_pos hB]
    have e2 : agedV r keep m = agV r keep m.toNat := by unfold agedV; rw [if_pos hB]
    rw [e1, e2] at HR
    have HA1 := Lib.hid (fun W => HA.out r m W)
    rw [e1, e2] at HA1
    obtain ⟨⟨a0, a1⟩, ⟨b0, b1⟩, c0, c1⟩ := (agedB_iff _ _ _).1 hB
    by_cases hs : m + n ≤ 300
    · have hB2 : agedB r keep (m + n) = true := (agedB_iff _ _ _).2 ⟨⟨a0, a1⟩, ⟨b0, b1⟩, by omega, hs⟩
      have vb := agV_bd a0 a1 b0 b1 m.toNat
      have hB3 : agedB (agV r keep m.toNat) keep n = true := (agedB_iff _ _ _).2 ⟨vb, ⟨b0, b1⟩, n0, by omega⟩
      have f1 : agedE r keep (m + n) = 0 := by unfold agedE; rw [if_pos hB2]
      have f2 : agedV r keep (m + n) = agV (agV r keep m.toNat) keep n.toNat := by unfold agedV; rw [if_pos hB2, show (m + n).toNat = m.toNat + n.toNat from by omega, agV_add]
      have f3 : agedE (agV r keep m.toNat) keep n = 0 := by unfold agedE; rw [if_pos hB3]
      have f4 : agedV (agV r keep m.toNat) keep n = agV (agV r keep m.toNat) keep n.toNat := by unfold agedV; rw [if_pos hB3]
      have f5 : agV (agV r keep m.toNat) keep n.toNat ≤ agV r keep m.toNat := by
        rw [← agV_add]; exact agV_anti a0 a1 b0 b1 _ _
      have vb2 := agV_bd vb.1 vb.2 b0 b1 n.toNat
      have HA2 := Lib.hid (fun W => HA.out r (m + n) W)
      have HA3 := Lib.hid (fun W => HA.out (agV r keep m.toNat) n W)
      have HA4 := Lib.hid (fun W => HA.out r (-1 - n) W)
      have HA5 := Lib.hid (fun W => HA.out r (301 + n) W)
      rw [f1, f2] at HA2
      rw [f3, f4] at HA3
      rw [g0] at HA4
      rw [g1] at HA5
      obtain ⟨v0, v1⟩ := vb
      obtain ⟨v2, v3⟩ := vb2
      clear hB hB2 hB3 e1 e2 f1 f2 f3 f4 g0 g1 HA
      generalize agV (agV r keep m.toNat) keep n.toNat = V2 at *
      generalize agV r keep m.toNat = V at *
      generalize agedV r keep (-1 - n) = U4 at *
      generalize agedV r keep (301 + n) = U5 at *
      go_enter Try.func10, Try.ntmps10
      go_wp2_with fail
      go_quiet (fail)
      go_wp2_with fail
      refine (HA1.out _).mono ?_
      rintro E w1 ⟨rfl, rfl⟩
      go_wp2_with fail
      refine (HR.out _).mono ?_
      rintro E w1 ⟨rfl, rfl⟩
      go_wp2_with fail
      refine (HA2.out _).mono ?_
      rintro E w1 ⟨rfl, rfl⟩
      go_wp2_with fail
      refine (HA3.out _).mono ?_
      rintro E w1 ⟨rfl, rfl⟩
      go_wp2_with fail
      refine (HA4.out _).mono ?_
      rintro E w1 ⟨rfl, rfl⟩
      go_wp2_with fail
      refine (HA5.out _).mono ?_
      rintro E w1 ⟨rfl, rfl⟩
      go_wp2_with fail
      refine (H1.out _).mono ?_
      rintro E w1 ⟨rfl, hb⟩
      go_wp2_with fail
      go_ret
      exact ⟨rfl, (below_drewN ((Below.refl _ _).alloc (Nat.le_refl _) _) _).trans (hb.mono (by simp))⟩
    · clear hB e1 e2 g0 g1 HA
      generalize agV r keep m.toNat = V at *
      go_enter Try.func10, Try.ntmps10
      go_wp2_with fail
      go_quiet (fail)
      go_wp2_with fail
      refine (HA1.out _).mono ?_
      rintro E w1 ⟨rfl, rfl⟩
      go_wp2_with fail
      refine (HR.out _).mono ?_
      rintro E w1 ⟨rfl, rfl⟩
      go_wp2_with fail
      refine (H1.out _).mono ?_
      rintro E w1 ⟨rfl, hb⟩
      go_wp2_with fail
      go_ret
      exact ⟨rfl, (below_drewN ((Below.refl _ _).alloc (Nat.le_refl _) _) _).trans (hb.mono (by simp))⟩
  · have hB : agedB r keep m = false := by simpa using hB
    have e1 : agedE r keep m = 2 := by unfold agedE; rw [hB]; rfl
    have e2 : agedV r keep m = 0 := by unfold agedV; rw [hB]; rfl
    rw [e1, e2] at HR
    have HA1 := Lib.hid (fun W => HA.out r m W)
    rw [e1, e2] at HA1
    clear hB e1 e2 g0 g1 HA
    go_enter Try.func10, Try.ntmps10
    go_wp2_with fail
    go_quiet (fail)
    go_wp2_with fail
    refine (HA1.out _).mono ?_
    rintro E w1 ⟨rfl, rfl⟩
    go_wp2_with fail
    refine (HR.out _).mono ?_
    rintro E w1 ⟨rfl, rfl⟩
    go_wp2_with fail
    refine (H1.out _).mono ?_
    rintro E w1 ⟨rfl, hb⟩
    go_wp2_with fail
    go_ret
    exact ⟨rfl, (below_drewN ((Below.refl _ _).alloc (Nat.le_refl _) _) _).trans (hb.mono (by simp))⟩
end Go.Proofs.Ytanmelbkhojfoaa
