/-
  The walks of slopesValid, locate, and of their references. By an AI agent.
-/
import Derived.Test.YtelehohffcncaaaLightA
namespace Go.Proofs.Ytelehohffcncaaa
set_option linter.unusedVariables false
set_option linter.unusedSimpArgs false
open Go.RowKit

open Classical in
noncomputable def slopesB (l : List Int) : Bool := decide (SlopesOk l)
theorem slopesB_t {l : List Int} (h : SlopesOk l) : slopesB l = true := by unfold slopesB; simpa using h
theorem slopesB_f {l : List Int} (h : ¬ SlopesOk l) : slopesB l = false := by unfold slopesB; simpa using h
theorem slopesB_iff {l : List Int} : slopesB l = true ↔ SlopesOk l := by unfold slopesB; simp

set_option maxRecDepth 100000 in
set_option maxHeartbeats 1000000 in
theorem slopesValid_any (a : Option Addr) (l : List Int) (cap : Nat) (w : World) (hI : IntsS w a l) :
    Calls Try.prog 32 #[.slice a l.length cap] w fun e w' => e = .returned (.bool (slopesB l)) ∧ w = w' := by
  obtain ⟨hlen, hbd, blk, off, hadr, hc⟩ := hI
  by_cases hn : 2 ≤ l.length ∧ l.length ≤ 6
  · have HB := Lib.hid (btw_t (n := (l.length : Int)) (a := 2) (b := 6) (by omega) (by omega))
    obtain ⟨n0, n1⟩ := hn
    obtain rfl := hadr (fun h => by rw [h] at n0; simp at n0)
    clear hadr
    go_enter Try.func32, Try.ntmps32
    go_wp2_with (go_at_call 28; refine (between_any _ _ _ _).mono ?_; rintro e w' ⟨rfl, rfl⟩; rw [HB.out])
    go_loop [3, 12] (fun x i => ∃ k : Nat, k ≤ l.length ∧ i = .int .i64 k ∧ x = .int .i64 (if k = 0 then 0 else gi l (k - 1)) ∧ Hid (∀ j, j < k → okS l j)) (fun _ i => l.length - (intOf i).toNat)
    case atStart => exact ⟨0, Nat.zero_le _, rfl, rfl, Lib.hid fun j hj => absurd hj (Nat.not_lt_zero _)⟩
    case round =>
      obtain ⟨k, hk, rfl, rfl, HA⟩ := hrel
      by_cases hlt : k < l.length
      · have hck := hc k hlt
        obtain ⟨x0, x1⟩ := hbd k hlt
        have HK : Hid ((if k = 0 then 0 else gi l (k - 1)) < gi l k → gi l k ≤ 1000000 → ∀ j, j < k + 1 → okS l j) := Lib.hid fun h1 h2 j hj => by
          by_cases e : j = k
          · subst e
            by_cases e0 : j = 0
            · subst e0; rw [if_pos rfl] at h1; exact ⟨by omega, h2, .inl rfl⟩
            · rw [if_neg e0] at h1
              have := (HA.out (j - 1) (by omega)).1
              exact ⟨by omega, h2, .inr h1⟩
          · exact HA.out j (by omega)
        have HN : Hid (¬ ((if k = 0 then 0 else gi l (k - 1)) < gi l k ∧ gi l k ≤ 1000000) → ¬ SlopesOk l) := Lib.hid fun hh hS => by
          have := hS.2.2 k hlt
          apply hh
          by_cases e0 : k = 0
          · subst e0; rw [if_pos rfl]; exact ⟨by have := this.1; omega, this.2.1⟩
          · rw [if_neg e0]
            rcases this.2.2 with h | h
            · exact absurd h e0
            · exact ⟨h, this.2.1⟩
        have HG : Hid (gi l k = (if k + 1 = 0 then 0 else gi l (k + 1 - 1))) := Lib.hid (by rw [if_neg (by omega), Nat.add_sub_cancel])
        have hp : I64 (if k = 0 then 0 else gi l (k - 1)) := by
          split
          · unfold I64; omega
          · exact hbd (k - 1) (by omega)
        obtain ⟨p0, p1⟩ := hp
        clear hc hbd
        generalize (if k = 0 then 0 else gi l (k - 1)) = p at *
        generalize gi l k = x at *
        by_cases h1 : p < x
        · by_cases h2 : x ≤ 1000000
          · have HK2 := Lib.hid (HK.out h1 h2)
            clear HK HN
            go_wp2
            go_round
            case rel => exact ⟨k + 1, by omega, by go_num, by rw [HG.out], HK2⟩
            case measure => simp [intOf]; omega
          · have HS := Lib.hid (slopesB_f (HN.out (fun h => h2 h.2)))
            clear HK HN
            go_wp2
            go_ret
            rw [HS.out]
            exact ⟨rfl, rfl⟩
        · have HS := Lib.hid (slopesB_f (HN.out (fun h => h1 h.1)))
          clear HK HN
          go_wp2
          go_ret
          rw [HS.out]
          exact ⟨rfl, rfl⟩
      · obtain rfl : k = l.length := by omega
        have HS := Lib.hid (slopesB_t ⟨n0, n1, HA.out⟩)
        clear hc hbd
        generalize (if l.length = 0 then 0 else gi l (l.length - 1)) = p at *
        go_wp2
        go_ret
        rw [HS.out]
        exact ⟨rfl, rfl⟩
  · have HB := Lib.hid (btw_f (n := (l.length : Int)) (a := 2) (b := 6) (by omega))
    have HS := Lib.hid (slopesB_f (l := l) (fun h => hn ⟨h.1, h.2.1⟩))
    clear hn hc hbd hadr
    go_enter Try.func32, Try.ntmps32
    go_wp2_with (go_at_call 28; refine (between_any _ _ _ _).mono ?_; rintro e w' ⟨rfl, rfl⟩; rw [HB.out])
    go_ret
    rw [HS.out]
    exact ⟨rfl, rfl⟩

set_option maxRecDepth 100000 in
set_option maxHeartbeats 1000000 in
/-- locate, of a slope that is not above all. -/
theorem locate_in (a : Option Addr) (l : List Int) (cap : Nat) (x : Int) (w : World) (hI : IntsS w a l) (hcap : l.length ≤ cap) (hS : SlopesOk l) (hx0 : I64 x) (hx : ¬ above l x) :
    Calls Try.prog 36 #[.slice a l.length cap, .int .i64 x] w fun e w' => (∃ k : Nat, InCell l (clip l x) k ∧ e = .returned (.tuple #[.int .i64 k, .int .i64 (clip l x), .bool true])) ∧ w = w' := by
  obtain ⟨hlen, hbd, blk, off, hadr, hc⟩ := hI
  have n0 := hS.1
  have n1 := hS.2.1
  obtain rfl := hadr (fun h => by rw [h] at n0; simp at n0)
  have c0 := hc 0 (by omega)
  rw [Nat.add_zero] at c0
  obtain ⟨z0, z1⟩ := clip_not_above hS hx
  have HI : Hid (∀ k : Nat, k + 1 < l.length → (∀ j, j < k → gi l (j + 1) < clip l x) → clip l x ≤ gi l (k + 1) → InCell l (clip l x) k) := Lib.hid fun k h1 h2 h3 => ⟨h1, by
    by_cases e : k = 0
    · subst e; exact z0
    · have := h2 (k - 1) (by omega); rw [show k - 1 + 1 = k from by omega] at this; omega, h3⟩
  have HE : Hid (∀ k : Nat, k + 1 = l.length → (∀ j, j < k → gi l (j + 1) < clip l x) → False) := Lib.hid fun k h1 h2 => by
    have := h2 (k - 1) (by omega); rw [show k - 1 + 1 = l.length - 1 from by omega] at this; omega
  have HC : Hid (∀ k : Nat, k < l.length - 1 → w.cell? ⟨blk, off + 1 + k, none⟩ = some (.int .i64 (gi l (k + 1))) ∧ I64 (gi l (k + 1))) := Lib.hid fun k h1 => by
    rw [show off + 1 + k = off + (k + 1) from by omega]; exact ⟨hc (k + 1) (by omega), hbd (k + 1) (by omega)⟩
  have hb0 := slopes_bd hS (i := 0) (by omega)
  have hcase : (x < gi l 0 ∧ clip l x = gi l 0) ∨ (gi l 0 ≤ x ∧ clip l x = x) := by unfold clip; omega
  obtain ⟨x0, x1⟩ := hx0
  obtain ⟨p0, p1⟩ := hb0
  clear hc hbd hS hadr z0 z1 hx
  generalize gi l 0 = g at *
  generalize clip l x = c at *
  have hcap1 : ¬ cap = 1 := by omega
  have hcap2 : 1 < cap := by omega
  rcases hcase with ⟨h1, rfl⟩ | ⟨h1, rfl⟩
  all_goals
    go_enter Try.func36, Try.ntmps36
    go_wp2_with fail
    go_loop [17] (fun i => ∃ k : Nat, k + 1 ≤ l.length ∧ i = .int .i64 k ∧ Hid (∀ j, j < k → gi l (j + 1) < c)) (fun i => l.length - (intOf i).toNat)
    case atStart => exact ⟨0, by omega, rfl, Lib.hid fun j hj => absurd hj (Nat.not_lt_zero _)⟩
    case round =>
      obtain ⟨k, hk, rfl, HA⟩ := hrel
      by_cases hlt : k < l.length - 1
      · obtain ⟨hck, y0, y1⟩ := HC.out k hlt
        have HK := Lib.hid (HI.out k (by omega) HA.out)
        have HN : Hid (gi l (k + 1) < c → ∀ j, j < k + 1 → gi l (j + 1) < c) := Lib.hid fun h j hj => by
          by_cases e : j = k
          · subst e; exact h
          · exact HA.out j (by omega)
        generalize gi l (k + 1) = y at *
        by_cases hy : c ≤ y
        · have HR := Lib.hid (HK.out hy)
          clear HK HN
          go_wp2_with fail
          go_returns
          exact ⟨⟨k, HR.out, rfl⟩, rfl⟩
        · have HR := Lib.hid (HN.out (by omega))
          clear HK HN
          go_wp2_with fail
          go_round
          case rel => exact ⟨k + 1, by omega, by go_num, HR⟩
          case measure => simp [intOf]; omega
      · exact absurd (HE.out k (by omega) HA.out) id
end Go.Proofs.Ytelehohffcncaaa
