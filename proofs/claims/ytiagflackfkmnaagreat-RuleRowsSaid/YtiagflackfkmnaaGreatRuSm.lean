/-
  The laws' comparison of lists that are the same. By an AI agent.
-/
import Derived.Test.YtiagflackfkmnaaGreatRuP
import Derived.BigQuiet
import Derived.BigRegion
namespace Go.Proofs.YtiagflackfkmnaaGreat
set_option linter.unusedVariables false
set_option linter.unusedSimpArgs false
open Go.RowKit

set_option maxRecDepth 100000 in
set_option maxHeartbeats 1000000 in
theorem sameInts_r (a b : Option Addr) (l : List (Int)) (ca cb : Nat) (w : World) (hA : IntsS w a l) (hB : IntsS w b l) :
    Calls Tryz.prog 20 #[.slice a l.length ca, .slice b l.length cb] w fun e w' => e = .returned (.bool true) ∧ Below w.heap.size w w' := by
  obtain ⟨hlen, -, blk, off, hadr, hc⟩ := hA
  obtain ⟨-, -, blk2, off2, hadr2, hc2⟩ := hB
  have HC := Lib.hid hc
  have HC2 := Lib.hid hc2
  have HL : Hid (0 < l.length → a = some ⟨blk, off, none⟩) := Lib.hid fun h => hadr (List.ne_nil_of_length_pos h)
  have HL2 : Hid (0 < l.length → b = some ⟨blk2, off2, none⟩) := Lib.hid fun h => hadr2 (List.ne_nil_of_length_pos h)
  clear hc hc2 hadr hadr2
  have n4 : ((l.length : Int) != l.length) = false := by simp
  go_enter Tryz.func20, Tryz.ntmps20
  go_wp2_with fail
  go_loopw [5] (fun i wr => ∃ k : Nat, k ≤ l.length ∧ i = .int .i64 k ∧ Below w.heap.size w wr) (fun i _ => l.length - (intOf i).toNat)
  case atStart => exact ⟨0, Nat.zero_le _, rfl, Below.refl _ _⟩
  case round =>
    obtain ⟨k, hk, rfl, hb⟩ := hrel
    by_cases hlt : k < l.length
    · obtain rfl := HL.out (by omega)
      obtain rfl := HL2.out (by omega)
      have x0 := cell_below (HC.out k hlt) hb
      have y0 := cell_below (HC2.out k hlt) hb
      clear HC HC2 HL HL2
      generalize (gi l k) = z0 at *
      have e0 : (z0 != z0) = false := by simp
      have e0b : (z0 == z0) = true := by simp
      have g0 : (0 : Int) ≤ (k : Int) := by omega
      have g1 : (k : Int) < l.length := by omega
      go_wp2_with fail
      go_quiet (fail)
      go_wp2_with fail
      go_roundw
      case rel => exact ⟨k + 1, by omega, by go_num, below_drewN hb _⟩
      case measure => simp [intOf]; omega
    · go_wp2_with fail
      go_ret
      exact ⟨rfl, hb⟩
def TriS (w : World) (a : Option Addr) (l : List (Int × Int × Int)) : Prop :=
  l.length ≤ 9223372036854775807 ∧ ∃ blk off, (l ≠ [] → a = some ⟨blk, off, none⟩) ∧ ∀ i, i < l.length → w.cell? ⟨blk, off + i * 3, none⟩ = some (.int .i64 (gt3 l i).1) ∧ w.cell? ⟨blk, off + i * 3 + 1, none⟩ = some (.int .i64 (gt3 l i).2.1) ∧ w.cell? ⟨blk, off + i * 3 + 2, none⟩ = some (.int .i64 (gt3 l i).2.2)
theorem TriS.below {w w' : World} {a : Option Addr} {l : List (Int × Int × Int)} (h : TriS w a l) (hb : Below w.heap.size w w') : TriS w' a l := by
  obtain ⟨h0, blk, off, h2, h3⟩ := h
  exact ⟨h0, blk, off, h2, fun i hi => by
    have hx := h3 i hi
    exact ⟨cell_below hx.1 hb, cell_below hx.2.1 hb, cell_below hx.2.2 hb⟩⟩
theorem tri_own {w : World} {base c : Nat} {a : Option Addr} {zs : List Tri} {T : TypeId} (h : w.ownsRow base T 3 (.slice a zs.length c) zs.length (cl3 zs)) (hn : zs.length ≤ 9223372036854775807) : TriS w a zs := by
  refine ⟨hn, ?_⟩
  rcases h.2 with ⟨h1, h2⟩ | ⟨g2, c2, cur, h1, _⟩
  · exact ⟨0, 0, (fun hne => absurd (List.eq_nil_of_length_eq_zero h2) hne), fun i hi => by omega⟩
  · obtain ⟨rfl, rfl⟩ : a = some ⟨g2, 0, none⟩ ∧ c = c2 := by simpa using h1
    refine ⟨g2, 0, fun _ => rfl, fun i hi => ?_⟩
    obtain ⟨c0, c1, c2⟩ := cl3_c zs i hi
    rw [Nat.zero_add]
    exact ⟨by rw [World.ownsRow.cellAt h (i * 3) (by omega)]; exact c0, by rw [World.ownsRow.cellAt h (i * 3 + 1) (by omega)]; exact c1, by rw [World.ownsRow.cellAt h (i * 3 + 2) (by omega)]; exact c2⟩
theorem tri_nil (w : World) : TriS w none [] := ⟨by decide, 0, 0, fun h => (h rfl).elim, fun i hi => absurd hi (Nat.not_lt_zero i)⟩
set_option maxRecDepth 100000 in
set_option maxHeartbeats 1000000 in
theorem sameHeld_r (a b : Option Addr) (l : List (Int × Int × Int)) (ca cb : Nat) (w : World) (hA : TriS w a l) (hB : TriS w b l) :
    Calls Tryz.prog 30 #[.slice a l.length ca, .slice b l.length cb] w fun e w' => e = .returned (.bool true) ∧ Below w.heap.size w w' := by
  obtain ⟨hlen, blk, off, hadr, hc⟩ := hA
  obtain ⟨-, blk2, off2, hadr2, hc2⟩ := hB
  have HC := Lib.hid hc
  have HC2 := Lib.hid hc2
  have HL : Hid (0 < l.length → a = some ⟨blk, off, none⟩) := Lib.hid fun h => hadr (List.ne_nil_of_length_pos h)
  have HL2 : Hid (0 < l.length → b = some ⟨blk2, off2, none⟩) := Lib.hid fun h => hadr2 (List.ne_nil_of_length_pos h)
  clear hc hc2 hadr hadr2
  have n4 : ((l.length : Int) != l.length) = false := by simp
  go_enter Tryz.func30, Tryz.ntmps30
  go_wp2_with fail
  go_loopw [5] (fun i wr => ∃ k : Nat, k ≤ l.length ∧ i = .int .i64 k ∧ Below w.heap.size w wr) (fun i _ => l.length - (intOf i).toNat)
  case atStart => exact ⟨0, Nat.zero_le _, rfl, Below.refl _ _⟩
  case round =>
    obtain ⟨k, hk, rfl, hb⟩ := hrel
    by_cases hlt : k < l.length
    · obtain rfl := HL.out (by omega)
      obtain rfl := HL2.out (by omega)
      obtain ⟨x0, x1, x2⟩ := HC.out k hlt
      have x0 := cell_below x0 hb
      have x1 := cell_below x1 hb
      have x2 := cell_below x2 hb
      obtain ⟨y0, y1, y2⟩ := HC2.out k hlt
      have y0 := cell_below y0 hb
      have y1 := cell_below y1 hb
      have y2 := cell_below y2 hb
      clear HC HC2 HL HL2
      generalize (gt3 l k).1 = z0 at *
      generalize (gt3 l k).2.1 = z1 at *
      generalize (gt3 l k).2.2 = z2 at *
      have e0 : (z0 != z0) = false := by simp
      have e0b : (z0 == z0) = true := by simp
      have e1 : (z1 != z1) = false := by simp
      have e1b : (z1 == z1) = true := by simp
      have e2 : (z2 != z2) = false := by simp
      have e2b : (z2 == z2) = true := by simp
      have g0 : (0 : Int) ≤ (k : Int) := by omega
      have g1 : (k : Int) < l.length := by omega
      go_wp2_with fail
      go_quiet (fail)
      go_wp2_with fail
      go_roundw
      case rel => exact ⟨k + 1, by omega, by go_num, below_drewN hb _⟩
      case measure => simp [intOf]; omega
    · go_wp2_with fail
      go_ret
      exact ⟨rfl, hb⟩
set_option maxRecDepth 100000 in
set_option maxHeartbeats 1000000 in
theorem sameTold_r (a b : Option Addr) (l : List (Int × Int × Int)) (ca cb : Nat) (w : World) (hA : TriS w a l) (hB : TriS w b l) :
    Calls Tryz.prog 38 #[.slice a l.length ca, .slice b l.length cb] w fun e w' => e = .returned (.bool true) ∧ Below w.heap.size w w' := by
  obtain ⟨hlen, blk, off, hadr, hc⟩ := hA
  obtain ⟨-, blk2, off2, hadr2, hc2⟩ := hB
  have HC := Lib.hid hc
  have HC2 := Lib.hid hc2
  have HL : Hid (0 < l.length → a = some ⟨blk, off, none⟩) := Lib.hid fun h => hadr (List.ne_nil_of_length_pos h)
  have HL2 : Hid (0 < l.length → b = some ⟨blk2, off2, none⟩) := Lib.hid fun h => hadr2 (List.ne_nil_of_length_pos h)
  clear hc hc2 hadr hadr2
  have n4 : ((l.length : Int) != l.length) = false := by simp
  go_enter Tryz.func38, Tryz.ntmps38
  go_wp2_with fail
  go_loopw [5] (fun i wr => ∃ k : Nat, k ≤ l.length ∧ i = .int .i64 k ∧ Below w.heap.size w wr) (fun i _ => l.length - (intOf i).toNat)
  case atStart => exact ⟨0, Nat.zero_le _, rfl, Below.refl _ _⟩
  case round =>
    obtain ⟨k, hk, rfl, hb⟩ := hrel
    by_cases hlt : k < l.length
    · obtain rfl := HL.out (by omega)
      obtain rfl := HL2.out (by omega)
      obtain ⟨x0, x1, x2⟩ := HC.out k hlt
      have x0 := cell_below x0 hb
      have x1 := cell_below x1 hb
      have x2 := cell_below x2 hb
      obtain ⟨y0, y1, y2⟩ := HC2.out k hlt
      have y0 := cell_below y0 hb
      have y1 := cell_below y1 hb
      have y2 := cell_below y2 hb
      clear HC HC2 HL HL2
      generalize (gt3 l k).1 = z0 at *
      generalize (gt3 l k).2.1 = z1 at *
      generalize (gt3 l k).2.2 = z2 at *
      have e0 : (z0 != z0) = false := by simp
      have e0b : (z0 == z0) = true := by simp
      have e1 : (z1 != z1) = false := by simp
      have e1b : (z1 == z1) = true := by simp
      have e2 : (z2 != z2) = false := by simp
      have e2b : (z2 == z2) = true := by simp
      have g0 : (0 : Int) ≤ (k : Int) := by omega
      have g1 : (k : Int) < l.length := by omega
      go_wp2_with fail
      go_quiet (fail)
      go_wp2_with fail
      go_roundw
      case rel => exact ⟨k + 1, by omega, by go_num, below_drewN hb _⟩
      case measure => simp [intOf]; omega
    · go_wp2_with fail
      go_ret
      exact ⟨rfl, hb⟩
set_option maxRecDepth 100000 in
set_option maxHeartbeats 1000000 in
theorem sameFaults_r (a b : Option Addr) (l : List (Int × Int)) (ca cb : Nat) (w : World) (hA : PairsS w a l) (hB : PairsS w b l) :
    Calls Tryz.prog 32 #[.slice a l.length ca, .slice b l.length cb] w fun e w' => e = .returned (.bool true) ∧ Below w.heap.size w w' := by
  obtain ⟨hlen, -, blk, off, hadr, hc⟩ := hA
  obtain ⟨-, -, blk2, off2, hadr2, hc2⟩ := hB
  have HC := Lib.hid hc
  have HC2 := Lib.hid hc2
  have HL : Hid (0 < l.length → a = some ⟨blk, off, none⟩) := Lib.hid fun h => hadr (List.ne_nil_of_length_pos h)
  have HL2 : Hid (0 < l.length → b = some ⟨blk2, off2, none⟩) := Lib.hid fun h => hadr2 (List.ne_nil_of_length_pos h)
  clear hc hc2 hadr hadr2
  have n4 : ((l.length : Int) != l.length) = false := by simp
  go_enter Tryz.func32, Tryz.ntmps32
  go_wp2_with fail
  go_loopw [5] (fun i wr => ∃ k : Nat, k ≤ l.length ∧ i = .int .i64 k ∧ Below w.heap.size w wr) (fun i _ => l.length - (intOf i).toNat)
  case atStart => exact ⟨0, Nat.zero_le _, rfl, Below.refl _ _⟩
  case round =>
    obtain ⟨k, hk, rfl, hb⟩ := hrel
    by_cases hlt : k < l.length
    · obtain rfl := HL.out (by omega)
      obtain rfl := HL2.out (by omega)
      obtain ⟨x0, x1⟩ := HC.out k hlt
      have x0 := cell_below x0 hb
      have x1 := cell_below x1 hb
      obtain ⟨y0, y1⟩ := HC2.out k hlt
      have y0 := cell_below y0 hb
      have y1 := cell_below y1 hb
      clear HC HC2 HL HL2
      generalize (gp l k).1 = z0 at *
      generalize (gp l k).2 = z1 at *
      have e0 : (z0 != z0) = false := by simp
      have e0b : (z0 == z0) = true := by simp
      have e1 : (z1 != z1) = false := by simp
      have e1b : (z1 == z1) = true := by simp
      have g0 : (0 : Int) ≤ (k : Int) := by omega
      have g1 : (k : Int) < l.length := by omega
      go_wp2_with fail
      go_quiet (fail)
      go_wp2_with fail
      go_roundw
      case rel => exact ⟨k + 1, by omega, by go_num, below_drewN hb _⟩
      case measure => simp [intOf]; omega
    · go_wp2_with fail
      go_ret
      exact ⟨rfl, hb⟩
end Go.Proofs.YtiagflackfkmnaaGreat
