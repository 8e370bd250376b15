/-
  The walks of itemValid and of the reference's item: both answer itB. By an AI agent.
-/
import Derived.Test.YtbogmdelceikgaaGreatDoorFaceC
import Derived.Deep.QuietTactic
import Derived.BigQuiet
namespace Go.Proofs.YtbogmdelceikgaaGreatDoor
open Go.RowKit

/-- The package's table of kinds: names, how many measures, whether there is a text, whether there is a place. -/
def kNames : List (List UInt8) := [[], [102, 105, 101, 108, 100], [114, 105, 109], [98, 111, 120], [100, 105, 115, 99], [115, 108, 97, 115, 104], [116, 101, 120, 116]]
def kSizes : List Int := [0, 0, 1, 2, 1, 1, 1]
def kTexts : List Bool := [false, false, false, false, false, false, true]
def kPlaces : List Bool := [false, false, false, true, true, false, true]
def KindsAt (w : World) : Prop := 12 ≤ w.heap.size ∧ ∀ k, k < 7 →
  w.cell? ⟨0, 4 * k, none⟩ = some (.string ⟨(kNames.getD k []).toArray⟩) ∧ w.cell? ⟨0, 4 * k + 1, none⟩ = some (.int .i64 (kSizes.getD k 0)) ∧
  w.cell? ⟨0, 4 * k + 2, none⟩ = some (.bool (kTexts.getD k false)) ∧ w.cell? ⟨0, 4 * k + 3, none⟩ = some (.bool (kPlaces.getD k false))
theorem KindsAt.below {w w' : World} {B : Nat} (h : KindsAt w) (hb : Below B w w') (hB : 12 ≤ B) : KindsAt w' :=
  ⟨Nat.le_trans h.1 hb.size, fun k hk => by
    have hx : ∀ o, w'.cell? ⟨0, o, none⟩ = w.cell? ⟨0, o, none⟩ := fun o => hb.cell (p := ⟨0, o, none⟩) (by show 0 < B; omega)
    rw [hx, hx, hx, hx]; exact h.2 k hk⟩

/-- A field is in its range, or zero where it isn't used. -/
def fv (n : Int) (used : Bool) (least : Int) : Bool := if used then btw n least 200 else n == 0
/-- Is an item valid. -/
def itB (k c l o a b : Int) (t : ByteArray) : Bool :=
  btw k 1 6 && btw c 1 8 && (fv a (decide (0 < kSizes.getD k.toNat 0)) 1 && (fv b (decide (1 < kSizes.getD k.toNat 0)) 1 && (fv l (kPlaces.getD k.toNat false) 0 && (fv o (kPlaces.getD k.toNat false) 0 && (if kTexts.getD k.toNat false then spB t else t.toList.isEmpty)))))

set_option maxHeartbeats 400000 in
theorem fieldValid_any (n : Int) (u : Bool) (m : Int) (w : World) :
    Calls Tryz.prog 33 #[.int .i64 n, .bool u, .int .i64 m] w fun e w' => e = .returned (.bool (fv n u m)) ∧ w = w' := by
  cases u
  · have e1 : fv n false m = (n == 0) := rfl
    rw [e1]
    clear e1
    go_enter Tryz.func33, Tryz.ntmps33
    go_wp2_with fail
    go_ret
    exact ⟨rfl, rfl⟩
  · have e1 : fv n true m = btw n m 200 := rfl
    rw [e1]
    clear e1
    go_enter Tryz.func33, Tryz.ntmps33
    go_wp2_with (go_at_call 10; refine (between_any _ _ _ _).mono ?_; rintro e w' ⟨rfl, rfl⟩)
    go_ret
    exact ⟨rfl, rfl⟩

set_option maxHeartbeats 400000 in
theorem colourValid_any (n : Int) (w : World) :
    Calls Tryz.prog 11 #[.int .i64 n] w fun e w' => e = .returned (.bool (btw n 1 8)) ∧ w = w' := by
  go_enter Tryz.func11, Tryz.ntmps11
  go_wp2_with (go_at_call 10; refine (between_any _ _ _ _).mono ?_; rintro e w' ⟨rfl, rfl⟩)
  go_ret
  exact ⟨rfl, rfl⟩

set_option maxRecDepth 100000 in
set_option maxHeartbeats 4000000 in
theorem itemValid_any (k c l o a b : Int) (t : ByteArray) (w : World) (hL : LettersAt w) (hK : KindsAt w) (ht : t.size ≤ maxLen) :
    Calls Tryz.prog 34 #[.agg #[.int .i64 k, .int .i64 c, .int .i64 l, .int .i64 o, .int .i64 a, .int .i64 b, .string t]] w fun e w' => e = .returned (.bool (itB k c l o a b t)) ∧ Below w.heap.size w w' := by
  by_cases hk : btw k 1 6 = true
  · by_cases hc : btw c 1 8 = true
    · obtain ⟨k0, k1⟩ := (btw_iff _ _ _).1 hk
      obtain ⟨n, rfl⟩ := Int.eq_ofNat_of_zero_le (show 0 ≤ k by omega)
      have Hk := Lib.hid hk
      have Hc := Lib.hid hc
      have hkk := fun ob => (hK.below ((Below.refl _ _).alloc (Nat.le_refl _) ob) hK.1).2 n (by omega)
      have e0 : itB n c l o a b t = (fv a (decide (0 < kSizes.getD n 0)) 1 && (fv b (decide (1 < kSizes.getD n 0)) 1 && (fv l (kPlaces.getD n false) 0 && (fv o (kPlaces.getD n false) 0 && (if kTexts.getD n false then spB t else t.toList.isEmpty))))) := by
        unfold itB; rw [hk, hc, Int.toNat_natCast]; simp only [Bool.true_and]
      rw [e0]
      clear hk hc e0
      have hn : n = 1 ∨ n = 2 ∨ n = 3 ∨ n = 4 ∨ n = 5 ∨ n = 6 := by omega
      clear k0 k1 hK
      have hL' : ∀ o1 o2, LettersAt ((w.alloc o1).alloc o2) := fun o1 o2 => hL.below (((Below.refl _ _).alloc (Nat.le_refl _) _).alloc (by simp) _) hL.1
      rcases hn with rfl | rfl | rfl | rfl | rfl | rfl
      · show Calls _ _ _ _ fun e w' => e = .returned (.bool (fv a false 1 && (fv b false 1 && (fv l false 0 && (fv o false 0 && t.toList.isEmpty))))) ∧ _
        have Hk : Hid (btw 1 1 6 = true) := Lib.hid (by decide)
        have c0' : ∀ ob, (w.alloc ob).cell? ⟨0, 4, none⟩ = some (.string ⟨(kNames.getD 1 []).toArray⟩) := fun ob => (hkk ob).1
        have c1' : ∀ ob, (w.alloc ob).cell? ⟨0, 5, none⟩ = some (.int .i64 0) := fun ob => (hkk ob).2.1
        have c2' : ∀ ob, (w.alloc ob).cell? ⟨0, 6, none⟩ = some (.bool false) := fun ob => (hkk ob).2.2.1
        have c3' : ∀ ob, (w.alloc ob).cell? ⟨0, 7, none⟩ = some (.bool false) := fun ob => (hkk ob).2.2.2
        clear hkk
        by_cases h0 : fv a false 1 = true
        · have HA := Lib.hid h0
          rw [h0]
          clear h0
          by_cases h1 : fv b false 1 = true
          · have HB := Lib.hid h1
            rw [h1]
            clear h1
            by_cases h2 : fv l false 0 = true
            · have HC := Lib.hid h2
              rw [h2]
              clear h2
              by_cases h3 : fv o false 0 = true
              · have HD := Lib.hid h3
                rw [h3]
                clear h3
                simp only [Bool.true_and]
                go_enter Tryz.func34, Tryz.ntmps34
                go_wp2_with (first | (go_at_call 10; refine (between_any _ _ _ _).mono ?_; rintro e w' ⟨rfl, rfl⟩; rw [Hk.out]) | (go_at_call 11; refine (colourValid_any _ _).mono ?_; rintro e w' ⟨rfl, rfl⟩; rw [Hc.out]) | (go_at_call 33; refine (fieldValid_any _ _ _ _).mono ?_; rintro e w' ⟨rfl, rfl⟩; first | rw [HA.out] | rw [HB.out] | rw [HC.out] | rw [HD.out]) | (go_at_call 16; refine (spells_any _ _ (hL' _ _) ht).mono ?_; rintro e w1 ⟨rfl, hb1⟩))
                go_ret
                refine ⟨?_, ?_⟩
                · rfl
                · go_grown
              · have h3' : fv o false 0 = false := by simpa using h3
                rw [h3']
                simp only [Bool.false_and]
                have HD := Lib.hid h3'
                clear h3 h3'
                go_enter Tryz.func34, Tryz.ntmps34
                go_wp2_with (first | (go_at_call 10; refine (between_any _ _ _ _).mono ?_; rintro e w' ⟨rfl, rfl⟩; rw [Hk.out]) | (go_at_call 11; refine (colourValid_any _ _).mono ?_; rintro e w' ⟨rfl, rfl⟩; rw [Hc.out]) | (go_at_call 33; refine (fieldValid_any _ _ _ _).mono ?_; rintro e w' ⟨rfl, rfl⟩; first | rw [HA.out] | rw [HB.out] | rw [HC.out] | rw [HD.out]) | (go_at_call 16; refine (spells_any _ _ (hL' _ _) ht).mono ?_; rintro e w1 ⟨rfl, hb1⟩))
                go_ret
                refine ⟨rfl, ?_⟩
                go_grown
            · have h2' : fv l false 0 = false := by simpa using h2
              rw [h2']
              simp only [Bool.false_and]
              have HC := Lib.hid h2'
              clear h2 h2'
              go_enter Tryz.func34, Tryz.ntmps34
              go_wp2_with (first | (go_at_call 10; refine (between_any _ _ _ _).mono ?_; rintro e w' ⟨rfl, rfl⟩; rw [Hk.out]) | (go_at_call 11; refine (colourValid_any _ _).mono ?_; rintro e w' ⟨rfl, rfl⟩; rw [Hc.out]) | (go_at_call 33; refine (fieldValid_any _ _ _ _).mono ?_; rintro e w' ⟨rfl, rfl⟩; first | rw [HA.out] | rw [HB.out] | rw [HC.out]) | (go_at_call 16; refine (spells_any _ _ (hL' _ _) ht).mono ?_; rintro e w1 ⟨rfl, hb1⟩))
              go_ret
              refine ⟨rfl, ?_⟩
              go_grown
          · have h1' : fv b false 1 = false := by simpa using h1
            rw [h1']
            simp only [Bool.false_and]
            have HB := Lib.hid h1'
            clear h1 h1'
            go_enter Tryz.func34, Tryz.ntmps34
            go_wp2_with (first | (go_at_call 10; refine (between_any _ _ _ _).mono ?_; rintro e w' ⟨rfl, rfl⟩; rw [Hk.out]) | (go_at_call 11; refine (colourValid_any _ _).mono ?_; rintro e w' ⟨rfl, rfl⟩; rw [Hc.out]) | (go_at_call 33; refine (fieldValid_any _ _ _ _).mono ?_; rintro e w' ⟨rfl, rfl⟩; first | rw [HA.out] | rw [HB.out]) | (go_at_call 16; refine (spells_any _ _ (hL' _ _) ht).mono ?_; rintro e w1 ⟨rfl, hb1⟩))
            go_ret
            refine ⟨rfl, ?_⟩
            go_grown
        · have h0' : fv a false 1 = false := by simpa using h0
          rw [h0']
          simp only [Bool.false_and]
          have HA := Lib.hid h0'
          clear h0 h0'
          go_enter Tryz.func34, Tryz.ntmps34
          go_wp2_with (first | (go_at_call 10; refine (between_any _ _ _ _).mono ?_; rintro e w' ⟨rfl, rfl⟩; rw [Hk.out]) | (go_at_call 11; refine (colourValid_any _ _).mono ?_; rintro e w' ⟨rfl, rfl⟩; rw [Hc.out]) | (go_at_call 33; refine (fieldValid_any _ _ _ _).mono ?_; rintro e w' ⟨rfl, rfl⟩; first | rw [HA.out]) | (go_at_call 16; refine (spells_any _ _ (hL' _ _) ht).mono ?_; rintro e w1 ⟨rfl, hb1⟩))
          go_ret
          refine ⟨rfl, ?_⟩
          go_grown
      · show Calls _ _ _ _ fun e w' => e = .returned (.bool (fv a true 1 && (fv b false 1 && (fv l false 0 && (fv o false 0 && t.toList.isEmpty))))) ∧ _
        have Hk : Hid (btw 2 1 6 = true) := Lib.hid (by decide)
        have c0' : ∀ ob, (w.alloc ob).cell? ⟨0, 8, none⟩ = some (.string ⟨(kNames.getD 2 []).toArray⟩) := fun ob => (hkk ob).1
        have c1' : ∀ ob, (w.alloc ob).cell? ⟨0, 9, none⟩ = some (.int .i64 1) := fun ob => (hkk ob).2.1
        have c2' : ∀ ob, (w.alloc ob).cell? ⟨0, 10, none⟩ = some (.bool false) := fun ob => (hkk ob).2.2.1
        have c3' : ∀ ob, (w.alloc ob).cell? ⟨0, 11, none⟩ = some (.bool false) := fun ob => (hkk ob).2.2.2
        clear hkk
        by_cases h0 : fv a true 1 = true
        · have HA := Lib.hid h0
          rw [h0]
          clear h0
          by_cases h1 : fv b false 1 = true
          · have HB := Lib.hid h1
            rw [h1]
            clear h1
            by_cases h2 : fv l false 0 = true
            · have HC := Lib.hid h2
              rw [h2]
              clear h2
              by_cases h3 : fv o false 0 = true
              · have HD := Lib.hid h3
                rw [h3]
                clear h3
                simp only [Bool.true_and]
                go_enter Tryz.func34, Tryz.ntmps34
                go_wp2_with (first | (go_at_call 10; refine (between_any _ _ _ _).mono ?_; rintro e w' ⟨rfl, rfl⟩; rw [Hk.out]) | (go_at_call 11; refine (colourValid_any _ _).mono ?_; rintro e w' ⟨rfl, rfl⟩; rw [Hc.out]) | (go_at_call 33; refine (fieldValid_any _ _ _ _).mono ?_; rintro e w' ⟨rfl, rfl⟩; first | rw [HA.out] | rw [HB.out] | rw [HC.out] | rw [HD.out]) | (go_at_call 16; refine (spells_any _ _ (hL' _ _) ht).mono ?_; rintro e w1 ⟨rfl, hb1⟩))
                go_ret
                refine ⟨?_, ?_⟩
                · rfl
                · go_grown
              · have h3' : fv o false 0 = false := by simpa using h3
                rw [h3']
                simp only [Bool.false_and]
                have HD := Lib.hid h3'
                clear h3 h3'
                go_enter Tryz.func34, Tryz.ntmps34
                go_wp2_with (first | (go_at_call 10; refine (between_any _ _ _ _).mono ?_; rintro e w' ⟨rfl, rfl⟩; rw [Hk.out]) | (go_at_call 11; refine (colourValid_any _ _).mono ?_; rintro e w' ⟨rfl, rfl⟩; rw [Hc.out]) | (go_at_call 33; refine (fieldValid_any _ _ _ _).mono ?_; rintro e w' ⟨rfl, rfl⟩; first | rw [HA.out] | rw [HB.out] | rw [HC.out] | rw [HD.out]) | (go_at_call 16; refine (spells_any _ _ (hL' _ _) ht).mono ?_; rintro e w1 ⟨rfl, hb1⟩))
                go_ret
                refine ⟨rfl, ?_⟩
                go_grown
            · have h2' : fv l false 0 = false := by simpa using h2
              rw [h2']
              simp only [Bool.false_and]
              have HC := Lib.hid h2'
              clear h2 h2'
              go_enter Tryz.func34, Tryz.ntmps34
              go_wp2_with (first | (go_at_call 10; refine (between_any _ _ _ _).mono ?_; rintro e w' ⟨rfl, rfl⟩; rw [Hk.out]) | (go_at_call 11; refine (colourValid_any _ _).mono ?_; rintro e w' ⟨rfl, rfl⟩; rw [Hc.out]) | (go_at_call 33; refine (fieldValid_any _ _ _ _).mono ?_; rintro e w' ⟨rfl, rfl⟩; first | rw [HA.out] | rw [HB.out] | rw [HC.out]) | (go_at_call 16; refine (spells_any _ _ (hL' _ _) ht).mono ?_; rintro e w1 ⟨rfl, hb1⟩))
              go_ret
              refine ⟨rfl, ?_⟩
              go_grown
          · have h1' : fv b false 1 = false := by simpa using h1
            rw [h1']
            simp only [Bool.false_and]
            have HB := Lib.hid h1'
            clear h1 h1'
            go_enter Tryz.func34, Tryz.ntmps34
            go_wp2_with (first | (go_at_call 10; refine (between_any _ _ _ _).mono ?_; rintro e w' ⟨rfl, rfl⟩; rw [Hk.out]) | (go_at_call 11; refine (colourValid_any _ _).mono ?_; rintro e w' ⟨rfl, rfl⟩; rw [Hc.out]) | (go_at_call 33; refine (fieldValid_any _ _ _ _).mono ?_; rintro e w' ⟨rfl, rfl⟩; first | rw [HA.out] | rw [HB.out]) | (go_at_call 16; refine (spells_any _ _ (hL' _ _) ht).mono ?_; rintro e w1 ⟨rfl, hb1⟩))
            go_ret
            refine ⟨rfl, ?_⟩
            go_grown
        · have h0' : fv a true 1 = false := by simpa using h0
          rw [h0']
          simp only [Bool.false_and]
          have HA := Lib.hid h0'
          clear h0 h0'
          go_enter Tryz.func34, Tryz.ntmps34
          go_wp2_with (first | (go_at_call 10; refine (between_any _ _ _ _).mono ?_; rintro e w' ⟨rfl, rfl⟩; rw [Hk.out]) | (go_at_call 11; refine (colourValid_any _ _).mono ?_; rintro e w' ⟨rfl, rfl⟩; rw [Hc.out]) | (go_at_call 33; refine (fieldValid_any _ _ _ _).mono ?_; rintro e w' ⟨rfl, rfl⟩; first | rw [HA.out]) | (go_at_call 16; refine (spells_any _ _ (hL' _ _) ht).mono ?_; rintro e w1 ⟨rfl, hb1⟩))
          go_ret
          refine ⟨rfl, ?_⟩
          go_grown
      · show Calls _ _ _ _ fun e w' => e = .returned (.bool (fv a true 1 && (fv b true 1 && (fv l true 0 && (fv o true 0 && t.toList.isEmpty))))) ∧ _
        have Hk : Hid (btw 3 1 6 = true) := Lib.hid (by decide)
        have c0' : ∀ ob, (w.alloc ob).cell? ⟨0, 12, none⟩ = some (.string ⟨(kNames.getD 3 []).toArray⟩) := fun ob => (hkk ob).1
        have c1' : ∀ ob, (w.alloc ob).cell? ⟨0, 13, none⟩ = some (.int .i64 2) := fun ob => (hkk ob).2.1
        have c2' : ∀ ob, (w.alloc ob).cell? ⟨0, 14, none⟩ = some (.bool false) := fun ob => (hkk ob).2.2.1
        have c3' : ∀ ob, (w.alloc ob).cell? ⟨0, 15, none⟩ = some (.bool true) := fun ob => (hkk ob).2.2.2
        clear hkk
        by_cases h0 : fv a true 1 = true
        · have HA := Lib.hid h0
          rw [h0]
          clear h0
          by_cases h1 : fv b true 1 = true
          · have HB := Lib.hid h1
            rw [h1]
            clear h1
            by_cases h2 : fv l true 0 = true
            · have HC := Lib.hid h2
              rw [h2]
              clear h2
              by_cases h3 : fv o true 0 = true
              · have HD := Lib.hid h3
                rw [h3]
                clear h3
                simp only [Bool.true_and]
                go_enter Tryz.func34, Tryz.ntmps34
                go_wp2_with (first | (go_at_call 10; refine (between_any _ _ _ _).mono ?_; rintro e w' ⟨rfl, rfl⟩; rw [Hk.out]) | (go_at_call 11; refine (colourValid_any _ _).mono ?_; rintro e w' ⟨rfl, rfl⟩; rw [Hc.out]) | (go_at_call 33; refine (fieldValid_any _ _ _ _).mono ?_; rintro e w' ⟨rfl, rfl⟩; first | rw [HA.out] | rw [HB.out] | rw [HC.out] | rw [HD.out]) | (go_at_call 16; refine (spells_any _ _ (hL' _ _) ht).mono ?_; rintro e w1 ⟨rfl, hb1⟩))
                go_ret
                refine ⟨?_, ?_⟩
                · rfl
                · go_grown
              · have h3' : fv o true 0 = false := by simpa using h3
                rw [h3']
                simp only [Bool.false_and]
                have HD := Lib.hid h3'
                clear h3 h3'
                go_enter Tryz.func34, Tryz.ntmps34
                go_wp2_with (first | (go_at_call 10; refine (between_any _ _ _ _).mono ?_; rintro e w' ⟨rfl, rfl⟩; rw [Hk.out]) | (go_at_call 11; refine (colourValid_any _ _).mono ?_; rintro e w' ⟨rfl, rfl⟩; rw [Hc.out]) | (go_at_call 33; refine (fieldValid_any _ _ _ _).mono ?_; rintro e w' ⟨rfl, rfl⟩; first | rw [HA.out] | rw [HB.out] | rw [HC.out] | rw [HD.out]) | (go_at_call 16; refine (spells_any _ _ (hL' _ _) ht).mono ?_; rintro e w1 ⟨rfl, hb1⟩))
                go_ret
                refine ⟨rfl, ?_⟩
                go_grown
            · have h2' : fv l true 0 = false := by simpa using h2
              rw [h2']
              simp only [Bool.false_and]
              have HC := Lib.hid h2'
              clear h2 h2'
              go_enter Tryz.func34, Tryz.ntmps34
              go_wp2_with (first | (go_at_call 10; refine (between_any _ _ _ _).mono ?_; rintro e w' ⟨rfl, rfl⟩; rw [Hk.out]) | (go_at_call 11; refine (colourValid_any _ _).mono ?_; rintro e w' ⟨rfl, rfl⟩; rw [Hc.out]) | (go_at_call 33; refine (fieldValid_any _ _ _ _).mono ?_; rintro e w' ⟨rfl, rfl⟩; first | rw [HA.out] | rw [HB.out] | rw [HC.out]) | (go_at_call 16; refine (spells_any _ _ (hL' _ _) ht).mono ?_; rintro e w1 ⟨rfl, hb1⟩))
              go_ret
              refine ⟨rfl, ?_⟩
              go_grown
          · have h1' : fv b true 1 = false := by simpa using h1
            rw [h1']
            simp only [Bool.false_and]
            have HB := Lib.hid h1'
            clear h1 h1'
            go_enter Tryz.func34, Tryz.ntmps34
            go_wp2_with (first | (go_at_call 10; refine (between_any _ _ _ _).mono ?_; rintro e w' ⟨rfl, rfl⟩; rw [Hk.out]) | (go_at_call 11; refine (colourValid_any _ _).mono ?_; rintro e w' ⟨rfl, rfl⟩; rw [Hc.out]) | (go_at_call 33; refine (fieldValid_any _ _ _ _).mono ?_; rintro e w' ⟨rfl, rfl⟩; first | rw [HA.out] | rw [HB.out]) | (go_at_call 16; refine (spells_any _ _ (hL' _ _) ht).mono ?_; rintro e w1 ⟨rfl, hb1⟩))
            go_ret
            refine ⟨rfl, ?_⟩
            go_grown
        · have h0' : fv a true 1 = false := by simpa using h0
          rw [h0']
          simp only [Bool.false_and]
          have HA := Lib.hid h0'
          clear h0 h0'
          go_enter Tryz.func34, Tryz.ntmps34
          go_wp2_with (first | (go_at_call 10; refine (between_any _ _ _ _).mono ?_; rintro e w' ⟨rfl, rfl⟩; rw [Hk.out]) | (go_at_call 11; refine (colourValid_any _ _).mono ?_; rintro e w' ⟨rfl, rfl⟩; rw [Hc.out]) | (go_at_call 33; refine (fieldValid_any _ _ _ _).mono ?_; rintro e w' ⟨rfl, rfl⟩; first | rw [HA.out]) | (go_at_call 16; refine (spells_any _ _ (hL' _ _) ht).mono ?_; rintro e w1 ⟨rfl, hb1⟩))
          go_ret
          refine ⟨rfl, ?_⟩
          go_grown
      · show Calls _ _ _ _ fun e w' => e = .returned (.bool (fv a true 1 && (fv b false 1 && (fv l true 0 && (fv o true 0 && t.toList.isEmpty))))) ∧ _
        have Hk : Hid (btw 4 1 6 = true) := Lib.hid (by decide)
        have c0' : ∀ ob, (w.alloc ob).cell? ⟨0, 16, none⟩ = some (.string ⟨(kNames.getD 4 []).toArray⟩) := fun ob => (hkk ob).1
        have c1' : ∀ ob, (w.alloc ob).cell? ⟨0, 17, none⟩ = some (.int .i64 1) := fun ob => (hkk ob).2.1
        have c2' : ∀ ob, (w.alloc ob).cell? ⟨0, 18, none⟩ = some (.bool false) := fun ob => (hkk ob).2.2.1
        have c3' : ∀ ob, (w.alloc ob).cell? ⟨0, 19, none⟩ = some (.bool true) := fun ob => (hkk ob).2.2.2
        clear hkk
        by_cases h0 : fv a true 1 = true
        · have HA := Lib.hid h0
          rw [h0]
          clear h0
          by_cases h1 : fv b false 1 = true
          · have HB := Lib.hid h1
            rw [h1]
            clear h1
            by_cases h2 : fv l true 0 = true
            · have HC := Lib.hid h2
              rw [h2]
              clear h2
              by_cases h3 : fv o true 0 = true
              · have HD := Lib.hid h3
                rw [h3]
                clear h3
                simp only [Bool.true_and]
                go_enter Tryz.func34, Tryz.ntmps34
                go_wp2_with (first | (go_at_call 10; refine (between_any _ _ _ _).mono ?_; rintro e w' ⟨rfl, rfl⟩; rw [Hk.out]) | (go_at_call 11; refine (colourValid_any _ _).mono ?_; rintro e w' ⟨rfl, rfl⟩; rw [Hc.out]) | (go_at_call 33; refine (fieldValid_any _ _ _ _).mono ?_; rintro e w' ⟨rfl, rfl⟩; first | rw [HA.out] | rw [HB.out] | rw [HC.out] | rw [HD.out]) | (go_at_call 16; refine (spells_any _ _ (hL' _ _) ht).mono ?_; rintro e w1 ⟨rfl, hb1⟩))
                go_ret
                refine ⟨?_, ?_⟩
                · rfl
                · go_grown
              · have h3' : fv o true 0 = false := by simpa using h3
                rw [h3']
                simp only [Bool.false_and]
                have HD := Lib.hid h3'
                clear h3 h3'
                go_enter Tryz.func34, Tryz.ntmps34
                go_wp2_with (first | (go_at_call 10; refine (between_any _ _ _ _).mono ?_; rintro e w' ⟨rfl, rfl⟩; rw [Hk.out]) | (go_at_call 11; refine (colourValid_any _ _).mono ?_; rintro e w' ⟨rfl, rfl⟩; rw [Hc.out]) | (go_at_call 33; refine (fieldValid_any _ _ _ _).mono ?_; rintro e w' ⟨rfl, rfl⟩; first | rw [HA.out] | rw [HB.out] | rw [HC.out] | rw [HD.out]) | (go_at_call 16; refine (spells_any _ _ (hL' _ _) ht).mono ?_; rintro e w1 ⟨rfl, hb1⟩))
                go_ret
                refine ⟨rfl, ?_⟩
                go_grown
            · have h2' : fv l true 0 = false := by simpa using h2
              rw [h2']
              simp only [Bool.false_and]
              have HC := Lib.hid h2'
              clear h2 h2'
              go_enter Tryz.func34, Tryz.ntmps34
              go_wp2_with (first | (go_at_call 10; refine (between_any _ _ _ _).mono ?_; rintro e w' ⟨rfl, rfl⟩; rw [Hk.out]) | (go_at_call 11; refine (colourValid_any _ _).mono ?_; rintro e w' ⟨rfl, rfl⟩; rw [Hc.out]) | (go_at_call 33; refine (fieldValid_any _ _ _ _).mono ?_; rintro e w' ⟨rfl, rfl⟩; first | rw [HA.out] | rw [HB.out] | rw [HC.out]) | (go_at_call 16; refine (spells_any _ _ (hL' _ _) ht).mono ?_; rintro e w1 ⟨rfl, hb1⟩))
              go_ret
              refine ⟨rfl, ?_⟩
              go_grown
          · have h1' : fv b false 1 = false := by simpa using h1
            rw [h1']
            simp only [Bool.false_and]
            have HB := Lib.hid h1'
            clear h1 h1'
            go_enter Tryz.func34, Tryz.ntmps34
            go_wp2_with (first | (go_at_call 10; refine (between_any _ _ _ _).mono ?_; rintro e w' ⟨rfl, rfl⟩; rw [Hk.out]) | (go_at_call 11; refine (colourValid_any _ _).mono ?_; rintro e w' ⟨rfl, rfl⟩; rw [Hc.out]) | (go_at_call 33; refine (fieldValid_any _ _ _ _).mono ?_; rintro e w' ⟨rfl, rfl⟩; first | rw [HA.out] | rw [HB.out]) | (go_at_call 16; refine (spells_any _ _ (hL' _ _) ht).mono ?_; rintro e w1 ⟨rfl, hb1⟩))
            go_ret
            refine ⟨rfl, ?_⟩
            go_grown
        · have h0' : fv a true 1 = false := by simpa using h0
          rw [h0']
          simp only [Bool.false_and]
          have HA := Lib.hid h0'
          clear h0 h0'
          go_enter Tryz.func34, Tryz.ntmps34
          go_wp2_with (first | (go_at_call 10; refine (between_any _ _ _ _).mono ?_; rintro e w' ⟨rfl, rfl⟩; rw [Hk.out]) | (go_at_call 11; refine (colourValid_any _ _).mono ?_; rintro e w' ⟨rfl, rfl⟩; rw [Hc.out]) | (go_at_call 33; refine (fieldValid_any _ _ _ _).mono ?_; rintro e w' ⟨rfl, rfl⟩; first | rw [HA.out]) | (go_at_call 16; refine (spells_any _ _ (hL' _ _) ht).mono ?_; rintro e w1 ⟨rfl, hb1⟩))
          go_ret
          refine ⟨rfl, ?_⟩
          go_grown
      · show Calls _ _ _ _ fun e w' => e = .returned (.bool (fv a true 1 && (fv b false 1 && (fv l false 0 && (fv o false 0 && t.toList.isEmpty))))) ∧ _
        have Hk : Hid (btw 5 1 6 = true) := Lib.hid (by decide)
        have c0' : ∀ ob, (w.alloc ob).cell? ⟨0, 20, none⟩ = some (.string ⟨(kNames.getD 5 []).toArray⟩) := fun ob => (hkk ob).1
        have c1' : ∀ ob, (w.alloc ob).cell? ⟨0, 21, none⟩ = some (.int .i64 1) := fun ob => (hkk ob).2.1
        have c2' : ∀ ob, (w.alloc ob).cell? ⟨0, 22, none⟩ = some (.bool false) := fun ob => (hkk ob).2.2.1
        have c3' : ∀ ob, (w.alloc ob).cell? ⟨0, 23, none⟩ = some (.bool false) := fun ob => (hkk ob).2.2.2
        clear hkk
        by_cases h0 : fv a true 1 = true
        · have HA := Lib.hid h0
          rw [h0]
          clear h0
          by_cases h1 : fv b false 1 = true
          · have HB := Lib.hid h1
            rw [h1]
            clear h1
            by_cases h2 : fv l false 0 = true
            · have HC := Lib.hid h2
              rw [h2]
              clear h2
              by_cases h3 : fv o false 0 = true
              · have HD := Lib.hid h3
                rw [h3]
                clear h3
                simp only [Bool.true_and]
                go_enter Tryz.func34, Tryz.ntmps34
                go_wp2_with (first | (go_at_call 10; refine (between_any _ _ _ _).mono ?_; rintro e w' ⟨rfl, rfl⟩; rw [Hk.out]) | (go_at_call 11; refine (colourValid_any _ _).mono ?_; rintro e w' ⟨rfl, rfl⟩; rw [Hc.out]) | (go_at_call 33; refine (fieldValid_any _ _ _ _).mono ?_; rintro e w' ⟨rfl, rfl⟩; first | rw [HA.out] | rw [HB.out] | rw [HC.out] | rw [HD.out]) | (go_at_call 16; refine (spells_any _ _ (hL' _ _) ht).mono ?_; rintro e w1 ⟨rfl, hb1⟩))
                go_ret
                refine ⟨?_, ?_⟩
                · rfl
                · go_grown
              · have h3' : fv o false 0 = false := by simpa using h3
                rw [h3']
                simp only [Bool.false_and]
                have HD := Lib.hid h3'
                clear h3 h3'
                go_enter Tryz.func34, Tryz.ntmps34
                go_wp2_with (first | (go_at_call 10; refine (between_any _ _ _ _).mono ?_; rintro e w' ⟨rfl, rfl⟩; rw [Hk.out]) | (go_at_call 11; refine (colourValid_any _ _).mono ?_; rintro e w' ⟨rfl, rfl⟩; rw [Hc.out]) | (go_at_call 33; refine (fieldValid_any _ _ _ _).mono ?_; rintro e w' ⟨rfl, rfl⟩; first | rw [HA.out] | rw [HB.out] | rw [HC.out] | rw [HD.out]) | (go_at_call 16; refine (spells_any _ _ (hL' _ _) ht).mono ?_; rintro e w1 ⟨rfl, hb1⟩))
                go_ret
                refine ⟨rfl, ?_⟩
                go_grown
            · have h2' : fv l false 0 = false := by simpa using h2
              rw [h2']
              simp only [Bool.false_and]
              have HC := Lib.hid h2'
              clear h2 h2'
              go_enter Tryz.func34, Tryz.ntmps34
              go_wp2_with (first | (go_at_call 10; refine (between_any _ _ _ _).mono ?_; rintro e w' ⟨rfl, rfl⟩; rw [Hk.out]) | (go_at_call 11; refine (colourValid_any _ _).mono ?_; rintro e w' ⟨rfl, rfl⟩; rw [Hc.out]) | (go_at_call 33; refine (fieldValid_any _ _ _ _).mono ?_; rintro e w' ⟨rfl, rfl⟩; first | rw [HA.out] | rw [HB.out] | rw [HC.out]) | (go_at_call 16; refine (spells_any _ _ (hL' _ _) ht).mono ?_; rintro e w1 ⟨rfl, hb1⟩))
              go_ret
              refine ⟨rfl, ?_⟩
              go_grown
          · have h1' : fv b false 1 = false := by simpa using h1
            rw [h1']
            simp only [Bool.false_and]
            have HB := Lib.hid h1'
            clear h1 h1'
            go_enter Tryz.func34, Tryz.ntmps34
            go_wp2_with (first | (go_at_call 10; refine (between_any _ _ _ _).mono ?_; rintro e w' ⟨rfl, rfl⟩; rw [Hk.out]) | (go_at_call 11; refine (colourValid_any _ _).mono ?_; rintro e w' ⟨rfl, rfl⟩; rw [Hc.out]) | (go_at_call 33; refine (fieldValid_any _ _ _ _).mono ?_; rintro e w' ⟨rfl, rfl⟩; first | rw [HA.out] | rw [HB.out]) | (go_at_call 16; refine (spells_any _ _ (hL' _ _) ht).mono ?_; rintro e w1 ⟨rfl, hb1⟩))
            go_ret
            refine ⟨rfl, ?_⟩
            go_grown
        · have h0' : fv a true 1 = false := by simpa using h0
          rw [h0']
          simp only [Bool.false_and]
          have HA := Lib.hid h0'
          clear h0 h0'
          go_enter Tryz.func34, Tryz.ntmps34
          go_wp2_with (first | (go_at_call 10; refine (between_any _ _ _ _).mono ?_; rintro e w' ⟨rfl, rfl⟩; rw [Hk.out]) | (go_at_call 11; refine (colourValid_any _ _).mono ?_; rintro e w' ⟨rfl, rfl⟩; rw [Hc.out]) | (go_at_call 33; refine (fieldValid_any _ _ _ _).mono ?_; rintro e w' ⟨rfl, rfl⟩; first | rw [HA.out]) | (go_at_call 16; refine (spells_any _ _ (hL' _ _) ht).mono ?_; rintro e w1 ⟨rfl, hb1⟩))
          go_ret
          refine ⟨rfl, ?_⟩
          go_grown
      · show Calls _ _ _ _ fun e w' => e = .returned (.bool (fv a true 1 && (fv b false 1 && (fv l true 0 && (fv o true 0 && spB t))))) ∧ _
        have Hk : Hid (btw 6 1 6 = true) := Lib.hid (by decide)
        have c0' : ∀ ob, (w.alloc ob).cell? ⟨0, 24, none⟩ = some (.string ⟨(kNames.getD 6 []).toArray⟩) := fun ob => (hkk ob).1
        have c1' : ∀ ob, (w.alloc ob).cell? ⟨0, 25, none⟩ = some (.int .i64 1) := fun ob => (hkk ob).2.1
        have c2' : ∀ ob, (w.alloc ob).cell? ⟨0, 26, none⟩ = some (.bool true) := fun ob => (hkk ob).2.2.1
        have c3' : ∀ ob, (w.alloc ob).cell? ⟨0, 27, none⟩ = some (.bool true) := fun ob => (hkk ob).2.2.2
        clear hkk
        by_cases h0 : fv a true 1 = true
        · have HA := Lib.hid h0
          rw [h0]
          clear h0
          by_cases h1 : fv b false 1 = true
          · have HB := Lib.hid h1
            rw [h1]
            clear h1
            by_cases h2 : fv l true 0 = true
            · have HC := Lib.hid h2
              rw [h2]
              clear h2
              by_cases h3 : fv o true 0 = true
              · have HD := Lib.hid h3
                rw [h3]
                clear h3
                simp only [Bool.true_and]
                go_enter Tryz.func34, Tryz.ntmps34
                go_wp2_with (first | (go_at_call 10; refine (between_any _ _ _ _).mono ?_; rintro e w' ⟨rfl, rfl⟩; rw [Hk.out]) | (go_at_call 11; refine (colourValid_any _ _).mono ?_; rintro e w' ⟨rfl, rfl⟩; rw [Hc.out]) | (go_at_call 33; refine (fieldValid_any _ _ _ _).mono ?_; rintro e w' ⟨rfl, rfl⟩; first | rw [HA.out] | rw [HB.out] | rw [HC.out] | rw [HD.out]) | (go_at_call 16; refine (spells_any _ _ (hL' _ _) ht).mono ?_; rintro e w1 ⟨rfl, hb1⟩))
                go_ret
                exact ⟨rfl, (((Below.refl _ _).alloc (Nat.le_refl _) _).alloc (by simp) _).trans (hb1.mono (by simp; omega))⟩
              · have h3' : fv o true 0 = false := by simpa using h3
                rw [h3']
                simp only [Bool.false_and]
                have HD := Lib.hid h3'
                clear h3 h3'
                go_enter Tryz.func34, Tryz.ntmps34
                go_wp2_with (first | (go_at_call 10; refine (between_any _ _ _ _).mono ?_; rintro e w' ⟨rfl, rfl⟩; rw [Hk.out]) | (go_at_call 11; refine (colourValid_any _ _).mono ?_; rintro e w' ⟨rfl, rfl⟩; rw [Hc.out]) | (go_at_call 33; refine (fieldValid_any _ _ _ _).mono ?_; rintro e w' ⟨rfl, rfl⟩; first | rw [HA.out] | rw [HB.out] | rw [HC.out] | rw [HD.out]) | (go_at_call 16; refine (spells_any _ _ (hL' _ _) ht).mono ?_; rintro e w1 ⟨rfl, hb1⟩))
                go_ret
                refine ⟨rfl, ?_⟩
                go_grown
            · have h2' : fv l true 0 = false := by simpa using h2
              rw [h2']
              simp only [Bool.false_and]
              have HC := Lib.hid h2'
              clear h2 h2'
              go_enter Tryz.func34, Tryz.ntmps34
              go_wp2_with (first | (go_at_call 10; refine (between_any _ _ _ _).mono ?_; rintro e w' ⟨rfl, rfl⟩; rw [Hk.out]) | (go_at_call 11; refine (colourValid_any _ _).mono ?_; rintro e w' ⟨rfl, rfl⟩; rw [Hc.out]) | (go_at_call 33; refine (fieldValid_any _ _ _ _).mono ?_; rintro e w' ⟨rfl, rfl⟩; first | rw [HA.out] | rw [HB.out] | rw [HC.out]) | (go_at_call 16; refine (spells_any _ _ (hL' _ _) ht).mono ?_; rintro e w1 ⟨rfl, hb1⟩))
              go_ret
              refine ⟨rfl, ?_⟩
              go_grown
          · have h1' : fv b false 1 = false := by simpa using h1
            rw [h1']
            simp only [Bool.false_and]
            have HB := Lib.hid h1'
            clear h1 h1'
            go_enter Tryz.func34, Tryz.ntmps34
            go_wp2_with (first | (go_at_call 10; refine (between_any _ _ _ _).mono ?_; rintro e w' ⟨rfl, rfl⟩; rw [Hk.out]) | (go_at_call 11; refine (colourValid_any _ _).mono ?_; rintro e w' ⟨rfl, rfl⟩; rw [Hc.out]) | (go_at_call 33; refine (fieldValid_any _ _ _ _).mono ?_; rintro e w' ⟨rfl, rfl⟩; first | rw [HA.out] | rw [HB.out]) | (go_at_call 16; refine (spells_any _ _ (hL' _ _) ht).mono ?_; rintro e w1 ⟨rfl, hb1⟩))
            go_ret
            refine ⟨rfl, ?_⟩
            go_grown
        · have h0' : fv a true 1 = false := by simpa using h0
          rw [h0']
          simp only [Bool.false_and]
          have HA := Lib.hid h0'
          clear h0 h0'
          go_enter Tryz.func34, Tryz.ntmps34
          go_wp2_with (first | (go_at_call 10; refine (between_any _ _ _ _).mono ?_; rintro e w' ⟨rfl, rfl⟩; rw [Hk.out]) | (go_at_call 11; refine (colourValid_any _ _).mono ?_; rintro e w' ⟨rfl, rfl⟩; rw [Hc.out]) | (go_at_call 33; refine (fieldValid_any _ _ _ _).mono ?_; rintro e w' ⟨rfl, rfl⟩; first | rw [HA.out]) | (go_at_call 16; refine (spells_any _ _ (hL' _ _) ht).mono ?_; rintro e w1 ⟨rfl, hb1⟩))
          go_ret
          refine ⟨rfl, ?_⟩
          go_grown
    · have hc' : btw c 1 8 = false := by simpa using hc
      have e0 : itB k c l o a b t = false := by unfold itB; rw [hk, hc']; rfl
      rw [e0]
      have Hk := Lib.hid hk
      have Hc := Lib.hid hc'
      clear hk hc hc' e0 hK hL
      go_enter Tryz.func34, Tryz.ntmps34
      go_wp2_with (first | (go_at_call 10; refine (between_any _ _ _ _).mono ?_; rintro e w' ⟨rfl, rfl⟩; rw [Hk.out]) | (go_at_call 11; refine (colourValid_any _ _).mono ?_; rintro e w' ⟨rfl, rfl⟩; rw [Hc.out]))
      go_ret
      refine ⟨rfl, ?_⟩
      go_grown
  · have hk' : btw k 1 6 = false := by simpa using hk
    have e0 : itB k c l o a b t = false := by unfold itB; rw [hk']; rfl
    rw [e0]
    have Hk := Lib.hid hk'
    clear hk hk' e0 hK hL
    go_enter Tryz.func34, Tryz.ntmps34
    go_wp2_with (first | (go_at_call 10; refine (between_any _ _ _ _).mono ?_; rintro e w' ⟨rfl, rfl⟩; rw [Hk.out]))
    go_ret
    refine ⟨rfl, ?_⟩
    go_grown
end Go.Proofs.YtbogmdelceikgaaGreatDoor
