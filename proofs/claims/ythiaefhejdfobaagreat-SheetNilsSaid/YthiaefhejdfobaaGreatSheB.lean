/-
  faultsValid, ValidRoll, ValidRules of package sheet and of its reference. By an AI agent.
-/
import Derived.Test.YthiaefhejdfobaaGreatSheA
import Derived.Deep.RegionHeld3
import Derived.BigQuiet
namespace Go.Proofs.YthiaefhejdfobaaGreat
set_option linter.unusedVariables false
set_option linter.unusedSimpArgs false
open Go.RowKit

/-- Faults in their order, apart, within a length. -/
def fvK (L : Int) : List (Int × Int) → Int → Bool
  | [], _ => true
  | f :: l, m => if f.1 < m ∨ f.2 ≤ f.1 ∨ L < f.2 then false else fvK L l f.2
def faultB (L : Int) (l : List (Int × Int)) : Bool := decide (l.length ≤ 16) && fvK L l 0
def rollB (i0 i1 i2 i3 i4 i5 i6 : Int) (l : List (Int × Int)) : Bool := btw i0 1 1000000000 && (btw i3 1 1000000000 && (btw i4 0 100000 && (shB i1 i2 i5 i6 && faultB i6 l)))
def rulesB (y0 y1 y2 y3 y4 : Int) : Bool := btw y2 0 100000 && (btw y3 0 100000 && (btw y4 0 100000 && (btw y0 1 1000 && btw y1 1 1000)))
theorem fvK_at {L x : Int} {l : List (Int × Int)} {k : Nat} (h : k < l.length) : fvK L (l.drop k) x = if (gp l k).1 < x ∨ (gp l k).2 ≤ (gp l k).1 ∨ L < (gp l k).2 then false else fvK L (l.drop (k + 1)) (gp l k).2 := by
  rw [drop_gp h]; rfl
theorem fvK_end {L x : Int} {l : List (Int × Int)} : fvK L (l.drop l.length) x = true := by simp [fvK]
theorem len_pos {α : Type} {l : List α} (h : 0 < l.length) : l ≠ [] := by rintro rfl; simp at h
set_option maxHeartbeats 1000000 in
theorem faultsS_any (L : Int) (a : Option Addr) (l : List (Int × Int)) (c : Nat) (w : World) (hA : PairsS w a l) :
    Calls Tryz.prog 58 #[.int .i64 L, .slice a l.length c] w fun e w' => e = .returned (.bool (faultB L l)) ∧ Below w.heap.size w w' := by
  obtain ⟨hlen, hf, blk, off, hadr, hc⟩ := hA
  have HC := Lib.hid hc
  have HL : Hid (0 < l.length → a = some ⟨blk, off, none⟩) := Lib.hid fun h => hadr (len_pos h)
  clear hc hadr hf
  unfold faultB
  by_cases h16 : l.length ≤ 16
  · rw [decide_eq_true h16, Bool.true_and]
    obtain ⟨R, hR⟩ : ∃ R, fvK L l 0 = R := ⟨_, rfl⟩
    rw [hR]
    have HR : Hid (fvK L (l.drop 0) 0 = R) := Lib.hid (by rw [List.drop_zero]; exact hR)
    clear hR
    go_enter Tryz.func58, Tryz.ntmps58
    go_wp2_with fail
    go_loopw [5, 13] (fun m i wr => ∃ (k : Nat) (x : Int), k ≤ l.length ∧ i = .int .i64 k ∧ m = .int .i64 x ∧ Below w.heap.size w wr ∧ Hid (fvK L (l.drop k) x = R)) (fun _ i _ => l.length - (intOf i).toNat)
    case atStart => exact ⟨0, 0, Nat.zero_le _, rfl, rfl, Below.refl _ _, HR⟩
    case round =>
      obtain ⟨k, x, hk, rfl, rfl, hb, HK⟩ := hrel
      by_cases hlt : k < l.length
      · obtain rfl := HL.out (by omega)
        have hc := HC.out k hlt
        have c0 := cell_below hc.1 hb
        have c1 := cell_below hc.2 hb
        clear hc
        have HK2 := HK.out
        rw [fvK_at hlt] at HK2
        clear HK
        have HK := Lib.hid HK2
        clear HK2
        generalize gp l k = f at *
        obtain ⟨x0, x1⟩ := f
        simp only at c0 c1 HK
        have hbs := hb.size
        by_cases h1 : x0 < x ∨ x1 ≤ x0 ∨ L < x1
        · obtain rfl : false = R := by rw [← HK.out, if_pos h1]
          clear HK HR
          by_cases g1 : x0 < x
          · go_wp2_with fail
            go_ret
            exact ⟨rfl, hb.alloc hbs _⟩
          · by_cases g2 : x1 ≤ x0
            · go_wp2_with fail
              go_ret
              exact ⟨rfl, hb.alloc hbs _⟩
            · have g3 : L < x1 := by omega
              clear h1
              go_wp2_with fail
              go_ret
              exact ⟨rfl, hb.alloc hbs _⟩
        · have HK3 : Hid (fvK L (l.drop (k + 1)) x1 = R) := Lib.hid (by rw [← HK.out, if_neg h1])
          clear HK HR
          have g1 : ¬ x0 < x := by omega
          have g2 : ¬ x1 ≤ x0 := by omega
          have g3 : ¬ L < x1 := by omega
          clear h1
          go_wp2_with fail
          go_roundw
          case rel => exact ⟨k + 1, x1, by omega, by go_num, rfl, hb.alloc hbs _, HK3⟩
          case measure => simp [intOf]; omega
      · obtain rfl : k = l.length := by omega
        obtain rfl : true = R := by rw [← HK.out, fvK_end]
        clear HK HR
        go_wp2_with fail
        go_ret
        exact ⟨rfl, hb⟩
  · rw [decide_eq_false h16, Bool.false_and]
    have h16 : 16 < l.length := by omega
    go_enter Tryz.func58, Tryz.ntmps58
    go_wp2_with fail
    go_ret
    exact ⟨rfl, Below.refl _ _⟩
set_option maxHeartbeats 1000000 in
theorem rollS_0 (i0 i1 i2 i3 i4 i5 i6 : Int) (a : Option Addr) (l : List (Int × Int)) (c : Nat) (w : World) (hA : PairsS w a l) (h0 : btw i0 1 1000000000 = false) :
    Calls Tryz.prog 28 #[.agg #[.int .i64 i0, .int .i64 i1, .int .i64 i2, .int .i64 i3, .int .i64 i4, .int .i64 i5, .int .i64 i6, .slice a l.length c]] w fun e w' => e = .returned (.bool (false)) ∧ Below w.heap.size w w' := by
  have H0 := Lib.hid (fun W => betS_v h0 W)
  clear h0
  clear hA
  go_enter Tryz.func28, Tryz.ntmps28
  go_wp2_with fail
  refine (H0.out _).mono ?_
  rintro e w0 ⟨rfl, rfl⟩
  go_wp2_with fail
  go_ret
  exact ⟨rfl, (Below.refl _ _).alloc (Nat.le_refl _) _⟩
set_option maxHeartbeats 1000000 in
theorem rollS_1 (i0 i1 i2 i3 i4 i5 i6 : Int) (a : Option Addr) (l : List (Int × Int)) (c : Nat) (w : World) (hA : PairsS w a l) (h0 : btw i0 1 1000000000 = true) (h1 : btw i3 1 1000000000 = false) :
    Calls Tryz.prog 28 #[.agg #[.int .i64 i0, .int .i64 i1, .int .i64 i2, .int .i64 i3, .int .i64 i4, .int .i64 i5, .int .i64 i6, .slice a l.length c]] w fun e w' => e = .returned (.bool (false)) ∧ Below w.heap.size w w' := by
  have H0 := Lib.hid (fun W => betS_v h0 W)
  have H1 := Lib.hid (fun W => betS_v h1 W)
  clear h0 h1
  clear hA
  go_enter Tryz.func28, Tryz.ntmps28
  go_wp2_with fail
  refine (H0.out _).mono ?_
  rintro e w0 ⟨rfl, rfl⟩
  go_wp2_with fail
  refine (H1.out _).mono ?_
  rintro e w1 ⟨rfl, rfl⟩
  go_wp2_with fail
  go_ret
  exact ⟨rfl, (Below.refl _ _).alloc (Nat.le_refl _) _⟩
set_option maxHeartbeats 1000000 in
theorem rollS_2 (i0 i1 i2 i3 i4 i5 i6 : Int) (a : Option Addr) (l : List (Int × Int)) (c : Nat) (w : World) (hA : PairsS w a l) (h0 : btw i0 1 1000000000 = true) (h1 : btw i3 1 1000000000 = true) (h2 : btw i4 0 100000 = false) :
    Calls Tryz.prog 28 #[.agg #[.int .i64 i0, .int .i64 i1, .int .i64 i2, .int .i64 i3, .int .i64 i4, .int .i64 i5, .int .i64 i6, .slice a l.length c]] w fun e w' => e = .returned (.bool (false)) ∧ Below w.heap.size w w' := by
  have H0 := Lib.hid (fun W => betS_v h0 W)
  have H1 := Lib.hid (fun W => betS_v h1 W)
  have H2 := Lib.hid (fun W => dayS_v h2 W)
  clear h0 h1 h2
  clear hA
  go_enter Tryz.func28, Tryz.ntmps28
  go_wp2_with fail
  refine (H0.out _).mono ?_
  rintro e w0 ⟨rfl, rfl⟩
  go_wp2_with fail
  refine (H1.out _).mono ?_
  rintro e w1 ⟨rfl, rfl⟩
  go_wp2_with fail
  refine (H2.out _).mono ?_
  rintro e w2 ⟨rfl, rfl⟩
  go_wp2_with fail
  go_ret
  exact ⟨rfl, (Below.refl _ _).alloc (Nat.le_refl _) _⟩
set_option maxHeartbeats 1000000 in
theorem rollS_3 (i0 i1 i2 i3 i4 i5 i6 : Int) (a : Option Addr) (l : List (Int × Int)) (c : Nat) (w : World) (hA : PairsS w a l) (h0 : btw i0 1 1000000000 = true) (h1 : btw i3 1 1000000000 = true) (h2 : btw i4 0 100000 = true) (h3 : shB i1 i2 i5 i6 = false) :
    Calls Tryz.prog 28 #[.agg #[.int .i64 i0, .int .i64 i1, .int .i64 i2, .int .i64 i3, .int .i64 i4, .int .i64 i5, .int .i64 i6, .slice a l.length c]] w fun e w' => e = .returned (.bool (false)) ∧ Below w.heap.size w w' := by
  have H0 := Lib.hid (fun W => betS_v h0 W)
  have H1 := Lib.hid (fun W => betS_v h1 W)
  have H2 := Lib.hid (fun W => dayS_v h2 W)
  have H3 := Lib.hid (fun W => sheetV_v i1 i2 i5 i6 h3 W)
  clear h0 h1 h2 h3
  clear hA
  go_enter Tryz.func28, Tryz.ntmps28
  go_wp2_with fail
  refine (H0.out _).mono ?_
  rintro e w0 ⟨rfl, rfl⟩
  go_wp2_with fail
  refine (H1.out _).mono ?_
  rintro e w1 ⟨rfl, rfl⟩
  go_wp2_with fail
  refine (H2.out _).mono ?_
  rintro e w2 ⟨rfl, rfl⟩
  go_wp2_with fail
  refine (H3.out _).mono ?_
  rintro e w3 ⟨rfl, rfl⟩
  go_wp2_with fail
  go_ret
  exact ⟨rfl, (Below.refl _ _).alloc (Nat.le_refl _) _⟩
set_option maxHeartbeats 1000000 in
theorem rollS_4 (i0 i1 i2 i3 i4 i5 i6 : Int) (a : Option Addr) (l : List (Int × Int)) (c : Nat) (w : World) (hA : PairsS w a l) (h0 : btw i0 1 1000000000 = true) (h1 : btw i3 1 1000000000 = true) (h2 : btw i4 0 100000 = true) (h3 : shB i1 i2 i5 i6 = true) :
    Calls Tryz.prog 28 #[.agg #[.int .i64 i0, .int .i64 i1, .int .i64 i2, .int .i64 i3, .int .i64 i4, .int .i64 i5, .int .i64 i6, .slice a l.length c]] w fun e w' => e = .returned (.bool (faultB i6 l)) ∧ Below w.heap.size w w' := by
  have H0 := Lib.hid (fun W => betS_v h0 W)
  have H1 := Lib.hid (fun W => betS_v h1 W)
  have H2 := Lib.hid (fun W => dayS_v h2 W)
  have H3 := Lib.hid (fun W => sheetV_v i1 i2 i5 i6 h3 W)
  clear h0 h1 h2 h3
  have HA : Hid (PairsS (w.alloc (.cells #[.int .i64 i0, .int .i64 i1, .int .i64 i2, .int .i64 i3, .int .i64 i4, .int .i64 i5, .int .i64 i6, .slice a l.length c] 24)) a l) := Lib.hid (hA.below ((Below.refl _ _).alloc (Nat.le_refl _) _))
  have HF := Lib.hid (faultsS_any i6 a l c _ HA.out)
  clear hA HA
  generalize faultB i6 l = v at *
  go_enter Tryz.func28, Tryz.ntmps28
  go_wp2_with fail
  refine (H0.out _).mono ?_
  rintro e w0 ⟨rfl, rfl⟩
  go_wp2_with fail
  refine (H1.out _).mono ?_
  rintro e w1 ⟨rfl, rfl⟩
  go_wp2_with fail
  refine (H2.out _).mono ?_
  rintro e w2 ⟨rfl, rfl⟩
  go_wp2_with fail
  refine (H3.out _).mono ?_
  rintro e w3 ⟨rfl, rfl⟩
  go_wp2_with fail
  refine HF.out.mono ?_
  rintro e w5 ⟨rfl, hb5⟩
  go_wp2_with fail
  go_ret
  exact ⟨rfl, box_below hb5⟩
theorem rollS_any (i0 i1 i2 i3 i4 i5 i6 : Int) (a : Option Addr) (l : List (Int × Int)) (c : Nat) (w : World) (hA : PairsS w a l) :
    Calls Tryz.prog 28 #[.agg #[.int .i64 i0, .int .i64 i1, .int .i64 i2, .int .i64 i3, .int .i64 i4, .int .i64 i5, .int .i64 i6, .slice a l.length c]] w fun e w' => e = .returned (.bool (rollB i0 i1 i2 i3 i4 i5 i6 l)) ∧ Below w.heap.size w w' := by
  unfold rollB
  cases h0 : btw i0 1 1000000000 with
  | false => exact rollS_0 i0 i1 i2 i3 i4 i5 i6 a l c w hA h0
  | true =>
    cases h1 : btw i3 1 1000000000 with
    | false => exact rollS_1 i0 i1 i2 i3 i4 i5 i6 a l c w hA h0 h1
    | true =>
      cases h2 : btw i4 0 100000 with
      | false => exact rollS_2 i0 i1 i2 i3 i4 i5 i6 a l c w hA h0 h1 h2
      | true =>
        cases h3 : shB i1 i2 i5 i6 with
        | false => exact rollS_3 i0 i1 i2 i3 i4 i5 i6 a l c w hA h0 h1 h2 h3
        | true =>
          exact rollS_4 i0 i1 i2 i3 i4 i5 i6 a l c w hA h0 h1 h2 h3
end Go.Proofs.YthiaefhejdfobaaGreat
