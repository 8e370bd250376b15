/-
  free and Clear of the reference of package sheet; hit of its laws. By an AI agent.
-/
import Derived.Test.YthiaefhejdfobaaSheB
import Derived.Deep.RegionHeld3
import Derived.BigQuiet
namespace Go.Proofs.Ythiaefhejdfobaa
set_option linter.unusedVariables false
set_option linter.unusedSimpArgs false
open Go.RowKit

theorem freeB_at {need p : Int} {l : List (Int × Int)} {k : Nat} (h : k < l.length) : freeB need (l.drop k) p = (!(hitF need p (gp l k)) && freeB need (l.drop (k + 1)) p) := by
  rw [drop_gp h]; rfl
theorem freeB_end {need p : Int} {l : List (Int × Int)} : freeB need (l.drop l.length) p = true := by simp [freeB]
theorem hitL_at {x : Int} {l : List (Int × Int)} {k : Nat} (h : k < l.length) : hitL (l.drop k) x = ((decide ((gp l k).1 ≤ x) && decide (x < (gp l k).2)) || hitL (l.drop (k + 1)) x) := by
  rw [drop_gp h]; rfl
theorem hitL_end {x : Int} {l : List (Int × Int)} : hitL (l.drop l.length) x = false := by simp [hitL]
theorem bestK_at {L need : Int} {l : List (Int × Int)} {k : Nat} {s : Int × Bool} (h : k < l.length) : bestK L need l (l.drop k) s = bestK L need l (l.drop (k + 1)) (if 0 < (gp l k).2 ∧ (gp l k).2 ≤ L - need ∧ freeB need l (gp l k).2 = true ∧ (s.2 = false ∨ (gp l k).2 < s.1) then ((gp l k).2, true) else s) := by
  rw [drop_gp h]; rfl
theorem bestK_end {L need : Int} {l : List (Int × Int)} {s : Int × Bool} : bestK L need l (l.drop l.length) s = s := by simp [bestK]
set_option maxHeartbeats 1000000 in
theorem freeR_any (p need : Int) (a : Option Addr) (l : List (Int × Int)) (c : Nat) (w : World) (hA : PairsS w a l) (hp : 0 ≤ p) (hp2 : p ≤ 9223372036854775807) :
    Calls Try.prog 27 #[.int .i64 p, .int .i64 need, .slice a l.length c] w fun e w' => e = .returned (.bool (freeB need l p)) ∧ Below w.heap.size w w' := by
  obtain ⟨hlen, hf, blk, off, hadr, hc⟩ := hA
  have HC := Lib.hid hc
  have HL : Hid (0 < l.length → a = some ⟨blk, off, none⟩) := Lib.hid fun h => hadr (len_pos h)
  have HB := Lib.hid hf
  clear hc hadr hf
  obtain ⟨R, hR⟩ : ∃ R, freeB need l p = R := ⟨_, rfl⟩
  rw [hR]
  have HR : Hid (freeB need (l.drop 0) p = R) := Lib.hid (by rw [List.drop_zero]; exact hR)
  clear hR
  go_enter Try.func27, Try.ntmps27
  go_wp2_with fail
  go_loopw [7] (fun i wr => ∃ k : Nat, k ≤ l.length ∧ i = .int .i64 k ∧ Below w.heap.size w wr ∧ Hid (freeB need (l.drop k) p = R)) (fun i _ => l.length - (intOf i).toNat)
  case atStart => exact ⟨0, Nat.zero_le _, rfl, Below.refl _ _, HR⟩
  case round =>
    obtain ⟨k, hk, rfl, hb, HK⟩ := hrel
    by_cases hlt : k < l.length
    · obtain rfl := HL.out (by omega)
      have hc := HC.out k hlt
      have c0 := cell_below hc.1 hb
      have c1 := cell_below hc.2 hb
      obtain ⟨b0, b1⟩ := HB.out k hlt
      unfold I64 at b0 b1
      clear hc
      have HK2 := HK.out
      rw [freeB_at hlt] at HK2
      clear HK
      have HK := Lib.hid HK2
      clear HK2 HC HL HB
      generalize gp l k = f at *
      obtain ⟨x0, x1⟩ := f
      simp only at c0 c1 b0 b1
      have hbs := hb.size
      by_cases g1 : x0 < x1
      · by_cases g2 : p < x1
        · by_cases g3 : x0 < 0
          · have hfl : hitF need p (x0, x1) = true := by unfold hitF; simp; omega
            obtain rfl : false = R := by rw [← HK.out, hfl, Bool.not_true, Bool.false_and]
            clear HK hfl HR
            go_wp2_with fail
            go_ret
            exact ⟨rfl, hb.alloc hbs _⟩
          · by_cases g4 : x0 - p < need
            · have hfl : hitF need p (x0, x1) = true := by unfold hitF; simp; omega
              obtain rfl : false = R := by rw [← HK.out, hfl, Bool.not_true, Bool.false_and]
              clear HK hfl HR
              go_wp2_with fail
              go_ret
              exact ⟨rfl, hb.alloc hbs _⟩
            · have hfl : hitF need p (x0, x1) = false := by unfold hitF; simp; omega
              have HK3 : Hid (freeB need (l.drop (k + 1)) p = R) := Lib.hid (by rw [← HK.out, hfl, Bool.not_false, Bool.true_and])
              clear HK hfl
              go_wp2_with fail
              go_roundw
              case rel => exact ⟨k + 1, by omega, by go_num, hb.alloc hbs _, HK3⟩
              case measure => simp [intOf]; omega
        · have hfl : hitF need p (x0, x1) = false := by unfold hitF; simp; omega
          have HK3 : Hid (freeB need (l.drop (k + 1)) p = R) := Lib.hid (by rw [← HK.out, hfl, Bool.not_false, Bool.true_and])
          clear HK hfl
          go_wp2_with fail
          go_roundw
          case rel => exact ⟨k + 1, by omega, by go_num, hb.alloc hbs _, HK3⟩
          case measure => simp [intOf]; omega
      · have hfl : hitF need p (x0, x1) = false := by unfold hitF; simp; omega
        have HK3 : Hid (freeB need (l.drop (k + 1)) p = R) := Lib.hid (by rw [← HK.out, hfl, Bool.not_false, Bool.true_and])
        clear HK hfl
        go_wp2_with fail
        go_roundw
        case rel => exact ⟨k + 1, by omega, by go_num, hb.alloc hbs _, HK3⟩
        case measure => simp [intOf]; omega
    · obtain rfl : k = l.length := by omega
      obtain rfl : true = R := by rw [← HK.out, freeB_end]
      clear HK HR
      go_wp2_with fail
      go_ret
      exact ⟨rfl, hb⟩
set_option maxHeartbeats 4000000 in
theorem clearR_any (L need : Int) (a : Option Addr) (l : List (Int × Int)) (c : Nat) (w : World) (hA : PairsS w a l) (hL : I64 L) (hN : I64 need) :
    Calls Try.prog 12 #[.int .i64 L, .slice a l.length c, .int .i64 need] w fun e w' => e = .returned (.tuple #[.int .i64 (clearV L need l).1, .bool (clearV L need l).2]) ∧ Below w.heap.size w w' := by
  have HA := Lib.hid (fun W (hW : Below w.heap.size w W) => hA.below hW)
  obtain ⟨hlen, hf, blk, off, hadr, hc⟩ := hA
  have HC := Lib.hid hc
  have HL : Hid (0 < l.length → a = some ⟨blk, off, none⟩) := Lib.hid fun h => hadr (len_pos h)
  have HB := Lib.hid hf
  clear hc hadr hf
  unfold I64 at hL hN
  unfold clearV
  by_cases h0 : need < 1
  · rw [if_pos (.inl h0)]
    go_enter Try.func12, Try.ntmps12
    go_wp2_with fail
    go_ret2
    exact ⟨rfl, Below.refl _ _⟩
  · by_cases h1 : L < need
    · rw [if_pos (.inr h1)]
      go_enter Try.func12, Try.ntmps12
      go_wp2_with fail
      go_ret2
      exact ⟨rfl, Below.refl _ _⟩
    · rw [if_neg (by omega)]
      have HF0 := Lib.hid (freeR_any 0 need a l c w (HA.out w (Below.refl _ _)) (by omega) (by omega))
      obtain ⟨R, hR⟩ : ∃ R, bestK L need l l (0, freeB need l 0) = R := ⟨_, rfl⟩
      rw [hR]
      have HR : Hid (bestK L need l (l.drop 0) (0, freeB need l 0) = R) := Lib.hid (by rw [List.drop_zero]; exact hR)
      clear hR
      generalize freeB need l 0 = o0 at *
      go_enter Try.func12, Try.ntmps12
      go_wp2_with fail
      refine HF0.out.mono ?_
      rintro e w1 ⟨rfl, hb1⟩
      go_wp2_with fail
      go_loopw [8, 9, 10] (fun b o i wr => ∃ (k : Nat) (bb : Int) (oo : Bool), k ≤ l.length ∧ i = .int .i64 k ∧ b = .int .i64 bb ∧ o = .bool oo ∧ Below w.heap.size w wr ∧ Hid (bestK L need l (l.drop k) (bb, oo) = R)) (fun _ _ i _ => l.length - (intOf i).toNat)
      case atStart => exact ⟨0, 0, o0, Nat.zero_le _, rfl, rfl, rfl, hb1, HR⟩
      case round =>
        obtain ⟨k, b, oo, hk, rfl, rfl, rfl, hb, HK⟩ := hrel
        by_cases hlt : k < l.length
        · obtain rfl := HL.out (by omega)
          have hc := HC.out k hlt
          have c1 := cell_below hc.2 hb
          obtain ⟨b0, b1⟩ := HB.out k hlt
          unfold I64 at b0 b1
          clear hc
          have HK2 := HK.out
          rw [bestK_at hlt] at HK2
          clear HK
          have HK := Lib.hid HK2
          clear HK2 HC HL HB HF0
          generalize gp l k = f at *
          obtain ⟨x0, x1⟩ := f
          simp only at c1 b0 b1
          cases oo with
          | false =>
            by_cases g1 : 0 < x1
            · by_cases g2 : x1 ≤ L - need
              · have HF := Lib.hid (fun W (hW : Below w.heap.size w W) => freeR_any x1 need (some ⟨blk, off, none⟩) l c W (HA.out W hW) (by omega) (by omega))
                cases hv : freeB need l x1 with
                | false =>
                  rw [hv] at HF
                  have hcc : (if 0 < x1 ∧ x1 ≤ L - need ∧ freeB need l x1 = true ∧ (false = false ∨ x1 < b) then (x1, true) else (b, false)) = (b, false) := if_neg (by rw [hv]; simp)
                  have HK3 : Hid (bestK L need l (l.drop (k + 1)) (b, false) = R) := Lib.hid (by rw [← HK.out, hcc])
                  clear HK hcc HR hv
                  go_wp2_with fail
                  refine (HF.out _ hb).mono ?_
                  rintro e w3 ⟨rfl, hbf⟩
                  go_wp2_with fail
                  go_roundw
                  case rel => exact ⟨k + 1, _, _, by omega, by go_num, rfl, rfl, hb.trans (hbf.mono hb.size), HK3⟩
                  case measure => simp [intOf]; omega
                | true =>
                  rw [hv] at HF
                  have hcc : (if 0 < x1 ∧ x1 ≤ L - need ∧ freeB need l x1 = true ∧ (false = false ∨ x1 < b) then (x1, true) else (b, false)) = (x1, true) := if_pos ⟨g1, g2, hv, .inl rfl⟩
                  have HK3 : Hid (bestK L need l (l.drop (k + 1)) (x1, true) = R) := Lib.hid (by rw [← HK.out, hcc])
                  clear HK hcc HR hv
                  go_wp2_with fail
                  refine (HF.out _ hb).mono ?_
                  rintro e w3 ⟨rfl, hbf⟩
                  go_wp2_with fail
                  go_roundw
                  case rel => exact ⟨k + 1, _, _, by omega, by go_num, rfl, rfl, hb.trans (hbf.mono hb.size), HK3⟩
                  case measure => simp [intOf]; omega
              · have hcc : (if 0 < x1 ∧ x1 ≤ L - need ∧ freeB need l x1 = true ∧ (false = false ∨ x1 < b) then (x1, true) else (b, false)) = (b, false) := if_neg (by omega)
                have HK3 : Hid (bestK L need l (l.drop (k + 1)) (b, false) = R) := Lib.hid (by rw [← HK.out, hcc])
                clear HK hcc HR
                go_wp2_with fail
                go_roundw
                case rel => exact ⟨k + 1, _, _, by omega, by go_num, rfl, rfl, hb, HK3⟩
                case measure => simp [intOf]; omega
            · have hcc : (if 0 < x1 ∧ x1 ≤ L - need ∧ freeB need l x1 = true ∧ (false = false ∨ x1 < b) then (x1, true) else (b, false)) = (b, false) := if_neg (by omega)
              have HK3 : Hid (bestK L need l (l.drop (k + 1)) (b, false) = R) := Lib.hid (by rw [← HK.out, hcc])
              clear HK hcc HR
              go_wp2_with fail
              go_roundw
              case rel => exact ⟨k + 1, _, _, by omega, by go_num, rfl, rfl, hb, HK3⟩
              case measure => simp [intOf]; omega
          | true =>
            by_cases g1 : 0 < x1
            · by_cases g2 : x1 ≤ L - need
              · have HF := Lib.hid (fun W (hW : Below w.heap.size w W) => freeR_any x1 need (some ⟨blk, off, none⟩) l c W (HA.out W hW) (by omega) (by omega))
                cases hv : freeB need l x1 with
                | false =>
                  rw [hv] at HF
                  have hcc : (if 0 < x1 ∧ x1 ≤ L - need ∧ freeB need l x1 = true ∧ (true = false ∨ x1 < b) then (x1, true) else (b, true)) = (b, true) := if_neg (by rw [hv]; simp)
                  have HK3 : Hid (bestK L need l (l.drop (k + 1)) (b, true) = R) := Lib.hid (by rw [← HK.out, hcc])
                  clear HK hcc HR hv
                  go_wp2_with fail
                  refine (HF.out _ hb).mono ?_
                  rintro e w3 ⟨rfl, hbf⟩
                  go_wp2_with fail
                  go_roundw
                  case rel => exact ⟨k + 1, _, _, by omega, by go_num, rfl, rfl, hb.trans (hbf.mono hb.size), HK3⟩
                  case measure => simp [intOf]; omega
                | true =>
                  rw [hv] at HF
                  by_cases g3 : x1 < b
                  · have hcc : (if 0 < x1 ∧ x1 ≤ L - need ∧ freeB need l x1 = true ∧ (true = false ∨ x1 < b) then (x1, true) else (b, true)) = (x1, true) := if_pos ⟨g1, g2, hv, .inr g3⟩
                    have HK3 : Hid (bestK L need l (l.drop (k + 1)) (x1, true) = R) := Lib.hid (by rw [← HK.out, hcc])
                    clear HK hcc HR hv
                    go_wp2_with fail
                    refine (HF.out _ hb).mono ?_
                    rintro e w3 ⟨rfl, hbf⟩
                    go_wp2_with fail
                    go_roundw
                    case rel => exact ⟨k + 1, _, _, by omega, by go_num, rfl, rfl, hb.trans (hbf.mono hb.size), HK3⟩
                    case measure => simp [intOf]; omega
                  · have hcc : (if 0 < x1 ∧ x1 ≤ L - need ∧ freeB need l x1 = true ∧ (true = false ∨ x1 < b) then (x1, true) else (b, true)) = (b, true) := if_neg (by rintro ⟨_, _, _, h | h⟩; cases h; omega)
                    have HK3 : Hid (bestK L need l (l.drop (k + 1)) (b, true) = R) := Lib.hid (by rw [← HK.out, hcc])
                    clear HK hcc HR hv
                    go_wp2_with fail
                    refine (HF.out _ hb).mono ?_
                    rintro e w3 ⟨rfl, hbf⟩
                    go_wp2_with fail
                    go_roundw
                    case rel => exact ⟨k + 1, _, _, by omega, by go_num, rfl, rfl, hb.trans (hbf.mono hb.size), HK3⟩
                    case measure => simp [intOf]; omega
              · have hcc : (if 0 < x1 ∧ x1 ≤ L - need ∧ freeB need l x1 = true ∧ (true = false ∨ x1 < b) then (x1, true) else (b, true)) = (b, true) := if_neg (by omega)
                have HK3 : Hid (bestK L need l (l.drop (k + 1)) (b, true) = R) := Lib.hid (by rw [← HK.out, hcc])
                clear HK hcc HR
                go_wp2_with fail
                go_roundw
                case rel => exact ⟨k + 1, _, _, by omega, by go_num, rfl, rfl, hb, HK3⟩
                case measure => simp [intOf]; omega
            · have hcc : (if 0 < x1 ∧ x1 ≤ L - need ∧ freeB need l x1 = true ∧ (true = false ∨ x1 < b) then (x1, true) else (b, true)) = (b, true) := if_neg (by omega)
              have HK3 : Hid (bestK L need l (l.drop (k + 1)) (b, true) = R) := Lib.hid (by rw [← HK.out, hcc])
              clear HK hcc HR
              go_wp2_with fail
              go_roundw
              case rel => exact ⟨k + 1, _, _, by omega, by go_num, rfl, rfl, hb, HK3⟩
              case measure => simp [intOf]; omega
        · obtain rfl : k = l.length := by omega
          obtain rfl : (b, oo) = R := by rw [← HK.out, bestK_end]
          clear HK HR HF0
          go_wp2_with fail
          go_ret2
          exact ⟨rfl, hb⟩
set_option maxHeartbeats 1000000 in
theorem hit_any (x : Int) (a : Option Addr) (l : List (Int × Int)) (c : Nat) (w : World) (hA : PairsS w a l) :
    Calls Try.prog 13 #[.slice a l.length c, .int .i64 x] w fun e w' => e = .returned (.bool (hitL l x)) ∧ w = w' := by
  obtain ⟨hlen, hf, blk, off, hadr, hc⟩ := hA
  have HC := Lib.hid hc
  have HL : Hid (0 < l.length → a = some ⟨blk, off, none⟩) := Lib.hid fun h => hadr (len_pos h)
  clear hc hadr hf
  obtain ⟨R, hR⟩ : ∃ R, hitL l x = R := ⟨_, rfl⟩
  rw [hR]
  have HR : Hid (hitL (l.drop 0) x = R) := Lib.hid (by rw [List.drop_zero]; exact hR)
  clear hR
  go_enter Try.func13, Try.ntmps13
  go_wp2_with fail
  go_loop [5] (fun i => ∃ k : Nat, k ≤ l.length ∧ i = .int .i64 k ∧ Hid (hitL (l.drop k) x = R)) (fun i => l.length - (intOf i).toNat)
  case atStart => exact ⟨0, Nat.zero_le _, rfl, HR⟩
  case round =>
    obtain ⟨k, hk, rfl, HK⟩ := hrel
    by_cases hlt : k < l.length
    · obtain rfl := HL.out (by omega)
      obtain ⟨c0, c1⟩ := HC.out k hlt
      have HK2 := HK.out
      rw [hitL_at hlt] at HK2
      clear HK
      have HK := Lib.hid HK2
      clear HK2 HC HL
      generalize gp l k = f at *
      obtain ⟨x0, x1⟩ := f
      simp only at c0 c1 HK
      by_cases g1 : x0 ≤ x
      · by_cases g2 : x < x1
        · obtain rfl : true = R := by rw [← HK.out]; simp [g1, g2]
          clear HK HR
          go_wp2_with fail
          go_ret
          exact ⟨rfl, rfl⟩
        · have HK3 : Hid (hitL (l.drop (k + 1)) x = R) := Lib.hid (by rw [← HK.out]; simp [g2])
          clear HK
          go_wp2_with fail
          go_round
          case rel => exact ⟨k + 1, by omega, by go_num, HK3⟩
          case measure => simp [intOf]; omega
      · have HK3 : Hid (hitL (l.drop (k + 1)) x = R) := Lib.hid (by rw [← HK.out]; simp [g1])
        clear HK
        go_wp2_with fail
        go_round
        case rel => exact ⟨k + 1, by omega, by go_num, HK3⟩
        case measure => simp [intOf]; omega
    · obtain rfl : k = l.length := by omega
      obtain rfl : false = R := by rw [← HK.out, hitL_end]
      clear HK HR
      go_wp2_with fail
      go_ret
      exact ⟨rfl, rfl⟩
end Go.Proofs.Ythiaefhejdfobaa
