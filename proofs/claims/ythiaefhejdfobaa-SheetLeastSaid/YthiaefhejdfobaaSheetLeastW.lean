/-
  SheetLeast: what Clear finds has no fault, and every lesser offset has one. By an AI agent.
-/
import Derived.Test.YthiaefhejdfobaaSheF
import Derived.Deep.RegionHeld3
import Derived.BigQuiet
namespace Go.Proofs.Ythiaefhejdfobaa
set_option linter.unusedVariables false
set_option linter.unusedSimpArgs false
open Go.RowKit

/-- Whether one of the k places from q on is hit. -/
def hitR (l : List (Int × Int)) (q : Int) : Nat → Bool
  | 0 => false
  | k + 1 => hitR l q k || hitL l (q + k)
theorem hitR_false {l : List (Int × Int)} {q : Int} : ∀ {k : Nat}, hitR l q k = false ↔ ∀ i : Nat, i < k → hitL l (q + i) = false
  | 0 => by simp [hitR]
  | k + 1 => by
    rw [hitR, Bool.or_eq_false_iff, hitR_false]
    constructor
    · rintro ⟨h1, h2⟩ i hi
      rcases Nat.lt_succ_iff_lt_or_eq.1 hi with h | h
      · exact h1 i h
      · rw [h]; exact h2
    · intro h
      exact ⟨fun i hi => h i (by omega), h k (by omega)⟩
theorem free_hitR {need q : Int} (hn : 1 ≤ need) {l : List (Int × Int)} : freeP need l q ↔ hitR l q need.toNat = false := by
  rw [free_hit hn, hitR_false]
  constructor
  · intro h i hi
    exact h (q + i) (by omega) (by omega)
  · intro h x h1 h2
    have := h (x - q).toNat (by omega)
    rw [show q + ((x - q).toNat : Int) = x by omega] at this
    exact this
set_option maxHeartbeats 2000000 in
theorem sheetLeast_any (u0 u1 : Int) (a : Option Addr) (l : List (Int × Int)) (c : Nat) (w : World) (hA : PairsS w a l) (b0 : 0 ≤ u0) (b1 : u0 ≤ 255) (b2 : 0 ≤ u1) (b3 : u1 ≤ 255) :
    Calls Try.prog 5 #[.int .u8 u0, .slice a l.length c, .int .u8 u1] w fun e w' => e = .returned (.bool true) ∧ Below w.heap.size w w' := by
  obtain ⟨n, hn⟩ : ∃ n, u0 % 121 = n := ⟨_, rfl⟩
  obtain ⟨d, hd⟩ : ∃ d, u1 % 120 = d := ⟨_, rfl⟩
  have n0 : 0 ≤ n := by omega
  have n1 : n ≤ 120 := by omega
  have d0 : 0 ≤ d := by omega
  have d1 : d ≤ 119 := by omega
  by_cases h12 : 12 < l.length
  · clear hA
    go_enter Try.func5, Try.ntmps5
    go_wp2_with fail
    refine (awakeS_any w).mono ?_
    rintro e w1 ⟨rfl, hb1⟩
    go_wp2_with fail
    go_ret
    exact ⟨rfl, hb1⟩
  · have h12 : l.length ≤ 12 := by omega
    have HV := Lib.hid (clearS_any n (1 + d) a l c w hA (by omega) (by unfold I64; omega) (by unfold I64; omega))
    have HH := Lib.hid (fun x W (hW : Below w.heap.size w W) => hit_any x a l c W (hA.below hW))
    obtain ⟨m, hm⟩ := least_some (1 + d) l
    have HC := Lib.hid (clear_of_least (L := n) (show 1 ≤ 1 + d by omega) hm)
    have HF := Lib.hid (fun q => free_hitR (q := q) (show 1 ≤ 1 + d by omega) (l := l))
    have HM := Lib.hid hm
    have m0 := hm.1
    clear hA hm
    generalize clearV n (1 + d) l = V at *
    obtain ⟨v0, v1⟩ := V
    simp only at HV
    go_enter Try.func5, Try.ntmps5
    go_wp2_with fail
    refine HV.out.mono ?_
    rintro e w1 ⟨rfl, hb1⟩
    clear HV
    go_wp2_with fail
    go_loop [11] (fun s => ∃ q : Nat, s = .int .i64 q ∧ (q : Int) ≤ m ∧ (q : Int) ≤ n + 1) (fun s => (n + 1 - intOf s).toNat)
    case atStart => exact ⟨0, rfl, by omega, by omega⟩
    case round =>
      obtain ⟨q, rfl, hq, hqn⟩ := hrel
      by_cases hlt : (q : Int) + (1 + d) ≤ n
      · go_wp2_with fail
        go_loop [12, 13] (fun s x => ∃ k : Nat, (k : Int) ≤ 1 + d ∧ x = .int .i64 (q + k) ∧ s = .bool (hitR l q k)) (fun _ x => (q + (1 + d) - intOf x).toNat)
        case atStart => exact ⟨0, by omega, by simp, rfl⟩
        case round =>
          obtain ⟨k, hk, rfl, rfl⟩ := hrel
          have HK := Lib.hid (show hitR l q (k + 1) = (hitR l q k || hitL l (q + k)) from rfl)
          by_cases hkl : (k : Int) < 1 + d
          · have HX := Lib.hid (HH.out ((q : Int) + k) w1 hb1)
            cases hR : hitR l q k with
            | true =>
              have HN : Hid (hitR l q (k + 1) = true) := Lib.hid (by rw [HK.out, hR]; rfl)
              clear HK hR HX HH HF HM HC
              go_wp2_with fail
              go_round
              case rel => exact ⟨k + 1, by omega, by go_num, by rw [HN.out]⟩
              case measure => simp [intOf]; omega
            | false =>
              have HN : Hid (hitR l q (k + 1) = hitL l (q + k)) := Lib.hid (by rw [HK.out, hR]; rfl)
              clear HK hR HH HF HM HC
              generalize hitL l ((q : Int) + k) = hv at *
              go_wp2_with fail
              refine HX.out.mono ?_
              rintro e w2 ⟨rfl, rfl⟩
              go_wp2_with fail
              go_round
              case rel => exact ⟨k + 1, by omega, by go_num, by rw [HN.out]⟩
              case measure => simp [intOf]; omega
          · have hke : (k : Int) = 1 + d := by omega
            have hkt : (1 + d).toNat = k := by omega
            have HFq := HF.out q
            rw [hkt] at HFq
            have HFq := Lib.hid HFq
            clear HK HH hkt
            cases hR : hitR l q k with
            | true =>
              have hne : ¬ (q : Int) = m := by
                intro e
                have := HFq.out.1 (by rw [e]; exact HM.out.2.1)
                rw [hR] at this; cases this
              clear HFq hR HF HM HC
              go_wp2_with fail
              go_round
              case rel => exact ⟨q + 1, by go_num, by omega, by omega⟩
              case measure => simp [intOf]; omega
            | false =>
              have hfr := HFq.out.2 hR
              have hme : m = q := by
                rcases Int.lt_trichotomy m q with h | h | h
                · omega
                · exact h
                · exact absurd hfr (HM.out.2.2 q (by omega) h)
              obtain ⟨rfl, rfl⟩ : (q : Int) = v0 ∧ true = v1 := by have := HC.out; rw [if_neg (by omega), hme] at this; simpa [eq_comm] using this
              clear HFq hR HF HM HC hfr hme
              go_wp2_with fail
              refine (awakeS_any _).mono ?_
              rintro e w3 ⟨rfl, hb3⟩
              go_wp2_with fail
              go_ret
              exact ⟨rfl, hb1.trans (hb3.mono hb1.size)⟩
      · obtain ⟨rfl, rfl⟩ : 0 = v0 ∧ false = v1 := by have := HC.out; rw [if_pos (by omega)] at this; simpa [eq_comm] using this
        clear HF HM HC HH
        go_wp2_with fail
        refine (awakeS_any _).mono ?_
        rintro e w3 ⟨rfl, hb3⟩
        go_wp2_with fail
        go_ret
        exact ⟨rfl, hb1.trans (hb3.mono hb1.size)⟩
end Go.Proofs.Ythiaefhejdfobaa
