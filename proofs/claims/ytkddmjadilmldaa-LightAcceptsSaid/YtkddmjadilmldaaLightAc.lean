/-
  The walks of Accepted and of its reference. By an AI agent.
-/
import Derived.Test.YtkddmjadilmldaaLightG
namespace Go.Proofs.Ytkddmjadilmldaa
set_option linter.unusedVariables false
set_option linter.unusedSimpArgs false
open Go.RowKit

def sumL (l : List Int) : Nat → Int
  | 0 => 0
  | k + 1 => sumL l k + gi l k
def minL (l : List Int) : Nat → Int
  | 0 => 100000
  | k + 1 => if gi l k < minL l k then gi l k else minL l k
def okL (l : List Int) (least : Int) : Nat → Bool
  | 0 => true
  | k + 1 => okL l least k && decide (8 * least ≤ 10 * gi l k)
def elOk (l : List Int) (j : Nat) : Prop := 0 ≤ gi l j ∧ gi l j ≤ 100000
theorem acc_bd {l : List Int} : ∀ k, (∀ j, j < k → elOk l j) → 0 ≤ sumL l k ∧ sumL l k ≤ 100000 * k ∧ 0 ≤ minL l k ∧ minL l k ≤ 100000
  | 0, _ => by simp [sumL, minL]
  | k + 1, h => by
    have ih := acc_bd k (fun j hj => h j (by omega))
    have hk := h k (by omega)
    unfold elOk at hk
    rw [sumL, minL]
    refine ⟨by omega, by omega, ?_, ?_⟩
    · split <;> omega
    · split <;> omega
theorem ok_min {l : List Int} {least : Int} (hl : least ≤ 100000) : ∀ k, okL l least k = decide (8 * least ≤ 10 * minL l k)
  | 0 => by rw [okL, minL, eq_comm, decide_eq_true_eq]; omega
  | k + 1 => by
    rw [okL, ok_min hl k, minL]
    by_cases h : gi l k < minL l k
    · rw [if_pos h, Bool.eq_iff_iff]; simp; omega
    · rw [if_neg h, Bool.eq_iff_iff]; simp; omega
open Classical in
noncomputable def accB (l : List Int) (least : Int) : Bool := decide ((1 ≤ l.length ∧ l.length ≤ 100) ∧ (0 ≤ least ∧ least ≤ 100000) ∧ ∀ j, j < l.length → elOk l j)
noncomputable def accV (l : List Int) (least : Int) : Bool := accB l least && (decide (least ≤ sumL l l.length / l.length) && okL l least l.length)
noncomputable def accE (l : List Int) (least : Int) : Int := if accB l least then 0 else 2
theorem acc_t {l : List Int} {least : Int} (h : (1 ≤ l.length ∧ l.length ≤ 100) ∧ (0 ≤ least ∧ least ≤ 100000) ∧ ∀ j, j < l.length → elOk l j) : accV l least = (decide (least ≤ sumL l l.length / l.length) && okL l least l.length) ∧ accE l least = 0 := by
  have hb : accB l least = true := by unfold accB; simp only [decide_eq_true_eq]; exact h
  unfold accV accE; rw [hb]; exact ⟨rfl, rfl⟩
theorem acc_f {l : List Int} {least : Int} (h : ¬ ((1 ≤ l.length ∧ l.length ≤ 100) ∧ (0 ≤ least ∧ least ≤ 100000) ∧ ∀ j, j < l.length → elOk l j)) : accV l least = false ∧ accE l least = 2 := by
  have hb : accB l least = false := by unfold accB; simpa using h
  unfold accV accE; rw [hb]; exact ⟨rfl, rfl⟩

set_option maxRecDepth 100000 in
set_option maxHeartbeats 4000000 in
theorem accepted_any (a : Option Addr) (l : List Int) (cap : Nat) (least : Int) (w : World) (hI : IntsS w a l) (hle : I64 least) :
    Calls Try.prog 21 #[.slice a l.length cap, .int .i64 least] w fun e w' => e = .returned (.tuple #[.bool (accV l least), .int .i64 (accE l least)]) ∧ w = w' := by
  obtain ⟨hlen, hbd, blk, off, hadr, hc⟩ := hI
  obtain ⟨e0, e1⟩ := hle
  by_cases hn : 1 ≤ l.length ∧ l.length ≤ 100
  · have HB := Lib.hid (btw_t (n := (l.length : Int)) (a := 1) (b := 100) (by omega) (by omega))
    by_cases hl : 0 ≤ least ∧ least ≤ 100000
    · have HL := Lib.hid (btw_t hl.1 hl.2)
      have HT : Hid ((∀ j, j < l.length → elOk l j) → accV l least = (decide (least ≤ sumL l l.length / l.length) && okL l least l.length) ∧ accE l least = 0) := Lib.hid fun h => acc_t ⟨hn, hl, h⟩
      have HF : Hid (∀ j, j < l.length → ¬ elOk l j → accV l least = false ∧ accE l least = 2) := Lib.hid fun j hj h => acc_f fun g => h (g.2.2 j hj)
      have HO : Hid (okL l least l.length = decide (8 * least ≤ 10 * minL l l.length)) := Lib.hid (ok_min hl.2 _)
      obtain ⟨n0, n1⟩ := hn
      obtain ⟨l0, l1⟩ := hl
      obtain rfl := hadr (fun h => by rw [h] at n0; simp at n0)
      have HC := Lib.hid hc
      have HD := Lib.hid hbd
      clear hc hbd hadr
      go_enter Try.func21, Try.ntmps21
      go_wp2_with (first | (go_at_call 33; refine (between_any _ _ _ _).mono ?_; rintro E w' ⟨rfl, rfl⟩; rw [HB.out]) | (go_at_call 47; refine (coefValid_any _ _).mono ?_; rintro E w' ⟨rfl, rfl⟩; rw [HL.out]))
      go_loop [6, 7, 21] (fun s m i => ∃ k : Nat, k ≤ l.length ∧ i = .int .i64 k ∧ s = .int .i64 (sumL l k) ∧ m = .int .i64 (minL l k) ∧ Hid (∀ j, j < k → elOk l j)) (fun _ _ i => l.length - (intOf i).toNat)
      case atStart => exact ⟨0, Nat.zero_le _, rfl, rfl, rfl, Lib.hid fun j hj => absurd hj (Nat.not_lt_zero _)⟩
      case round =>
        obtain ⟨k, hk, rfl, rfl, rfl, HA⟩ := hrel
        obtain ⟨s0, s1, m0, m1⟩ := acc_bd k HA.out
        by_cases hlt : k < l.length
        · have c0 := HC.out k hlt
          obtain ⟨x0, x1⟩ := HD.out k hlt
          have HK : Hid (elOk l k → ∀ j, j < k + 1 → elOk l j) := Lib.hid fun h j hj => by
            by_cases ej : j = k
            · subst ej; exact h
            · exact HA.out j (by omega)
          have HN := Lib.hid (HF.out k hlt)
          unfold elOk at HK HN
          have HS : Hid (sumL l (k + 1) = sumL l k + gi l k) := Lib.hid rfl
          have HM : Hid (minL l (k + 1) = if gi l k < minL l k then gi l k else minL l k) := Lib.hid rfl
          clear HT HF HO HC HD
          generalize gi l k = x at *
          generalize sumL l k = s at *
          generalize minL l k = m at *
          by_cases hx : 0 ≤ x ∧ x ≤ 100000
          · have HX := Lib.hid (btw_t hx.1 hx.2)
            have HR := Lib.hid (HK.out hx)
            obtain ⟨y0, y1⟩ := hx
            clear HK HN
            rcases Int.lt_trichotomy x m with h | h | h
            · have HM2 := Lib.hid (HM.out.trans (if_pos h))
              clear HM
              go_wp2_with (go_at_call 47; refine (coefValid_any _ _).mono ?_; rintro E w' ⟨rfl, rfl⟩; rw [HX.out])
              go_round
              case rel => exact ⟨k + 1, by omega, by go_num, by rw [HS.out], by rw [HM2.out], HR⟩
              case measure => simp [intOf]; omega
            · subst h
              have HM2 := Lib.hid (HM.out.trans (if_neg (by omega)))
              clear HM
              go_wp2_with (go_at_call 47; refine (coefValid_any _ _).mono ?_; rintro E w' ⟨rfl, rfl⟩; rw [HX.out])
              go_round
              case rel => exact ⟨k + 1, by omega, by go_num, by rw [HS.out], by rw [HM2.out], HR⟩
              case measure => simp [intOf]; omega
            · have HM2 := Lib.hid (HM.out.trans (if_neg (by omega)))
              clear HM
              go_wp2_with (go_at_call 47; refine (coefValid_any _ _).mono ?_; rintro E w' ⟨rfl, rfl⟩; rw [HX.out])
              go_round
              case rel => exact ⟨k + 1, by omega, by go_num, by rw [HS.out], by rw [HM2.out], HR⟩
              case measure => simp [intOf]; omega
          · have HX := Lib.hid (btw_f hx)
            have HR := Lib.hid (HN.out hx)
            clear HK HN HM hx
            go_wp2_with (go_at_call 47; refine (coefValid_any _ _).mono ?_; rintro E w' ⟨rfl, rfl⟩; rw [HX.out])
            go_ret2
            rw [HR.out.1, HR.out.2]
            exact ⟨rfl, rfl⟩
        · obtain rfl : k = l.length := by omega
          have HR0 := HT.out (fun j hj => HA.out j hj)
          rw [HO.out] at HR0
          clear HT HF HO HC HD HA
          generalize sumL l l.length = s at *
          generalize minL l l.length = m at *
          generalize l.length = n at *
          obtain ⟨q, hq⟩ : ∃ q, s / (n : Int) = q := ⟨_, rfl⟩
          have q0 : 0 ≤ q := by rw [← hq]; exact Int.ediv_nonneg s0 (by omega)
          have q1 : q ≤ 10000000 := by rw [← hq]; exact Int.le_trans (Int.ediv_le_self _ s0) (by omega)
          rw [hq] at HR0
          have HR := Lib.hid HR0
          clear HR0
          have hn0 : ¬ (n : Int) = 0 := by omega
          have s2 : s ≤ 10000000 := by omega
          by_cases h1 : least ≤ q
          · by_cases h2 : 8 * least ≤ 10 * m
            · go_wp2_with fail
              go_ret2
              rw [HR.out.1, HR.out.2]
              simp [h1, h2]
            · go_wp2_with fail
              go_ret2
              rw [HR.out.1, HR.out.2]
              simp [h1, h2]
          · go_wp2_with fail
            go_ret2
            rw [HR.out.1, HR.out.2]
            simp
            omega
    · have HL := Lib.hid (btw_f hl)
      have HR := Lib.hid (acc_f (l := l) (least := least) (fun g => hl g.2.1))
      clear hc hbd hadr hn hl
      go_enter Try.func21, Try.ntmps21
      go_wp2_with (first | (go_at_call 33; refine (between_any _ _ _ _).mono ?_; rintro E w' ⟨rfl, rfl⟩; rw [HB.out]) | (go_at_call 47; refine (coefValid_any _ _).mono ?_; rintro E w' ⟨rfl, rfl⟩; rw [HL.out]))
      go_ret2
      rw [HR.out.1, HR.out.2]
      exact ⟨rfl, rfl⟩
  · have HB := Lib.hid (btw_f (n := (l.length : Int)) (a := 1) (b := 100) (by omega))
    have HR := Lib.hid (acc_f (l := l) (least := least) (fun g => hn g.1))
    clear hc hbd hadr hn
    go_enter Try.func21, Try.ntmps21
    go_wp2_with (first | (go_at_call 33; refine (between_any _ _ _ _).mono ?_; rintro E w' ⟨rfl, rfl⟩; rw [HB.out]))
    go_ret2
    rw [HR.out.1, HR.out.2]
    exact ⟨rfl, rfl⟩

set_option maxRecDepth 100000 in
set_option maxHeartbeats 4000000 in
theorem refAccepted_any (a : Option Addr) (l : List Int) (cap : Nat) (least : Int) (w : World) (hI : IntsS w a l) (hle : I64 least) :
    Calls Try.prog 22 #[.slice a l.length cap, .int .i64 least] w fun e w' => e = .returned (.tuple #[.bool (accV l least), .int .i64 (accE l least)]) ∧ w = w' := by
  obtain ⟨hlen, hbd, blk, off, hadr, hc⟩ := hI
  obtain ⟨e0, e1⟩ := hle
  by_cases n0 : 1 ≤ l.length
  · by_cases n1 : l.length ≤ 100
    · have n2 : ¬ (l.length : Int) < 1 := by omega
      have n3 : ¬ (100 : Int) < (l.length : Int) := by omega
      by_cases hl : 0 ≤ least ∧ least ≤ 100000
      · have HL := Lib.hid (btw_t hl.1 hl.2)
        have HT : Hid ((∀ j, j < l.length → elOk l j) → accV l least = (decide (least ≤ sumL l l.length / l.length) && okL l least l.length) ∧ accE l least = 0) := Lib.hid fun h => acc_t ⟨⟨n0, n1⟩, hl, h⟩
        have HF : Hid (∀ j, j < l.length → ¬ elOk l j → accV l least = false ∧ accE l least = 2) := Lib.hid fun j hj h => acc_f fun g => h (g.2.2 j hj)
        obtain ⟨l0, l1⟩ := hl
        obtain rfl := hadr (fun h => by rw [h] at n0; simp at n0)
        have HC := Lib.hid hc
        have HD := Lib.hid hbd
        clear hc hbd hadr
        go_enter Try.func22, Try.ntmps22
        go_wp2_with (go_at_call 35; refine (within_any _ _ _ _).mono ?_; rintro E w' ⟨rfl, rfl⟩; rw [HL.out])
        go_loop [6, 7, 8] (fun s o i => ∃ k : Nat, k ≤ l.length ∧ i = .int .i64 k ∧ s = .int .i64 (sumL l k) ∧ o = .bool (okL l least k) ∧ Hid (∀ j, j < k → elOk l j)) (fun _ _ i => l.length - (intOf i).toNat)
        case atStart => exact ⟨0, Nat.zero_le _, rfl, rfl, rfl, Lib.hid fun j hj => absurd hj (Nat.not_lt_zero _)⟩
        case round =>
          obtain ⟨k, hk, rfl, rfl, rfl, HA⟩ := hrel
          obtain ⟨s0, s1, _, _⟩ := acc_bd k HA.out
          by_cases hlt : k < l.length
          · have c0 := HC.out k hlt
            obtain ⟨x0, x1⟩ := HD.out k hlt
            have HK : Hid (elOk l k → ∀ j, j < k + 1 → elOk l j) := Lib.hid fun h j hj => by
              by_cases ej : j = k
              · subst ej; exact h
              · exact HA.out j (by omega)
            have HN := Lib.hid (HF.out k hlt)
            unfold elOk at HK HN
            have HS : Hid (sumL l (k + 1) = sumL l k + gi l k) := Lib.hid rfl
            have HOs : Hid (okL l least (k + 1) = (okL l least k && decide (8 * least ≤ 10 * gi l k))) := Lib.hid rfl
            clear HT HF HC HD
            generalize gi l k = x at *
            generalize sumL l k = s at *
            by_cases hx : 0 ≤ x ∧ x ≤ 100000
            · have HX := Lib.hid (btw_t hx.1 hx.2)
              have HR := Lib.hid (HK.out hx)
              obtain ⟨y0, y1⟩ := hx
              clear HK HN
              generalize okL l least k = ob at *
              cases ob with
              | true =>
                by_cases hk2 : 8 * least ≤ 10 * x
                · have HO2 : Hid (okL l least (k + 1) = true) := Lib.hid (by rw [HOs.out]; simpa using hk2)
                  clear HOs
                  go_wp2_with (go_at_call 35; refine (within_any _ _ _ _).mono ?_; rintro E w' ⟨rfl, rfl⟩; rw [HX.out])
                  go_round
                  case rel => exact ⟨k + 1, by omega, by go_num, by rw [HS.out], by rw [HO2.out], HR⟩
                  case measure => simp [intOf]; omega
                · have HO2 : Hid (okL l least (k + 1) = false) := Lib.hid (by rw [HOs.out]; simp; omega)
                  clear HOs
                  go_wp2_with (go_at_call 35; refine (within_any _ _ _ _).mono ?_; rintro E w' ⟨rfl, rfl⟩; rw [HX.out])
                  go_round
                  case rel => exact ⟨k + 1, by omega, by go_num, by rw [HS.out], by rw [HO2.out]; first | rfl | (simp; omega), HR⟩
                  case measure => simp [intOf]; omega
              | false =>
                have HO2 : Hid (okL l least (k + 1) = false) := Lib.hid (by rw [HOs.out]; simp)
                clear HOs
                go_wp2_with (go_at_call 35; refine (within_any _ _ _ _).mono ?_; rintro E w' ⟨rfl, rfl⟩; rw [HX.out])
                go_round
                case rel => exact ⟨k + 1, by omega, by go_num, by rw [HS.out], by rw [HO2.out], HR⟩
                case measure => simp [intOf]; omega
            · have HX := Lib.hid (btw_f hx)
              have HR := Lib.hid (HN.out hx)
              clear HK HN HOs hx
              generalize okL l least k = ob at *
              go_wp2_with (go_at_call 35; refine (within_any _ _ _ _).mono ?_; rintro E w' ⟨rfl, rfl⟩; rw [HX.out])
              go_ret2
              rw [HR.out.1, HR.out.2]
              exact ⟨rfl, rfl⟩
          · obtain rfl : k = l.length := by omega
            have HR := Lib.hid (HT.out (fun j hj => HA.out j hj))
            clear HT HF HC HD HA
            generalize sumL l l.length = s at *
            generalize okL l least l.length = ob at *
            generalize l.length = n at *
            obtain ⟨q, hq⟩ : ∃ q, s / (n : Int) = q := ⟨_, rfl⟩
            have q0 : 0 ≤ q := by rw [← hq]; exact Int.ediv_nonneg s0 (by omega)
            have q1 : q ≤ 10000000 := by rw [← hq]; exact Int.le_trans (Int.ediv_le_self _ s0) (by omega)
            rw [hq] at HR
            have hn0 : ¬ (n : Int) = 0 := by omega
            have s2 : s ≤ 10000000 := by omega
            cases ob with
            | true =>
              by_cases h1 : least ≤ q
              · go_wp2_with fail
                go_ret2
                rw [HR.out.1, HR.out.2]
                simp [h1]
              · go_wp2_with fail
                go_ret2
                rw [HR.out.1, HR.out.2]
                simp
                omega
            | false =>
              go_wp2_with fail
              go_ret2
              rw [HR.out.1, HR.out.2]
              simp
      · have HL := Lib.hid (btw_f hl)
        have HR := Lib.hid (acc_f (l := l) (least := least) (fun g => hl g.2.1))
        clear hc hbd hadr hl
        go_enter Try.func22, Try.ntmps22
        go_wp2_with (go_at_call 35; refine (within_any _ _ _ _).mono ?_; rintro E w' ⟨rfl, rfl⟩; rw [HL.out])
        go_ret2
        rw [HR.out.1, HR.out.2]
        exact ⟨rfl, rfl⟩
    · have HR := Lib.hid (acc_f (l := l) (least := least) (fun g => n1 g.1.2))
      have n2 : ¬ (l.length : Int) < 1 := by omega
      have n3 : (100 : Int) < (l.length : Int) := by omega
      clear hc hbd hadr
      go_enter Try.func22, Try.ntmps22
      go_wp2_with fail
      go_ret2
      rw [HR.out.1, HR.out.2]
      exact ⟨rfl, rfl⟩
  · have HR := Lib.hid (acc_f (l := l) (least := least) (fun g => n0 g.1.1))
    have n2 : (l.length : Int) < 1 := by omega
    clear hc hbd hadr
    go_enter Try.func22, Try.ntmps22
    go_wp2_with fail
    go_ret2
    rw [HR.out.1, HR.out.2]
    exact ⟨rfl, rfl⟩
end Go.Proofs.Ytkddmjadilmldaa
