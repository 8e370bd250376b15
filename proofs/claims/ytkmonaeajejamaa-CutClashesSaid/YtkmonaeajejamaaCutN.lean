/-
  The walk of the reference's Clash. By an AI agent.
-/
import Derived.Test.YtkmonaeajejamaaCutL
namespace Go.Proofs.Ytkmonaeajejamaa
set_option linter.unusedVariables false
set_option linter.unusedSimpArgs false
open Go.RowKit

set_option maxRecDepth 100000 in
set_option maxHeartbeats 8000000 in
theorem refClash_any (ad : Option Addr) (l : List Plc) (ca : Nat) (a b k : Int) (w : World) (hA : PlacesS w ad l) :
    Calls Try.prog 42 #[.slice ad l.length ca, .int .i64 a, .int .i64 b, .int .i64 k] w fun e w' => e = .returned (.tuple #[.bool (clV l a b k), .int .i64 (clE l a b k)]) ∧ Below w.heap.size w w' := by
  have HP := Lib.hid (refPlate_any a b k)
  have hlen := hA.1
  cases hpl : plateB a b k with
  | false =>
    rw [hpl] at HP
    obtain ⟨e1, e2⟩ := cl_no (l := l) (a := a) (b := b) (k := k) (fun h => by rw [h.1] at hpl; cases hpl)
    rw [e1, e2]
    clear e1 e2 hA hpl
    go_enter Try.func42, Try.ntmps42
    go_wp2_with (go_at_call 72; refine (HP.out _).mono ?_; rintro e w' ⟨rfl, rfl⟩)
    go_ret2
    exact ⟨rfl, Below.refl _ _⟩
  | true =>
    rw [hpl] at HP
    by_cases hl : l.length ≤ 1000
    · have hl2 : ¬ (1000 : Int) < l.length := by omega
      obtain ⟨⟨a0, a1⟩, ⟨b0, b1⟩, k0, k1⟩ := plateB_iff.1 hpl
      have HNo : Hid (∀ i, i < l.length → plQ (gq l i) = false → clV l a b k = false ∧ clE l a b k = 2) := Lib.hid fun i hi h => cl_no fun g => by rw [g.2.2 i hi] at h; cases h
      have HBad : Hid ((∀ i, i < l.length → plQ (gq l i) = true) → ∀ i, i < l.length → badAt l a b k i → clV l a b k = true ∧ clE l a b k = 0) := Lib.hid fun hv i hi hb => cl_bad ⟨hpl, hl, hv⟩ hi hb
      have HGood : Hid ((∀ i, i < l.length → plQ (gq l i) = true) → (∀ i, i < l.length → ¬ badAt l a b k i) → clV l a b k = false ∧ clE l a b k = 0) := Lib.hid fun hv hg => cl_good ⟨hpl, hl, hv⟩ hg
      obtain ⟨-, blk, off, hadr, hc⟩ := hA
      have HC := Lib.hid hc
      have HL : Hid (0 < l.length → ad = some ⟨blk, off, none⟩) := Lib.hid fun h => hadr (pos_ne (n := 0) h)
      generalize clV l a b k = cv at *
      generalize clE l a b k = ce at *
      clear hc hadr hpl
      go_enter Try.func42, Try.ntmps42
      go_wp2_with (go_at_call 72; refine (HP.out _).mono ?_; rintro e w' ⟨rfl, rfl⟩)
      go_loopw [10] (fun i wr => ∃ n : Nat, n ≤ l.length ∧ i = .int .i64 n ∧ Below w.heap.size w wr ∧ Hid (∀ j, j < n → plQ (gq l j) = true)) (fun i _ => l.length - (intOf i).toNat)
      case atStart => exact ⟨0, Nat.zero_le _, rfl, Below.refl _ _, Lib.hid fun j hj => absurd hj (Nat.not_lt_zero _)⟩
      case round =>
        obtain ⟨n, hn, rfl, hbr, HG⟩ := hrel
        by_cases hlt : n < l.length
        · obtain rfl := HL.out (by omega)
          obtain ⟨c0, c1, c2, c3, c4⟩ := (HC.out n hlt).below hbr
          have HNn := Lib.hid (HNo.out n hlt)
          have HNB : Hid (plQ (gq l n) = true → ∀ j, j < n + 1 → plQ (gq l j) = true) := Lib.hid fun h j hj => by
            by_cases e : j = n
            · subst e; exact h
            · exact HG.out j (by omega)
          unfold plQ at HNn HNB
          clear HC HL HBad HGood HG HP HNo
          obtain ⟨HT, hHT⟩ : ∃ Q : Prop, Q = (∀ j, j < n + 1 → plQ (gq l j) = true) := ⟨_, rfl⟩
          have HNB2 : Hid (plB (gq l n).2.1 (gq l n).2.2.1 (gq l n).2.2.2.1 (gq l n).2.2.2.2 = true → HT) := Lib.hid fun h => by rw [hHT]; exact HNB.out h
          have HTT : Hid (HT → ∀ j, j < n + 1 → plQ (gq l j) = true) := Lib.hid fun h => by rwa [hHT] at h
          clear HNB hHT
          generalize (gq l n).1 = x0 at c0
          generalize (gq l n).2.1 = x1 at c1 HNn HNB2
          generalize (gq l n).2.2.1 = x2 at c2 HNn HNB2
          generalize (gq l n).2.2.2.1 = x3 at c3 HNn HNB2
          generalize (gq l n).2.2.2.2 = x4 at c4 HNn HNB2
          rcases btw_cases x3 1 1000 with d1 | d1
          rotate_left
          · obtain ⟨e1, e2⟩ := HNn.out (by simp [plB, d1])
            subst e1
            subst e2
            have B1 := Lib.hid d1
            have B2 := Lib.hid d1
            have B3 := Lib.hid d1
            have B4 := Lib.hid d1
            clear HNn HNB2 HTT d1
            go_wp2_with (go_at_call 51; refine (from_any _ _ _ _).mono ?_; rintro e w' ⟨rfl, rfl⟩; first | rw [B1.out] | rw [B2.out] | rw [B3.out] | rw [B4.out])
            go_ret2
            exact ⟨rfl, hbr.alloc hbr.size _⟩
          rcases btw_cases x4 1 1000 with d2 | d2
          rotate_left
          · obtain ⟨e1, e2⟩ := HNn.out (by simp [plB, d1, d2])
            subst e1
            subst e2
            have B1 := Lib.hid d1
            have B2 := Lib.hid d2
            have B3 := Lib.hid d2
            have B4 := Lib.hid d2
            clear HNn HNB2 HTT d1 d2
            go_wp2_with (go_at_call 51; refine (from_any _ _ _ _).mono ?_; rintro e w' ⟨rfl, rfl⟩; first | rw [B1.out] | rw [B2.out] | rw [B3.out] | rw [B4.out])
            go_ret2
            exact ⟨rfl, hbr.alloc hbr.size _⟩
          rcases btw_cases x1 0 1000 with d3 | d3
          rotate_left
          · obtain ⟨e1, e2⟩ := HNn.out (by simp [plB, d1, d2, d3])
            subst e1
            subst e2
            have B1 := Lib.hid d1
            have B2 := Lib.hid d2
            have B3 := Lib.hid d3
            have B4 := Lib.hid d3
            clear HNn HNB2 HTT d1 d2 d3
            go_wp2_with (go_at_call 51; refine (from_any _ _ _ _).mono ?_; rintro e w' ⟨rfl, rfl⟩; first | rw [B1.out] | rw [B2.out] | rw [B3.out] | rw [B4.out])
            go_ret2
            exact ⟨rfl, hbr.alloc hbr.size _⟩
          rcases btw_cases x2 0 1000 with d4 | d4
          rotate_left
          · obtain ⟨e1, e2⟩ := HNn.out (by simp [plB, d1, d2, d3, d4])
            subst e1
            subst e2
            have B1 := Lib.hid d1
            have B2 := Lib.hid d2
            have B3 := Lib.hid d3
            have B4 := Lib.hid d4
            clear HNn HNB2 HTT d1 d2 d3 d4
            go_wp2_with (go_at_call 51; refine (from_any _ _ _ _).mono ?_; rintro e w' ⟨rfl, rfl⟩; first | rw [B1.out] | rw [B2.out] | rw [B3.out] | rw [B4.out])
            go_ret2
            exact ⟨rfl, hbr.alloc hbr.size _⟩
          have HR := Lib.hid (HTT.out (HNB2.out (by simp [plB, d1, d2, d3, d4])))
          have B1 := Lib.hid d1
          have B2 := Lib.hid d2
          have B3 := Lib.hid d3
          have B4 := Lib.hid d4
          clear HNn HNB2 HTT d1 d2 d3 d4
          go_wp2_with (go_at_call 51; refine (from_any _ _ _ _).mono ?_; rintro e w' ⟨rfl, rfl⟩; first | rw [B1.out] | rw [B2.out] | rw [B3.out] | rw [B4.out])
          go_roundw
          case rel => exact ⟨n + 1, by omega, by go_num, hbr.alloc hbr.size _, HR⟩
          case measure => simp [intOf]; omega
        · obtain rfl : n = l.length := by omega
          have HVal := HG
          have HBad := Lib.hid (HBad.out HVal.out)
          have HGood := Lib.hid (HGood.out HVal.out)
          clear HNo HG HP
          go_wp2_with fail
          obtain ⟨wo, rfl⟩ : ∃ wo : World, wo = wr := ⟨_, rfl⟩
          go_loopw [12] (fun i wr => ∃ n : Nat, n ≤ l.length ∧ i = .int .i64 n ∧ Below w.heap.size w wr ∧ Hid (∀ j, j < n → ¬ badAt l a b k j)) (fun i _ => l.length - (intOf i).toNat)
          case atStart => exact ⟨0, Nat.zero_le _, rfl, hbr, Lib.hid fun j hj => absurd hj (Nat.not_lt_zero _)⟩
          case round =>
            clear hbr
            obtain ⟨n, hn, rfl, hbr, HG⟩ := hrel
            by_cases hlt2 : n < l.length
            · obtain rfl := HL.out (by omega)
              have hpn := HVal.out n hlt2
              obtain ⟨c0, c1, c2, c3, c4⟩ := (HC.out n hlt2).below hbr
              obtain ⟨⟨v0, v1⟩, ⟨v2, v3⟩, ⟨v4, v5⟩, v6, v7⟩ := plB_iff.1 hpn
              have HB1 : Hid (a < (gq l n).2.1 + (gq l n).2.2.2.1 → badAt l a b k n) := Lib.hid fun h => .inl (.inl h)
              have HB2 : Hid (b < (gq l n).2.2.1 + (gq l n).2.2.2.2 → badAt l a b k n) := Lib.hid fun h => .inl (.inr h)
              have HB3 : Hid (∀ j, j < n → apB (gq l n).2.1 (gq l n).2.2.1 (gq l n).2.2.2.1 (gq l n).2.2.2.2 (gq l j).2.1 (gq l j).2.2.1 (gq l j).2.2.2.1 (gq l j).2.2.2.2 k = false → badAt l a b k n) := Lib.hid fun j hj h => .inr ⟨j, hj, h⟩
              have HB4 : Hid (¬ a < (gq l n).2.1 + (gq l n).2.2.2.1 → ¬ b < (gq l n).2.2.1 + (gq l n).2.2.2.2 → (∀ j, j < n → apB (gq l n).2.1 (gq l n).2.2.1 (gq l n).2.2.2.1 (gq l n).2.2.2.2 (gq l j).2.1 (gq l j).2.2.1 (gq l j).2.2.2.1 (gq l j).2.2.2.2 k = true) → ¬ badAt l a b k n) := Lib.hid fun h1 h2 h3 => by
                rintro ((h | h) | ⟨j, hj, h⟩)
                · exact h1 h
                · exact h2 h
                · have := h3 j hj
                  unfold apQ at h
                  rw [this] at h; cases h
              have HNB : Hid (¬ badAt l a b k n → ∀ j, j < n + 1 → ¬ badAt l a b k j) := Lib.hid fun h j hj => by
                by_cases e : j = n
                · subst e; exact h
                · exact HG.out j (by omega)
              have HBn := Lib.hid (HBad.out n hlt2)
              generalize badAt l a b k n = BA at *
              clear HBad HGood HG hpn
              generalize (gq l n).1 = x0 at *
              generalize (gq l n).2.1 = x1 at *
              generalize (gq l n).2.2.1 = x2 at *
              generalize (gq l n).2.2.2.1 = x3 at *
              generalize (gq l n).2.2.2.2 = x4 at *
              by_cases h1 : a < x1 + x3
              · obtain ⟨e1, e2⟩ := HBn.out (HB1.out h1)
                subst e1
                subst e2
                go_wp2_with fail
                go_ret2
                exact ⟨rfl, hbr.alloc hbr.size _⟩
              · by_cases h2 : b < x2 + x4
                · obtain ⟨e1, e2⟩ := HBn.out (HB2.out h2)
                  subst e1
                  subst e2
                  go_wp2_with fail
                  go_ret2
                  exact ⟨rfl, hbr.alloc hbr.size _⟩
                · have HB5 := Lib.hid (HB4.out h1 h2)
                  clear HB1 HB2 HB4
                  go_wp2_with fail
                  obtain ⟨wp, hwp⟩ : ∃ wp, wr.alloc (.cells #[.int .u8 x0, .int .i64 x1, .int .i64 x2, .int .i64 x3, .int .i64 x4] 65) = wp := ⟨_, rfl⟩
                  have hbp : Below w.heap.size w wp := by rw [← hwp]; exact hbr.alloc hbr.size _
                  have P1 : wp.cell? ⟨wr.heap.size, 1, none⟩ = some (.int .i64 x1) := by rw [← hwp]; simp [go_sem]
                  have P2 : wp.cell? ⟨wr.heap.size, 2, none⟩ = some (.int .i64 x2) := by rw [← hwp]; simp [go_sem]
                  have P3 : wp.cell? ⟨wr.heap.size, 3, none⟩ = some (.int .i64 x3) := by rw [← hwp]; simp [go_sem]
                  have P4 : wp.cell? ⟨wr.heap.size, 4, none⟩ = some (.int .i64 x4) := by rw [← hwp]; simp [go_sem]
                  rw [hwp]
                  clear hwp hbr c0 c1 c2 c3 c4
                  obtain ⟨bp, hbpn⟩ : ∃ bp, wr.heap.size = bp := ⟨_, rfl⟩
                  rw [hbpn] at P1 P2 P3 P4 ⊢
                  clear hbpn
                  go_loopw [14] (fun i wr => ∃ m : Nat, m ≤ n ∧ i = .int .i64 m ∧ Below wp.heap.size wp wr ∧ Hid (∀ j, j < m → apB x1 x2 x3 x4 (gq l j).2.1 (gq l j).2.2.1 (gq l j).2.2.2.1 (gq l j).2.2.2.2 k = true)) (fun i _ => n - (intOf i).toNat)
                  case atStart => exact ⟨0, Nat.zero_le _, rfl, Below.refl _ _, Lib.hid fun j hj => absurd hj (Nat.not_lt_zero _)⟩
                  case round =>
                    obtain ⟨m, hm, rfl, hbr, HG⟩ := hrel
                    have hbw := hbp.trans (hbr.mono hbp.size)
                    by_cases hmn : m < n
                    · obtain ⟨d0, d1, d2, d3, d4⟩ := (HC.out m (by omega)).below hbw
                      have P1 := cell_below P1 hbr
                      have P2 := cell_below P2 hbr
                      have P3 := cell_below P3 hbr
                      have P4 := cell_below P4 hbr
                      have hzp := block_lt P1
                      have hzq : bp ≠ wr.heap.size := by omega
                      obtain ⟨⟨u0, u1⟩, ⟨u2, u3⟩, ⟨u4, u5⟩, u6, u7⟩ := plB_iff.1 (HVal.out m (by omega))
                      have HBm := Lib.hid (HB3.out m hmn)
                      have HK : Hid (apB x1 x2 x3 x4 (gq l m).2.1 (gq l m).2.2.1 (gq l m).2.2.2.1 (gq l m).2.2.2.2 k = true → ∀ j, j < m + 1 → apB x1 x2 x3 x4 (gq l j).2.1 (gq l j).2.2.1 (gq l j).2.2.2.1 (gq l j).2.2.2.2 k = true) := Lib.hid fun h j hj => by
                        by_cases e : j = m
                        · subst e; exact h
                        · exact HG.out j (by omega)
                      obtain ⟨HT, hHT⟩ : ∃ Q : Prop, Q = (∀ j, j < m + 1 → apB x1 x2 x3 x4 (gq l j).2.1 (gq l j).2.2.1 (gq l j).2.2.2.1 (gq l j).2.2.2.2 k = true) := ⟨_, rfl⟩
                      have HK2 : Hid (apB x1 x2 x3 x4 (gq l m).2.1 (gq l m).2.2.1 (gq l m).2.2.2.1 (gq l m).2.2.2.2 k = true → HT) := Lib.hid fun h => by rw [hHT]; exact HK.out h
                      have HTT : Hid (HT → ∀ j, j < m + 1 → apB x1 x2 x3 x4 (gq l j).2.1 (gq l j).2.2.1 (gq l j).2.2.2.1 (gq l j).2.2.2.2 k = true) := Lib.hid fun h => by rwa [hHT] at h
                      clear HK hHT HG HB3 HB5 HNB
                      generalize (gq l m).1 = y0 at d0
                      generalize (gq l m).2.1 = y1 at d1 u4 u5 HBm HK2
                      generalize (gq l m).2.2.1 = y2 at d2 u6 u7 HBm HK2
                      generalize (gq l m).2.2.2.1 = y3 at d3 u0 u1 HBm HK2
                      generalize (gq l m).2.2.2.2 = y4 at d4 u2 u3 HBm HK2
                      by_cases g1 : x1 + x3 + k ≤ y1
                      · have HR := Lib.hid (HTT.out (HK2.out (by simp [apB, g1])))
                        clear HK2 HTT HBm
                        go_wp2_with fail
                        go_roundw
                        case rel => exact ⟨m + 1, by omega, by go_num, hbr.alloc hbr.size _, HR⟩
                        case measure => simp [intOf]; omega
                      by_cases g2 : y1 + y3 + k ≤ x1
                      · have HR := Lib.hid (HTT.out (HK2.out (by simp [apB, g1, g2])))
                        clear HK2 HTT HBm
                        go_wp2_with fail
                        go_roundw
                        case rel => exact ⟨m + 1, by omega, by go_num, hbr.alloc hbr.size _, HR⟩
                        case measure => simp [intOf]; omega
                      by_cases g3 : x2 + x4 + k ≤ y2
                      · have HR := Lib.hid (HTT.out (HK2.out (by simp [apB, g1, g2, g3])))
                        clear HK2 HTT HBm
                        go_wp2_with fail
                        go_roundw
                        case rel => exact ⟨m + 1, by omega, by go_num, hbr.alloc hbr.size _, HR⟩
                        case measure => simp [intOf]; omega
                      by_cases g4 : y2 + y4 + k ≤ x2
                      · have HR := Lib.hid (HTT.out (HK2.out (by simp [apB, g1, g2, g3, g4])))
                        clear HK2 HTT HBm
                        go_wp2_with fail
                        go_roundw
                        case rel => exact ⟨m + 1, by omega, by go_num, hbr.alloc hbr.size _, HR⟩
                        case measure => simp [intOf]; omega
                      obtain ⟨e1, e2⟩ := HBn.out (HBm.out (by simp [apB]; omega))
                      subst e1
                      subst e2
                      clear HK2 HTT HBm HBn
                      go_wp2_with fail
                      go_ret2
                      exact ⟨rfl, hbw.alloc hbw.size _⟩
                    · obtain rfl : m = n := by omega
                      have HR := Lib.hid (HNB.out (HB5.out HG.out))
                      clear HB3 HB5 HNB HBn HG
                      go_wp2_with fail
                      go_roundw
                      case rel => exact ⟨m + 1, by omega, by go_num, hbw, HR⟩
                      case measure => simp [intOf]; omega
            · obtain rfl : n = l.length := by omega
              obtain ⟨e1, e2⟩ := HGood.out HG.out
              subst e1
              subst e2
              go_wp2_with fail
              go_ret2
              exact ⟨rfl, hbr⟩
    · have hl2 : (1000 : Int) < l.length := by omega
      obtain ⟨e1, e2⟩ := cl_no (l := l) (a := a) (b := b) (k := k) (fun h => hl h.2.1)
      rw [e1, e2]
      clear e1 e2 hA hpl
      go_enter Try.func42, Try.ntmps42
      go_wp2_with (go_at_call 72; refine (HP.out _).mono ?_; rintro e w' ⟨rfl, rfl⟩)
      go_ret2
      exact ⟨rfl, Below.refl _ _⟩
end Go.Proofs.Ytkmonaeajejamaa
