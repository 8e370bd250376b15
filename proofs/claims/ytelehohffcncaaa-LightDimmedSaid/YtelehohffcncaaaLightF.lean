/-
  The walks of ValidTable and Coefficient. By an AI agent.
-/
import Derived.Test.YtelehohffcncaaaLightE
namespace Go.Proofs.Ytelehohffcncaaa
set_option linter.unusedVariables false
set_option linter.unusedSimpArgs false
open Go.RowKit

open Classical in
noncomputable def tableB (o e : List Int) (r : List (List Int)) : Bool := decide (TableOk o e r)
theorem tableB_t {o e : List Int} {r : List (List Int)} (h : TableOk o e r) : tableB o e r = true := by unfold tableB; simpa using h
theorem tableB_f {o e : List Int} {r : List (List Int)} (h : ¬ TableOk o e r) : tableB o e r = false := by unfold tableB; simpa using h
theorem tableB_iff {o e : List Int} {r : List (List Int)} : tableB o e r = true ↔ TableOk o e r := by unfold tableB; simp
theorem cellOk_f {o e : List Int} {r : List (List Int)} {i k : Nat} (hi : i < r.length) (hk : k < e.length) (h : ¬ CellOk r i k) : tableB o e r = false := tableB_f fun hT => h ((hT.2.2.2 i hi).2 k hk)

set_option maxRecDepth 100000 in
set_option maxHeartbeats 4000000 in
theorem validTable_any (ao ae ar : Option Addr) (o e : List Int) (r : List (List Int)) (co ce cr : Nat) (w : World) (hT : TableS w ao ae ar o e r) :
    Calls Try.prog 18 #[.agg #[.slice ao o.length co, .slice ae e.length ce, .slice ar r.length cr]] w fun E w' => E = .returned (.bool (tableB o e r)) ∧ Below w.heap.size w w' := by
  have hB : Below w.heap.size w (w.alloc (.cells #[.slice ao o.length co, .slice ae e.length ce, .slice ar r.length cr] 25)) := (Below.refl _ _).alloc (Nat.le_refl _) _
  have HS1 := Lib.hid (slopesValid_any ao o co _ (hT.1.below hB))
  have HS2 := Lib.hid (slopesValid_any ae e ce _ (hT.2.1.below hB))
  by_cases s1 : SlopesOk o
  · have H1 := Lib.hid (slopesB_t s1)
    by_cases s2 : SlopesOk e
    · have H2 := Lib.hid (slopesB_t s2)
      by_cases hl : r.length = o.length
      · obtain ⟨_, _, hrl, br, fr, ad, cp, har, hrr⟩ := hT
        have hn := s1.1
        obtain rfl := har (fun h => by rw [h] at hl; simp at hl; omega)
        have HOK : Hid ((∀ i, i < r.length → RowOk e r i) → tableB o e r = true) := Lib.hid fun h => tableB_t ⟨s1, s2, hl, h⟩
        have HNO : Hid (∀ i, i < r.length → ¬ RowOk e r i → tableB o e r = false) := Lib.hid fun i hi h => tableB_f fun hT => h (hT.2.2.2 i hi)
        have e2 := s2.1
        have e6 := s2.2.1
        have HR := Lib.hid hrr
        clear hrr har hB s1 s2
        rw [← hl]
        rw [← hl] at HS1 HS2 hn
        have HL := Lib.hid hl
        clear hl
        have hne1 : ((r.length : Int) == r.length) = true := by simp
        have hne2 : ((r.length : Int) != r.length) = false := by simp
        go_enter Try.func18, Try.ntmps18
        go_wp2_with fail
        refine HS1.out.mono ?_
        rintro E w' ⟨rfl, rfl⟩
        rw [H1.out]
        go_wp2_with fail
        refine HS2.out.mono ?_
        rintro E w' ⟨rfl, rfl⟩
        rw [H2.out]
        go_wp2_with fail
        go_loop [29] (fun x => ∃ i : Nat, i ≤ r.length ∧ x = .int .i64 i ∧ Hid (∀ j, j < i → RowOk e r j)) (fun x => r.length - (intOf x).toNat)
        case atStart => exact ⟨0, by omega, rfl, Lib.hid fun j hj => absurd hj (Nat.not_lt_zero _)⟩
        case round =>
          obtain ⟨i, hi, rfl, HA⟩ := hrel
          by_cases hlt : i < r.length
          · obtain ⟨hri, hIi, _⟩ := HR.out i hlt
            have hbr := block_lt hri
            have HNi := Lib.hid (HNO.out i hlt)
            by_cases hle : (gr r i).length = e.length
            · obtain ⟨_, hbd, b, f, hadi, hci⟩ := hIi
              have hadi' := hadi (fun h => by rw [h] at hle; simp at hle; omega)
              rw [hle] at hri hci hbd
              rw [hadi'] at hri
              have hbb := block_lt (hci 0 (by omega))
              have HC : Hid (∀ k, k < e.length → w.cell? ⟨b, f + k, none⟩ = some (.int .i64 (gi (gr r i) k)) ∧ I64 (gi (gr r i) k)) := Lib.hid fun k hk => ⟨hci k hk, hbd k hk⟩
              have HRow : Hid ((∀ k, k < e.length → CellOk r i k) → ∀ j, j < i + 1 → RowOk e r j) := Lib.hid fun h j hj => by
                by_cases ej : j = i
                · subst ej; exact ⟨hle, h⟩
                · exact HA.out j (by omega)
              have HUp : Hid (0 < i → ∃ b' f' cp', w.cell? ⟨br, fr + (i - 1), none⟩ = some (.slice (some ⟨b', f', none⟩) e.length cp') ∧ b' < w.heap.size ∧ ∀ k, k < e.length → w.cell? ⟨b', f' + k, none⟩ = some (.int .i64 (gi (gr r (i - 1)) k)) ∧ I64 (gi (gr r (i - 1)) k)) := Lib.hid fun h0 => by
                obtain ⟨u1, ⟨_, ubd, b', f', uad, uc⟩, _⟩ := HR.out (i - 1) (by omega)
                have ul : (gr r (i - 1)).length = e.length := (HA.out (i - 1) (by omega)).1
                have uad' := uad (fun h => by rw [h] at ul; simp at ul; omega)
                rw [ul] at u1 ubd uc
                rw [uad'] at u1
                exact ⟨b', f', _, u1, block_lt (uc 0 (by omega)), fun k hk => ⟨uc k hk, ubd k hk⟩⟩
              have HCno : Hid (∀ k, k < e.length → ¬ CellOk r i k → tableB o e r = false) := Lib.hid fun k hk h => cellOk_f hlt hk h
              clear hci hbd hadi hadi' HNi hle
              go_wp2_with fail
              go_loop [42] (fun x => ∃ k : Nat, k ≤ e.length ∧ x = .int .i64 k ∧ Hid (∀ j, j < k → CellOk r i j)) (fun x => e.length - (intOf x).toNat)
              case atStart => exact ⟨0, by omega, rfl, Lib.hid fun j hj => absurd hj (Nat.not_lt_zero _)⟩
              case round =>
                obtain ⟨k, hk, rfl, HB⟩ := hrel
                by_cases hkt : k < e.length
                · obtain ⟨ck, x0, x1⟩ := HC.out k hkt
                  have HD : Hid (CellOk r i k → ∀ j, j < k + 1 → CellOk r i j) := Lib.hid fun h j hj => by
                    by_cases ej : j = k
                    · subst ej; exact h
                    · exact HB.out j (by omega)
                  have HN := Lib.hid (HCno.out k hkt)
                  have hpv : ∀ m, k = m + 1 → w.cell? ⟨b, f + m, none⟩ = some (.int .i64 (gi (gr r i) m)) ∧ I64 (gi (gr r i) m) := fun m hm => HC.out m (by omega)
                  have HPV := Lib.hid hpv
                  clear hpv
                  by_cases hc : 0 ≤ gi (gr r i) k ∧ gi (gr r i) k ≤ 100000
                  · have HBt := Lib.hid (btw_t hc.1 hc.2)
                    by_cases hk0 : k = 0
                    · have k1 : k < 1 := by omega
                      by_cases hi0 : i = 0
                      · have i1 : i < 1 := by omega
                        have HG := Lib.hid (HD.out ⟨hc.1, hc.2, .inl hk0, .inl hi0⟩)
                        clear HD HN hk0 hi0 hc
                        generalize gi (gr r i) k = x at *
                        go_wp2_with (first | (go_at_call 28; refine (between_any _ _ _ _).mono ?_; rintro E w' ⟨rfl, rfl⟩; rw [HBt.out]))
                        go_round
                        case rel => exact ⟨k + 1, by omega, by go_num, HG⟩
                        case measure => simp [intOf]; omega
                      · obtain ⟨m, hm⟩ : ∃ m, i = m + 1 := ⟨i - 1, by omega⟩
                        obtain ⟨b', f', cp', u1, u2, u3⟩ := HUp.out (by omega)
                        obtain ⟨u4, z0, z1⟩ := u3 k hkt
                        rw [show i - 1 = m from by omega] at u1 u4 z0 z1
                        have hbr' := block_lt u1
                        have HD2 : Hid (gi (gr r i) k ≤ gi (gr r m) k → ∀ j, j < k + 1 → CellOk r i j) := Lib.hid fun h => HD.out ⟨hc.1, hc.2, .inl hk0, .inr (by rwa [show i - 1 = m from by omega])⟩
                        have HN2 : Hid (¬ gi (gr r i) k ≤ gi (gr r m) k → tableB o e r = false) := Lib.hid fun h => HN.out fun hC => h (by have := hC.2.2.2; rw [show i - 1 = m from by omega] at this; rcases this with h | h; omega; exact h)
                        have t1 : ((i : Int) - 1).toNat = m := by omega
                        have t2 : (0 : Int) ≤ (i : Int) - 1 := by omega
                        have t3 : (i : Int) - 1 < (r.length : Int) := by omega
                        have t4 : (0 : Int) < (i : Int) := by omega
                        clear HD HN hk0 hi0 hc u3 hm
                        generalize gi (gr r i) k = x at *
                        generalize gi (gr r m) k = z at *
                        by_cases hz : x ≤ z
                        · have HG := Lib.hid (HD2.out hz)
                          clear HD2 HN2
                          go_wp2_with (first | (go_at_call 28; refine (between_any _ _ _ _).mono ?_; rintro E w' ⟨rfl, rfl⟩; rw [HBt.out]))
                          go_round
                          case rel => exact ⟨k + 1, by omega, by go_num, HG⟩
                          case measure => simp [intOf]; omega
                        · have HG := Lib.hid (HN2.out hz)
                          clear HD2 HN2
                          go_wp2_with (first | (go_at_call 28; refine (between_any _ _ _ _).mono ?_; rintro E w' ⟨rfl, rfl⟩; rw [HBt.out]))
                          go_ret
                          rw [HG.out]
                          refine ⟨rfl, ?_⟩
                          go_grown
                    · obtain ⟨n, rfl⟩ : ∃ n, k = n + 1 := ⟨k - 1, by omega⟩
                      obtain ⟨ck', y0, y1⟩ := HPV.out n rfl
                      by_cases hy : gi (gr r i) (n + 1) ≤ gi (gr r i) n
                      · by_cases hi0 : i = 0
                        · have i1 : i < 1 := by omega
                          have HG := Lib.hid (HD.out ⟨hc.1, hc.2, .inr (by rwa [Nat.add_sub_cancel]), .inl hi0⟩)
                          clear HD HN hk0 hi0 hc
                          generalize gi (gr r i) (n + 1) = x at *
                          generalize gi (gr r i) n = y at *
                          go_wp2_with (first | (go_at_call 28; refine (between_any _ _ _ _).mono ?_; rintro E w' ⟨rfl, rfl⟩; rw [HBt.out]))
                          go_round
                          case rel => exact ⟨n + 1 + 1, by omega, by go_num, HG⟩
                          case measure => simp [intOf]; omega
                        · obtain ⟨m, hm⟩ : ∃ m, i = m + 1 := ⟨i - 1, by omega⟩
                          obtain ⟨b', f', cp', u1, u2, u3⟩ := HUp.out (by omega)
                          obtain ⟨u4, z0, z1⟩ := u3 (n + 1) hkt
                          rw [show i - 1 = m from by omega] at u1 u4 z0 z1
                          have hbr' := block_lt u1
                          have HD2 : Hid (gi (gr r i) (n + 1) ≤ gi (gr r m) (n + 1) → ∀ j, j < n + 1 + 1 → CellOk r i j) := Lib.hid fun h => HD.out ⟨hc.1, hc.2, .inr (by rwa [Nat.add_sub_cancel]), .inr (by rwa [show i - 1 = m from by omega])⟩
                          have HN2 : Hid (¬ gi (gr r i) (n + 1) ≤ gi (gr r m) (n + 1) → tableB o e r = false) := Lib.hid fun h => HN.out fun hC => h (by have := hC.2.2.2; rw [show i - 1 = m from by omega] at this; rcases this with h | h; omega; exact h)
                          have t1 : ((i : Int) - 1).toNat = m := by omega
                          have t2 : (0 : Int) ≤ (i : Int) - 1 := by omega
                          have t3 : (i : Int) - 1 < (r.length : Int) := by omega
                          have t4 : (0 : Int) < (i : Int) := by omega
                          clear HD HN hk0 hi0 hc u3 hm
                          generalize gi (gr r i) (n + 1) = x at *
                          generalize gi (gr r i) n = y at *
                          generalize gi (gr r m) (n + 1) = z at *
                          by_cases hz : x ≤ z
                          · have HG := Lib.hid (HD2.out hz)
                            clear HD2 HN2
                            go_wp2_with (first | (go_at_call 28; refine (between_any _ _ _ _).mono ?_; rintro E w' ⟨rfl, rfl⟩; rw [HBt.out]))
                            go_round
                            case rel => exact ⟨n + 1 + 1, by omega, by go_num, HG⟩
                            case measure => simp [intOf]; omega
                          · have HG := Lib.hid (HN2.out hz)
                            clear HD2 HN2
                            go_wp2_with (first | (go_at_call 28; refine (between_any _ _ _ _).mono ?_; rintro E w' ⟨rfl, rfl⟩; rw [HBt.out]))
                            go_ret
                            rw [HG.out]
                            refine ⟨rfl, ?_⟩
                            go_grown
                      · have HG := Lib.hid (HN.out fun hC => hy (by have := hC.2.2.1; rw [Nat.add_sub_cancel] at this; rcases this with h | h; omega; exact h))
                        clear HD HN hk0 hc
                        generalize gi (gr r i) (n + 1) = x at *
                        generalize gi (gr r i) n = y at *
                        go_wp2_with (first | (go_at_call 28; refine (between_any _ _ _ _).mono ?_; rintro E w' ⟨rfl, rfl⟩; rw [HBt.out]))
                        go_ret
                        rw [HG.out]
                        refine ⟨rfl, ?_⟩
                        go_grown
                  · have HBt := Lib.hid (btw_f hc)
                    have HG := Lib.hid (HN.out fun h => hc ⟨h.1, h.2.1⟩)
                    clear HD HN hc
                    generalize gi (gr r i) k = x at *
                    go_wp2_with (first | (go_at_call 28; refine (between_any _ _ _ _).mono ?_; rintro E w' ⟨rfl, rfl⟩; rw [HBt.out]))
                    go_ret
                    rw [HG.out]
                    refine ⟨rfl, ?_⟩
                    go_grown
                · have HG := Lib.hid (HRow.out (fun j hj => HB.out j (by omega)))
                  obtain rfl : k = e.length := by omega
                  go_wp2_with fail
                  go_round
                  case rel => exact ⟨i + 1, by omega, by go_num, HG⟩
                  case measure => simp [intOf]; omega
            · have HG := Lib.hid (HNi.out fun h => hle h.1)
              have hn1 : (((gr r i).length : Int) == e.length) = false := by simp; omega
              have hn2 : (((gr r i).length : Int) != e.length) = true := by simp; omega
              have hn3 := hIi.1
              clear HNi hle
              generalize (gr r i).length = q at *
              go_wp2_with fail
              go_ret
              rw [HG.out]
              refine ⟨rfl, ?_⟩
              go_grown
          · have HG := Lib.hid (HOK.out (fun j hj => HA.out j (by omega)))
            obtain rfl : i = r.length := by omega
            go_wp2_with fail
            go_ret
            rw [HG.out]
            refine ⟨rfl, ?_⟩
            go_grown
      · have HG := Lib.hid (tableB_f (o := o) (e := e) (r := r) (fun h => hl h.2.2.1))
        have hn1 : ((r.length : Int) == o.length) = false := by simp; omega
        have hn2 : ((r.length : Int) != o.length) = true := by simp; omega
        have hn3 := hT.2.2.1
        have hn4 := hT.1.1
        clear hl hT hB s1 s2
        go_enter Try.func18, Try.ntmps18
        go_wp2_with fail
        refine HS1.out.mono ?_
        rintro E w' ⟨rfl, rfl⟩
        rw [H1.out]
        go_wp2_with fail
        refine HS2.out.mono ?_
        rintro E w' ⟨rfl, rfl⟩
        rw [H2.out]
        go_wp2_with fail
        go_ret
        rw [HG.out]
        refine ⟨rfl, ?_⟩
        go_grown
    · have H2 := Lib.hid (slopesB_f s2)
      have HG := Lib.hid (tableB_f (o := o) (e := e) (r := r) (fun h => s2 h.2.1))
      clear hT hB s1 s2
      go_enter Try.func18, Try.ntmps18
      go_wp2_with fail
      refine HS1.out.mono ?_
      rintro E w' ⟨rfl, rfl⟩
      rw [H1.out]
      go_wp2_with fail
      refine HS2.out.mono ?_
      rintro E w' ⟨rfl, rfl⟩
      rw [H2.out]
      go_wp2_with fail
      go_ret
      rw [HG.out]
      refine ⟨rfl, ?_⟩
      go_grown
  · have H1 := Lib.hid (slopesB_f s1)
    have HG := Lib.hid (tableB_f (o := o) (e := e) (r := r) (fun h => s1 h.1))
    clear hT hB s1
    go_enter Try.func18, Try.ntmps18
    go_wp2_with fail
    refine HS1.out.mono ?_
    rintro E w' ⟨rfl, rfl⟩
    rw [H1.out]
    go_wp2_with fail
    go_ret
    rw [HG.out]
    refine ⟨rfl, ?_⟩
    go_grown
end Go.Proofs.Ytelehohffcncaaa
