/-
  The walk of the reference's ValidTable. By an AI agent.
-/
import Derived.Test.YtelehohffcncaaaLightF
namespace Go.Proofs.Ytelehohffcncaaa
set_option linter.unusedVariables false
set_option linter.unusedSimpArgs false
open Go.RowKit

set_option maxRecDepth 100000 in
set_option maxHeartbeats 1000000 in
theorem refSlopes_any (a : Option Addr) (l : List Int) (cap : Nat) (w : World) (hI : IntsS w a l) :
    Calls Try.prog 24 #[.slice a l.length cap] w fun e w' => e = .returned (.bool (slopesB l)) ∧ Below w.heap.size w w' := by
  obtain ⟨hlen, hbd, blk, off, hadr, hc⟩ := hI
  go_enter Try.func24, Try.ntmps24
  go_wp2
  go_loopw [3] (fun i wr => ∃ k : Nat, k ≤ l.length ∧ i = .int .i64 k ∧ Below w.heap.size w wr ∧ Hid (∀ j, j < k → okS l j)) (fun i _ => l.length - (intOf i).toNat)
  case atStart => exact ⟨0, Nat.zero_le _, rfl, Below.refl _ _, Lib.hid fun j hj => absurd hj (Nat.not_lt_zero _)⟩
  case round =>
    obtain ⟨k, hk, rfl, hbr, HA⟩ := hrel
    by_cases hlt : k < l.length
    · obtain rfl := hadr (fun h => by rw [h] at hlt; simp at hlt)
      clear hadr
      have hck := cell_below (hc k hlt) hbr
      obtain ⟨x0, x1⟩ := hbd k hlt
      have HN : Hid (¬ okS l k → slopesB l = false) := Lib.hid fun hh => slopesB_f fun hS => hh (hS.2.2 k hlt)
      by_cases h1 : 1 ≤ gi l k ∧ gi l k ≤ 1000000
      · have HB := Lib.hid (within_q (btw_t h1.1 h1.2))
        by_cases hk0 : k = 0
        · have HK2 : Hid (∀ j, j < k + 1 → okS l j) := Lib.hid fun j hj => by
            obtain rfl : j = k := by omega
            exact ⟨h1.1, h1.2, .inl hk0⟩
          have hd1 : decide ((0 : Int) < (k : Int)) = false := by simp; omega
          have hd2 : decide (0 < k) = false := by simp; omega
          have hk1 : k < 1 := by omega
          clear h1 HN hc hbd hk0
          generalize gi l k = x at *
          go_wp2_with fail
          go_quiet ((go_at_call 25; exact Calls.quiet_of_same (HB.out _)))
          go_wp2_with fail
          go_roundw
          case rel => exact ⟨k + 1, by omega, by go_num, below_drewN hbr _, HK2⟩
          case measure => simp [intOf]; omega
        · obtain ⟨m, rfl⟩ : ∃ m, k = m + 1 := ⟨k - 1, by omega⟩
          have hcm := cell_below (hc m (by omega)) hbr
          obtain ⟨y0, y1⟩ := hbd m (by omega)
          by_cases h2 : gi l m < gi l (m + 1)
          · have HK2 : Hid (∀ j, j < m + 1 + 1 → okS l j) := Lib.hid fun j hj => by
              by_cases e : j = m + 1
              · subst e; exact ⟨h1.1, h1.2, .inr (by rwa [Nat.add_sub_cancel])⟩
              · exact HA.out j (by omega)
            clear h1 HN hc hbd
            generalize gi l (m + 1) = x at *
            generalize gi l m = y at *
            go_wp2_with fail
            go_quiet ((go_at_call 25; exact Calls.quiet_of_same (HB.out _)))
            go_wp2_with fail
            go_roundw
            case rel => exact ⟨m + 1 + 1, by omega, by go_num, below_drewN hbr _, HK2⟩
            case measure => simp [intOf]; omega
          · have HS := Lib.hid (HN.out (fun h => by rcases h.2.2 with h | h; omega; rw [Nat.add_sub_cancel] at h; exact h2 h))
            clear h1 HN hc hbd
            generalize gi l (m + 1) = x at *
            generalize gi l m = y at *
            go_wp2_with fail
            go_quiet ((go_at_call 25; exact Calls.quiet_of_same (HB.out _)))
            go_wp2_with fail
            go_ret
            rw [HS.out]
            exact ⟨rfl, below_drewN hbr _⟩
      · have HB := Lib.hid (within_q (btw_f h1))
        have HS := Lib.hid (HN.out (fun h => h1 ⟨h.1, h.2.1⟩))
        clear h1 HN hc hbd
        generalize gi l k = x at *
        go_wp2_with fail
        go_quiet ((go_at_call 25; exact Calls.quiet_of_same (HB.out _)))
        go_wp2_with fail
        go_ret
        rw [HS.out]
        exact ⟨rfl, below_drewN hbr _⟩
    · obtain rfl : k = l.length := by omega
      clear hc hbd hadr
      by_cases n0 : 2 ≤ l.length
      · by_cases n1 : l.length ≤ 6
        · have HS := Lib.hid (slopesB_t ⟨n0, n1, HA.out⟩)
          have n2 : (l.length : Int) ≤ 6 := by omega
          go_wp2_with fail
          go_ret
          rw [HS.out]
          exact ⟨rfl, hbr⟩
        · have HS := Lib.hid (slopesB_f (l := l) (fun h => n1 h.2.1))
          have n2 : ¬ (l.length : Int) ≤ 6 := by omega
          go_wp2_with fail
          go_ret
          rw [HS.out]
          exact ⟨rfl, hbr⟩
      · have HS := Lib.hid (slopesB_f (l := l) (fun h => n0 h.1))
        go_wp2_with fail
        go_ret
        rw [HS.out]
        exact ⟨rfl, hbr⟩

set_option maxRecDepth 100000 in
set_option maxHeartbeats 4000000 in
theorem refValidTable_any (ao ae ar : Option Addr) (o e : List Int) (r : List (List Int)) (co ce cr : Nat) (w : World) (hT : TableS w ao ae ar o e r) :
    Calls Try.prog 10 #[.agg #[.slice ao o.length co, .slice ae e.length ce, .slice ar r.length cr]] w fun E w' => E = .returned (.bool (tableB o e r)) ∧ Below w.heap.size w w' := by
  have hB : Below w.heap.size w (w.alloc (.cells #[.slice ao o.length co, .slice ae e.length ce, .slice ar r.length cr] 25)) := (Below.refl _ _).alloc (Nat.le_refl _) _
  have HS1 : Hid (∀ W, Below w.heap.size w W → Calls Try.prog 24 #[.slice ao o.length co] W fun e w' => e = .returned (.bool (slopesB o)) ∧ Below W.heap.size W w') := Lib.hid fun W hW => refSlopes_any ao o co W (hT.1.below hW)
  have HS2 : Hid (∀ W, Below w.heap.size w W → Calls Try.prog 24 #[.slice ae e.length ce] W fun e' w' => e' = .returned (.bool (slopesB e)) ∧ Below W.heap.size W w') := Lib.hid fun W hW => refSlopes_any ae e ce W (hT.2.1.below hW)
  by_cases s1 : SlopesOk o
  · have H1 := Lib.hid (slopesB_t s1)
    by_cases s2 : SlopesOk e
    · have H2 := Lib.hid (slopesB_t s2)
      by_cases hl : r.length = o.length
      · obtain ⟨_, _, hrl, br, fr, ad, cp, har, hrr⟩ := hT
        have hn := s1.1
        obtain rfl := har (fun h => by rw [h] at hl; simp at hl; omega)
        have HOK : Hid ((∀ i, i < r.length → RowOk e r i) → tableB o e r = true) := Lib.hid fun h => tableB_t ⟨s1, s2, hl, h⟩
        have HNO : Hid (∀ i, i < r.length → ¬ RowOk e r i → tableB o e r = false) := Lib.hid fun i hi h => tableB_f fun hT => h (hT.2.2.2 i hi)
        have e2 := s2.1
        have e6 := s2.2.1
        have HR := Lib.hid hrr
        clear hrr har hB s1 s2
        rw [← hl]
        rw [← hl] at HS1 hn
        have HL := Lib.hid hl
        clear hl
        have hne1 : ((r.length : Int) == r.length) = true := by simp
        have hne2 : ((r.length : Int) != r.length) = false := by simp
        go_enter Try.func10, Try.ntmps10
        go_wp2_with fail
        refine (HS1.out _ ((Below.refl _ _).alloc (Nat.le_refl _) _)).mono ?_
        rintro E w1 ⟨rfl, hb1⟩
        rw [H1.out]
        obtain ⟨hc1, hf1⟩ := bcell hb1
        go_wp2_with fail
        refine (HS2.out _ (box_below hb1)).mono ?_
        rintro E w2 ⟨rfl, hb2⟩
        rw [H2.out]
        have hb2 := hb1.trans (hb2.mono hb1.size)
        clear hc1 hf1
        obtain ⟨hc2, hf2⟩ := bcell hb2
        go_wp2_with fail
        clear hc2 hf2
        go_loopw [3] (fun x wr => ∃ i : Nat, i ≤ r.length ∧ x = .int .i64 i ∧ Below (w.alloc (.cells #[.slice ao r.length co, .slice ae e.length ce, .slice (some ⟨br, fr, none⟩) r.length cr] 25)).heap.size (w.alloc (.cells #[.slice ao r.length co, .slice ae e.length ce, .slice (some ⟨br, fr, none⟩) r.length cr] 25)) wr ∧ Hid (∀ j, j < i → RowOk e r j)) (fun x _ => r.length - (intOf x).toNat)
        case atStart => exact ⟨0, by omega, rfl, hb2, Lib.hid fun j hj => absurd hj (Nat.not_lt_zero _)⟩
        case round =>
          obtain ⟨i, hi, rfl, hbr0, HA⟩ := hrel
          have hbw := box_below hbr0
          have p0 : wr.cell? ⟨w.heap.size, 0, none⟩ = some (.slice ao r.length co) := (hbr0.cell (p := ⟨w.heap.size, 0, none⟩) (by simp)).trans (by simp [go_sem])
          have p1 : wr.cell? ⟨w.heap.size, 1, none⟩ = some (.slice ae e.length ce) := (hbr0.cell (p := ⟨w.heap.size, 1, none⟩) (by simp)).trans (by simp [go_sem])
          have p2 : wr.cell? ⟨w.heap.size, 2, none⟩ = some (.slice (some ⟨br, fr, none⟩) r.length cr) := (hbr0.cell (p := ⟨w.heap.size, 2, none⟩) (by simp)).trans (by simp [go_sem])
          by_cases hlt : i < r.length
          · obtain ⟨hri0, hIi0, _⟩ := HR.out i hlt
            have hri := cell_below hri0 hbw
            have hIi := hIi0.below hbw
            clear hri0 hIi0
            have g0 : (0 : Int) ≤ (i : Int) := by omega
            have g1 : (i : Int) < (r.length : Int) := by omega
            have HNi := Lib.hid (HNO.out i hlt)
            by_cases hle : (gr r i).length = e.length
            · obtain ⟨_, hbd, b, f, hadi, hci⟩ := hIi
              have hadi' := hadi (fun h => by rw [h] at hle; simp at hle; omega)
              rw [hle] at hri hci hbd
              rw [hadi'] at hri
              have HC : Hid (∀ k, k < e.length → wr.cell? ⟨b, f + k, none⟩ = some (.int .i64 (gi (gr r i) k)) ∧ I64 (gi (gr r i) k)) := Lib.hid fun k hk => ⟨hci k hk, hbd k hk⟩
              have HRow : Hid ((∀ k, k < e.length → CellOk r i k) → ∀ j, j < i + 1 → RowOk e r j) := Lib.hid fun h j hj => by
                by_cases ej : j = i
                · subst ej; exact ⟨hle, h⟩
                · exact HA.out j (by omega)
              have HUp : Hid (0 < i → ∃ b' f' cp', wr.cell? ⟨br, fr + (i - 1), none⟩ = some (.slice (some ⟨b', f', none⟩) e.length cp') ∧ ∀ k, k < e.length → wr.cell? ⟨b', f' + k, none⟩ = some (.int .i64 (gi (gr r (i - 1)) k)) ∧ I64 (gi (gr r (i - 1)) k)) := Lib.hid fun h0 => by
                obtain ⟨u1, ⟨_, ubd, b', f', uad, uc⟩, _⟩ := HR.out (i - 1) (by omega)
                have ul : (gr r (i - 1)).length = e.length := (HA.out (i - 1) (by omega)).1
                have uad' := uad (fun h => by rw [h] at ul; simp at ul; omega)
                rw [ul] at u1 ubd uc
                rw [uad'] at u1
                exact ⟨b', f', _, cell_below u1 hbw, fun k hk => ⟨cell_below (uc k hk) hbw, ubd k hk⟩⟩
              have HCno : Hid (∀ k, k < e.length → ¬ CellOk r i k → tableB o e r = false) := Lib.hid fun k hk h => cellOk_f hlt hk h
              have hm1 : ((e.length : Int) == e.length) = true := by simp
              have hm2 : ((e.length : Int) != e.length) = false := by simp
              clear hci hbd hadi hadi' HNi hle
              go_wp2_with fail
              go_quiet (fail)
              go_wp2_with fail
              go_loop [4] (fun x => ∃ k : Nat, k ≤ e.length ∧ x = .int .i64 k ∧ Hid (∀ j, j < k → CellOk r i j)) (fun x => e.length - (intOf x).toNat)
              case atStart => exact ⟨0, by omega, rfl, Lib.hid fun j hj => absurd hj (Nat.not_lt_zero _)⟩
              case round =>
                obtain ⟨k, hk, rfl, HB⟩ := hrel
                by_cases hkt : k < e.length
                · obtain ⟨ck, x0, x1⟩ := HC.out k hkt
                  have HD : Hid (CellOk r i k → ∀ j, j < k + 1 → CellOk r i j) := Lib.hid fun h j hj => by
                    by_cases ej : j = k
                    · subst ej; exact h
                    · exact HB.out j (by omega)
                  have HN := Lib.hid (HCno.out k hkt)
                  have hpv : ∀ m, k = m + 1 → wr.cell? ⟨b, f + m, none⟩ = some (.int .i64 (gi (gr r i) m)) ∧ I64 (gi (gr r i) m) := fun m hm => HC.out m (by omega)
                  have HPV := Lib.hid hpv
                  clear hpv
                  by_cases hc : 0 ≤ gi (gr r i) k ∧ gi (gr r i) k ≤ 100000
                  · have HBt := Lib.hid (btw_t hc.1 hc.2)
                    by_cases hk0 : k = 0
                    · have k1 : k < 1 := by omega
                      by_cases hi0 : i = 0
                      · have i1 : i < 1 := by omega
                        have HG := Lib.hid (HD.out ⟨hc.1, hc.2, .inl hk0, .inl hi0⟩)
                        clear HD HN hk0 hi0 hc
                        generalize gi (gr r i) k = x at *
                        go_wp2_with (first | (go_at_call 25; refine (within_any _ _ _ _).mono ?_; rintro E w' ⟨rfl, rfl⟩; rw [HBt.out]))
                        go_round
                        case rel => exact ⟨k + 1, by omega, by go_num, HG⟩
                        case measure => simp [intOf]; omega
                      · obtain ⟨m, hm⟩ : ∃ m, i = m + 1 := ⟨i - 1, by omega⟩
                        obtain ⟨b', f', cp', u1, u3⟩ := HUp.out (by omega)
                        obtain ⟨u4, z0, z1⟩ := u3 k hkt
                        rw [show i - 1 = m from by omega] at u1 u4 z0 z1
                        have HD2 : Hid (gi (gr r i) k ≤ gi (gr r m) k → ∀ j, j < k + 1 → CellOk r i j) := Lib.hid fun h => HD.out ⟨hc.1, hc.2, .inl hk0, .inr (by rwa [show i - 1 = m from by omega])⟩
                        have HN2 : Hid (¬ gi (gr r i) k ≤ gi (gr r m) k → tableB o e r = false) := Lib.hid fun h => HN.out fun hC => h (by have := hC.2.2.2; rw [show i - 1 = m from by omega] at this; rcases this with h | h; omega; exact h)
                        have t1 : ((i : Int) - 1).toNat = m := by omega
                        have t2 : (0 : Int) ≤ (i : Int) - 1 := by omega
                        have t3 : (i : Int) - 1 < (r.length : Int) := by omega
                        have t4 : (0 : Int) < (i : Int) := by omega
                        clear HD HN hk0 hi0 hc u3 hm
                        generalize gi (gr r i) k = x at *
                        generalize gi (gr r m) k = z at *
                        by_cases hz : x ≤ z
                        · have HG := Lib.hid (HD2.out hz)
                          clear HD2 HN2
                          go_wp2_with (first | (go_at_call 25; refine (within_any _ _ _ _).mono ?_; rintro E w' ⟨rfl, rfl⟩; rw [HBt.out]))
                          go_round
                          case rel => exact ⟨k + 1, by omega, by go_num, HG⟩
                          case measure => simp [intOf]; omega
                        · have HG := Lib.hid (HN2.out hz)
                          clear HD2 HN2
                          go_wp2_with (first | (go_at_call 25; refine (within_any _ _ _ _).mono ?_; rintro E w' ⟨rfl, rfl⟩; rw [HBt.out]))
                          go_ret
                          rw [HG.out]
                          exact ⟨rfl, by first | exact below_drewN hbw _ | exact hbw⟩
                    · obtain ⟨n, rfl⟩ : ∃ n, k = n + 1 := ⟨k - 1, by omega⟩
                      obtain ⟨ck', y0, y1⟩ := HPV.out n rfl
                      by_cases hy : gi (gr r i) (n + 1) ≤ gi (gr r i) n
                      · by_cases hi0 : i = 0
                        · have i1 : i < 1 := by omega
                          have HG := Lib.hid (HD.out ⟨hc.1, hc.2, .inr (by rwa [Nat.add_sub_cancel]), .inl hi0⟩)
                          clear HD HN hk0 hi0 hc
                          generalize gi (gr r i) (n + 1) = x at *
                          generalize gi (gr r i) n = y at *
                          go_wp2_with (first | (go_at_call 25; refine (within_any _ _ _ _).mono ?_; rintro E w' ⟨rfl, rfl⟩; rw [HBt.out]))
                          go_round
                          case rel => exact ⟨n + 1 + 1, by omega, by go_num, HG⟩
                          case measure => simp [intOf]; omega
                        · obtain ⟨m, hm⟩ : ∃ m, i = m + 1 := ⟨i - 1, by omega⟩
                          obtain ⟨b', f', cp', u1, u3⟩ := HUp.out (by omega)
                          obtain ⟨u4, z0, z1⟩ := u3 (n + 1) hkt
                          rw [show i - 1 = m from by omega] at u1 u4 z0 z1
                          have HD2 : Hid (gi (gr r i) (n + 1) ≤ gi (gr r m) (n + 1) → ∀ j, j < n + 1 + 1 → CellOk r i j) := Lib.hid fun h => HD.out ⟨hc.1, hc.2, .inr (by rwa [Nat.add_sub_cancel]), .inr (by rwa [show i - 1 = m from by omega])⟩
                          have HN2 : Hid (¬ gi (gr r i) (n + 1) ≤ gi (gr r m) (n + 1) → tableB o e r = false) := Lib.hid fun h => HN.out fun hC => h (by have := hC.2.2.2; rw [show i - 1 = m from by omega] at this; rcases this with h | h; omega; exact h)
                          have t1 : ((i : Int) - 1).toNat = m := by omega
                          have t2 : (0 : Int) ≤ (i : Int) - 1 := by omega
                          have t3 : (i : Int) - 1 < (r.length : Int) := by omega
                          have t4 : (0 : Int) < (i : Int) := by omega
                          clear HD HN hk0 hi0 hc u3 hm
                          generalize gi (gr r i) (n + 1) = x at *
                          generalize gi (gr r i) n = y at *
                          generalize gi (gr r m) (n + 1) = z at *
                          by_cases hz : x ≤ z
                          · have HG := Lib.hid (HD2.out hz)
                            clear HD2 HN2
                            go_wp2_with (first | (go_at_call 25; refine (within_any _ _ _ _).mono ?_; rintro E w' ⟨rfl, rfl⟩; rw [HBt.out]))
                            go_round
                            case rel => exact ⟨n + 1 + 1, by omega, by go_num, HG⟩
                            case measure => simp [intOf]; omega
                          · have HG := Lib.hid (HN2.out hz)
                            clear HD2 HN2
                            go_wp2_with (first | (go_at_call 25; refine (within_any _ _ _ _).mono ?_; rintro E w' ⟨rfl, rfl⟩; rw [HBt.out]))
                            go_ret
                            rw [HG.out]
                            exact ⟨rfl, by first | exact below_drewN hbw _ | exact hbw⟩
                      · have HG := Lib.hid (HN.out fun hC => hy (by have := hC.2.2.1; rw [Nat.add_sub_cancel] at this; rcases this with h | h; omega; exact h))
                        clear HD HN hk0 hc
                        generalize gi (gr r i) (n + 1) = x at *
                        generalize gi (gr r i) n = y at *
                        go_wp2_with (first | (go_at_call 25; refine (within_any _ _ _ _).mono ?_; rintro E w' ⟨rfl, rfl⟩; rw [HBt.out]))
                        go_ret
                        rw [HG.out]
                        exact ⟨rfl, by first | exact below_drewN hbw _ | exact hbw⟩
                  · have HBt := Lib.hid (btw_f hc)
                    have HG := Lib.hid (HN.out fun h => hc ⟨h.1, h.2.1⟩)
                    clear HD HN hc
                    generalize gi (gr r i) k = x at *
                    go_wp2_with (first | (go_at_call 25; refine (within_any _ _ _ _).mono ?_; rintro E w' ⟨rfl, rfl⟩; rw [HBt.out]))
                    go_ret
                    rw [HG.out]
                    exact ⟨rfl, by first | exact below_drewN hbw _ | exact hbw⟩
                · have HG := Lib.hid (HRow.out (fun j hj => HB.out j (by omega)))
                  obtain rfl : k = e.length := by omega
                  go_wp2_with fail
                  go_roundw
                  case rel => exact ⟨i + 1, by omega, by go_num, below_drewN hbr0 _, HG⟩
                  case measure => simp [intOf]; omega
            · have HG := Lib.hid (HNi.out fun h => hle h.1)
              have hn1 : (((gr r i).length : Int) == e.length) = false := by simp; omega
              have hn2 : (((gr r i).length : Int) != e.length) = true := by simp; omega
              have hn3 := hIi.1
              clear HNi hle
              generalize (gr r i).length = q at *
              go_wp2_with fail
              go_quiet (fail)
              go_wp2_with fail
              go_ret
              rw [HG.out]
              exact ⟨rfl, by first | exact below_drewN hbw _ | exact hbw⟩
          · have HG := Lib.hid (HOK.out (fun j hj => HA.out j (by omega)))
            obtain rfl : i = r.length := by omega
            go_wp2_with fail
            go_ret
            rw [HG.out]
            exact ⟨rfl, by first | exact below_drewN hbw _ | exact hbw⟩
      · have HG := Lib.hid (tableB_f (o := o) (e := e) (r := r) (fun h => hl h.2.2.1))
        have hn1 : ((r.length : Int) == o.length) = false := by simp; omega
        have hn2 : ((r.length : Int) != o.length) = true := by simp; omega
        have hn3 := hT.2.2.1
        have hn4 := hT.1.1
        clear hl hT hB s1 s2
        go_enter Try.func10, Try.ntmps10
        go_wp2_with fail
        refine (HS1.out _ ((Below.refl _ _).alloc (Nat.le_refl _) _)).mono ?_
        rintro E w1 ⟨rfl, hb1⟩
        rw [H1.out]
        obtain ⟨hc1, hf1⟩ := bcell hb1
        go_wp2_with fail
        refine (HS2.out _ (box_below hb1)).mono ?_
        rintro E w2 ⟨rfl, hb2⟩
        rw [H2.out]
        have hb2 := hb1.trans (hb2.mono hb1.size)
        clear hc1 hf1
        obtain ⟨hc2, hf2⟩ := bcell hb2
        go_wp2_with fail
        go_ret
        rw [HG.out]
        exact ⟨rfl, box_below hb2⟩
    · have H2 := Lib.hid (slopesB_f s2)
      have HG := Lib.hid (tableB_f (o := o) (e := e) (r := r) (fun h => s2 h.2.1))
      clear hT hB s1 s2
      go_enter Try.func10, Try.ntmps10
      go_wp2_with fail
      refine (HS1.out _ ((Below.refl _ _).alloc (Nat.le_refl _) _)).mono ?_
      rintro E w1 ⟨rfl, hb1⟩
      rw [H1.out]
      obtain ⟨hc1, hf1⟩ := bcell hb1
      go_wp2_with fail
      refine (HS2.out _ (box_below hb1)).mono ?_
      rintro E w2 ⟨rfl, hb2⟩
      rw [H2.out]
      have hb2 := hb1.trans (hb2.mono hb1.size)
      go_wp2_with fail
      go_ret
      rw [HG.out]
      exact ⟨rfl, box_below hb2⟩
  · have H1 := Lib.hid (slopesB_f s1)
    have HG := Lib.hid (tableB_f (o := o) (e := e) (r := r) (fun h => s1 h.1))
    clear hT hB s1
    go_enter Try.func10, Try.ntmps10
    go_wp2_with fail
    refine (HS1.out _ ((Below.refl _ _).alloc (Nat.le_refl _) _)).mono ?_
    rintro E w1 ⟨rfl, hb1⟩
    rw [H1.out]
    go_wp2_with fail
    go_ret
    rw [HG.out]
    exact ⟨rfl, box_below hb1⟩
end Go.Proofs.Ytelehohffcncaaa
