/-
  The walks of Reading and of its reference. By an AI agent.
-/
import Derived.Test.YtanmelbkhojfoaaLightG
namespace Go.Proofs.Ytanmelbkhojfoaa
set_option linter.unusedVariables false
set_option linter.unusedSimpArgs false
open Go.RowKit

def rdM (l : List (Int × Int)) : Nat → Int
  | 0 => 0
  | k + 1 => rdM l k + ((gp l k).2 - (gp l k).1)
def rdE (l : List (Int × Int)) : Nat → Int
  | 0 => 1
  | k + 1 => (gp l k).2
def rdOk (l : List (Int × Int)) (j : Nat) : Prop := rdE l j ≤ (gp l j).1 ∧ (gp l j).1 < (gp l j).2 ∧ (gp l j).2 ≤ 401
theorem rd_bd {l : List (Int × Int)} : ∀ k, (∀ j, j < k → rdOk l j) → 0 ≤ rdM l k ∧ rdM l k ≤ rdE l k - 1 ∧ 1 ≤ rdE l k ∧ rdE l k ≤ 401
  | 0, _ => by simp [rdM, rdE]
  | k + 1, h => by
    have ih := rd_bd k (fun j hj => h j (by omega))
    have hk := h k (by omega)
    unfold rdOk at hk
    rw [rdM, rdE]
    omega
open Classical in
noncomputable def readB (l : List (Int × Int)) (s : Int) : Bool := decide ((1 ≤ s ∧ s ≤ 300) ∧ ∀ j, j < l.length → rdOk l j)
noncomputable def readV (l : List (Int × Int)) (s : Int) : Int := if readB l s then rdM l l.length * 3600 / s else 0
noncomputable def readE (l : List (Int × Int)) (s : Int) : Int := if readB l s then 0 else 2
theorem read_t {l : List (Int × Int)} {s : Int} (h1 : 1 ≤ s ∧ s ≤ 300) (h2 : ∀ j, j < l.length → rdOk l j) : readV l s = rdM l l.length * 3600 / s ∧ readE l s = 0 := by
  have h : readB l s = true := by unfold readB; simp only [decide_eq_true_eq]; exact ⟨h1, h2⟩
  unfold readV readE; rw [h]; exact ⟨rfl, rfl⟩
theorem read_f {l : List (Int × Int)} {s : Int} (h : ¬ ((1 ≤ s ∧ s ≤ 300) ∧ ∀ j, j < l.length → rdOk l j)) : readV l s = 0 ∧ readE l s = 2 := by
  have h : readB l s = false := by unfold readB; simpa using h
  unfold readV readE; rw [h]; exact ⟨rfl, rfl⟩

set_option maxRecDepth 100000 in
set_option maxHeartbeats 2000000 in
theorem reading_any (a : Option Addr) (l : List (Int × Int)) (cap : Nat) (s : Int) (w : World) (hP : PairsS w a l) (hs : I64 s) :
    Calls Try.prog 32 #[.slice a l.length cap, .int .i64 s] w fun e w' => e = .returned (.tuple #[.int .i64 (readV l s), .int .i64 (readE l s)]) ∧ Below w.heap.size w w' := by
  obtain ⟨s0, s1⟩ := hs
  by_cases hb : 1 ≤ s ∧ s ≤ 300
  · have HB := Lib.hid (btw_t hb.1 hb.2)
    obtain ⟨hlen, hbd, blk, off, hadr, hc⟩ := hP
    have HT : Hid ((∀ j, j < l.length → rdOk l j) → readV l s = rdM l l.length * 3600 / s ∧ readE l s = 0) := Lib.hid fun h => read_t hb h
    have HF : Hid (∀ j, j < l.length → ¬ rdOk l j → readV l s = 0 ∧ readE l s = 2) := Lib.hid fun j hj h => read_f (fun g => h (g.2 j hj))
    obtain ⟨t0, t1⟩ := hb
    have HC := Lib.hid hc
    have HD := Lib.hid hbd
    clear hc hbd
    go_enter Try.func32, Try.ntmps32
    go_wp2_with (first | (go_at_call 55; refine (between_any _ _ _ _).mono ?_; rintro E w' ⟨rfl, rfl⟩; rw [HB.out]))
    go_loopw [6, 7, 15] (fun m e i wr => ∃ k : Nat, k ≤ l.length ∧ i = .int .i64 k ∧ m = .int .i64 (rdM l k) ∧ e = .int .i64 (rdE l k) ∧ Below w.heap.size w wr ∧ Hid (∀ j, j < k → rdOk l j)) (fun _ _ i _ => l.length - (intOf i).toNat)
    case atStart => exact ⟨0, Nat.zero_le _, rfl, rfl, rfl, Below.refl _ _, Lib.hid fun j hj => absurd hj (Nat.not_lt_zero _)⟩
    case round =>
      obtain ⟨k, hk, rfl, rfl, rfl, hbr, HA⟩ := hrel
      obtain ⟨m0, m1, e0, e1⟩ := rd_bd k HA.out
      have hbs := hbr.size
      by_cases hlt : k < l.length
      · obtain rfl := hadr (fun h => by rw [h] at hlt; simp at hlt)
        clear hadr
        obtain ⟨c0, c1⟩ := HC.out k hlt
        have c0 := cell_below c0 hbr
        have c1 := cell_below c1 hbr
        have hbl := block_lt c0
        obtain ⟨⟨x0, x1⟩, y0, y1⟩ := HD.out k hlt
        have HK : Hid (rdE l k ≤ (gp l k).1 → (gp l k).1 < (gp l k).2 → (gp l k).2 ≤ 401 → ∀ j, j < k + 1 → rdOk l j) := Lib.hid fun h1 h2 h3 j hj => by
          by_cases ej : j = k
          · subst ej; exact ⟨h1, h2, h3⟩
          · exact HA.out j (by omega)
        have HN : Hid (¬ (rdE l k ≤ (gp l k).1 ∧ (gp l k).1 < (gp l k).2 ∧ (gp l k).2 ≤ 401) → readV l s = 0 ∧ readE l s = 2) := Lib.hid (HF.out k hlt)
        have HM : Hid (rdM l (k + 1) = rdM l k + ((gp l k).2 - (gp l k).1) ∧ rdE l (k + 1) = (gp l k).2) := Lib.hid ⟨rfl, rfl⟩
        clear HT HF
        generalize (gp l k).1 = x at *
        generalize (gp l k).2 = y at *
        generalize rdM l k = m at *
        generalize rdE l k = e at *
        by_cases h1 : e ≤ x
        · by_cases h2 : x < y
          · by_cases h3 : y ≤ 401
            · have HR := Lib.hid (HK.out h1 h2 h3)
              clear HK HN
              go_wp2_with fail
              go_roundw
              case rel => exact ⟨k + 1, by omega, by go_num, by rw [HM.out.1], by rw [HM.out.2], hbr.alloc hbs _, HR⟩
              case measure => simp [intOf]; omega
            · have HR := Lib.hid (HN.out (fun h => h3 h.2.2))
              clear HK HN
              go_wp2_with fail
              go_ret2
              rw [HR.out.1, HR.out.2]
              exact ⟨rfl, hbr.alloc hbs _⟩
          · have HR := Lib.hid (HN.out (fun h => h2 h.2.1))
            clear HK HN
            go_wp2_with fail
            go_ret2
            rw [HR.out.1, HR.out.2]
            exact ⟨rfl, hbr.alloc hbs _⟩
        · have HR := Lib.hid (HN.out (fun h => h1 h.1))
          clear HK HN
          go_wp2_with fail
          go_ret2
          rw [HR.out.1, HR.out.2]
          exact ⟨rfl, hbr.alloc hbs _⟩
      · have HR := Lib.hid (HT.out (fun j hj => HA.out j (by omega)))
        obtain rfl : k = l.length := by omega
        clear HT HF
        generalize rdM l l.length = m at *
        generalize rdE l l.length = e at *
        go_wp2_with fail
        go_ret2
        rw [HR.out.1, HR.out.2]
        exact ⟨rfl, hbr⟩
  · have HB := Lib.hid (btw_f hb)
    have HR := Lib.hid (read_f (l := l) (s := s) (fun h => hb h.1))
    clear hb hP
    go_enter Try.func32, Try.ntmps32
    go_wp2_with (first | (go_at_call 55; refine (between_any _ _ _ _).mono ?_; rintro E w' ⟨rfl, rfl⟩; rw [HB.out]))
    go_ret2
    rw [HR.out.1, HR.out.2]
    exact ⟨rfl, Below.refl _ _⟩

set_option maxRecDepth 100000 in
set_option maxHeartbeats 2000000 in
theorem refReading_any (a : Option Addr) (l : List (Int × Int)) (cap : Nat) (s : Int) (w : World) (hP : PairsS w a l) (hs : I64 s) :
    Calls Try.prog 33 #[.slice a l.length cap, .int .i64 s] w fun e w' => e = .returned (.tuple #[.int .i64 (readV l s), .int .i64 (readE l s)]) ∧ Below w.heap.size w w' := by
  obtain ⟨s0, s1⟩ := hs
  by_cases hb : 1 ≤ s ∧ s ≤ 300
  · have HB := Lib.hid (btw_t hb.1 hb.2)
    obtain ⟨hlen, hbd, blk, off, hadr, hc⟩ := hP
    have HT : Hid ((∀ j, j < l.length → rdOk l j) → readV l s = rdM l l.length * 3600 / s ∧ readE l s = 0) := Lib.hid fun h => read_t hb h
    have HF : Hid (∀ j, j < l.length → ¬ rdOk l j → readV l s = 0 ∧ readE l s = 2) := Lib.hid fun j hj h => read_f (fun g => h (g.2 j hj))
    obtain ⟨t0, t1⟩ := hb
    have HC := Lib.hid hc
    have HD := Lib.hid hbd
    clear hc hbd
    go_enter Try.func33, Try.ntmps33
    go_wp2_with (first | (go_at_call 57; refine (within_any _ _ _ _).mono ?_; rintro E w' ⟨rfl, rfl⟩; rw [HB.out]))
    go_loopw [6, 7, 8] (fun m e i wr => ∃ k : Nat, k ≤ l.length ∧ i = .int .i64 k ∧ m = .int .i64 (rdM l k) ∧ e = .int .i64 (rdE l k) ∧ Below w.heap.size w wr ∧ Hid (∀ j, j < k → rdOk l j)) (fun _ _ i _ => l.length - (intOf i).toNat)
    case atStart => exact ⟨0, Nat.zero_le _, rfl, rfl, rfl, Below.refl _ _, Lib.hid fun j hj => absurd hj (Nat.not_lt_zero _)⟩
    case round =>
      obtain ⟨k, hk, rfl, rfl, rfl, hbr, HA⟩ := hrel
      obtain ⟨m0, m1, e0, e1⟩ := rd_bd k HA.out
      have hbs := hbr.size
      by_cases hlt : k < l.length
      · obtain rfl := hadr (fun h => by rw [h] at hlt; simp at hlt)
        clear hadr
        obtain ⟨c0, c1⟩ := HC.out k hlt
        have c0 := cell_below c0 hbr
        have c1 := cell_below c1 hbr
        have hbl := block_lt c0
        obtain ⟨⟨x0, x1⟩, y0, y1⟩ := HD.out k hlt
        have HK : Hid (rdE l k ≤ (gp l k).1 → (gp l k).1 < (gp l k).2 → (gp l k).2 ≤ 401 → ∀ j, j < k + 1 → rdOk l j) := Lib.hid fun h1 h2 h3 j hj => by
          by_cases ej : j = k
          · subst ej; exact ⟨h1, h2, h3⟩
          · exact HA.out j (by omega)
        have HN : Hid (¬ (rdE l k ≤ (gp l k).1 ∧ (gp l k).1 < (gp l k).2 ∧ (gp l k).2 ≤ 401) → readV l s = 0 ∧ readE l s = 2) := Lib.hid (HF.out k hlt)
        have HM : Hid (rdM l (k + 1) = rdM l k + ((gp l k).2 - (gp l k).1) ∧ rdE l (k + 1) = (gp l k).2) := Lib.hid ⟨rfl, rfl⟩
        clear HT HF
        generalize (gp l k).1 = x at *
        generalize (gp l k).2 = y at *
        generalize rdM l k = m at *
        generalize rdE l k = e at *
        by_cases h1 : e ≤ x
        · by_cases h2 : x < y
          · by_cases h3 : y ≤ 401
            · have HR := Lib.hid (HK.out h1 h2 h3)
              clear HK HN
              go_wp2_with fail
              go_roundw
              case rel => exact ⟨k + 1, by omega, by go_num, by rw [HM.out.1], by rw [HM.out.2], hbr.alloc hbs _, HR⟩
              case measure => simp [intOf]; omega
            · have HR := Lib.hid (HN.out (fun h => h3 h.2.2))
              clear HK HN
              go_wp2_with fail
              go_ret2
              rw [HR.out.1, HR.out.2]
              exact ⟨rfl, hbr.alloc hbs _⟩
          · have HR := Lib.hid (HN.out (fun h => h2 h.2.1))
            clear HK HN
            go_wp2_with fail
            go_ret2
            rw [HR.out.1, HR.out.2]
            exact ⟨rfl, hbr.alloc hbs _⟩
        · have HR := Lib.hid (HN.out (fun h => h1 h.1))
          clear HK HN
          go_wp2_with fail
          go_ret2
          rw [HR.out.1, HR.out.2]
          exact ⟨rfl, hbr.alloc hbs _⟩
      · have HR := Lib.hid (HT.out (fun j hj => HA.out j (by omega)))
        obtain rfl : k = l.length := by omega
        clear HT HF
        generalize rdM l l.length = m at *
        generalize rdE l l.length = e at *
        go_wp2_with fail
        go_ret2
        rw [HR.out.1, HR.out.2]
        exact ⟨rfl, hbr⟩
  · have HB := Lib.hid (btw_f hb)
    have HR := Lib.hid (read_f (l := l) (s := s) (fun h => hb h.1))
    clear hb hP
    go_enter Try.func33, Try.ntmps33
    go_wp2_with (first | (go_at_call 57; refine (within_any _ _ _ _).mono ?_; rintro E w' ⟨rfl, rfl⟩; rw [HB.out]))
    go_ret2
    rw [HR.out.1, HR.out.2]
    exact ⟨rfl, Below.refl _ _⟩

set_option maxRecDepth 100000 in
set_option maxHeartbeats 2000000 in
theorem lightReadings_any (a : Option Addr) (l : List (Int × Int)) (cap : Nat) (s : Int) (w : World) (hP : PairsS w a l) (hs : I64 s) :
    Calls Try.prog 7 #[.slice a l.length cap, .int .i64 s] w fun e w' => e = .returned (.bool true) ∧ Below w.heap.size w w' := by
  have HA := Lib.hid (reading_any a l cap s w hP hs)
  have HR : Hid (∀ W, Below w.heap.size w W → Calls Try.prog 33 #[.slice a l.length cap, .int .i64 s] W fun e w' => e = .returned (.tuple #[.int .i64 (readV l s), .int .i64 (readE l s)]) ∧ Below W.heap.size W w') := Lib.hid fun W hW => refReading_any a l cap s W (hP.below hW) hs
  have H1 := Lib.hid first_any
  have hlen := hP.1
  clear hP hs
  generalize readV l s = V at *
  generalize readE l s = E at *
  by_cases hn : l.length ≤ 1000
  · go_enter Try.func7, Try.ntmps7
    go_wp2_with fail
    refine HA.out.mono ?_
    rintro e w1 ⟨rfl, hb1⟩
    go_wp2_with fail
    refine (HR.out _ hb1).mono ?_
    rintro e w2 ⟨rfl, hb2⟩
    go_wp2_with fail
    refine (H1.out _).mono ?_
    rintro e w3 ⟨rfl, hb3⟩
    go_wp2_with fail
    go_ret
    exact ⟨rfl, hb1.trans ((hb2.trans (hb3.mono hb2.size)).mono hb1.size)⟩
  · go_enter Try.func7, Try.ntmps7
    go_wp2_with fail
    refine (H1.out _).mono ?_
    rintro e w3 ⟨rfl, hb3⟩
    go_wp2_with fail
    go_ret
    exact ⟨rfl, hb3⟩
end Go.Proofs.Ytanmelbkhojfoaa
