/-
  Clear of package sheet. By an AI agent.
-/
import Derived.Test.YthiaefhejdfobaaGreatSheR
import Derived.Deep.RegionHeld3
import Derived.BigQuiet
namespace Go.Proofs.YthiaefhejdfobaaGreat
set_option linter.unusedVariables false
set_option linter.unusedSimpArgs false
open Go.RowKit

theorem memS_gp {l : List (Int × Int)} {i : Nat} (h : i < l.length) : gp l i ∈ l := by
  unfold gp
  rw [List.getD_eq_getElem?_getD, List.getElem?_eq_getElem h]
  exact List.getElem_mem h
theorem gpS_mem {l : List (Int × Int)} {f : Int × Int} (h : f ∈ l) : ∃ i, i < l.length ∧ gp l i = f := by
  obtain ⟨i, hi, e⟩ := List.getElem_of_mem h
  refine ⟨i, hi, ?_⟩
  unfold gp
  rw [List.getD_eq_getElem?_getD, List.getElem?_eq_getElem hi]
  exact e
theorem i64_perm {l d : List (Int × Int)} (h : d.Perm l) (hf : ∀ i, i < l.length → I64 (gp l i).1 ∧ I64 (gp l i).2) : ∀ i, i < d.length → I64 (gp d i).1 ∧ I64 (gp d i).2 := fun i hi => by
  obtain ⟨j, hj, e⟩ := gpS_mem (h.mem_iff.1 (memS_gp hi))
  rw [← e]
  exact hf j hj
theorem asc_pair {d : List (Int × Int)} (h : AscF d) : d.Pairwise (fun f g => f.1 ≤ g.1) := by
  rw [List.pairwise_iff_getElem]
  intro i j hi hj hij
  have := h i j hij hj
  unfold gp at this
  rw [List.getD_eq_getElem?_getD, List.getD_eq_getElem?_getD, List.getElem?_eq_getElem hi, List.getElem?_eq_getElem hj] at this
  exact this
/-- SortFunc at spans, wherever they lie. -/
theorem sortO_any (base c : Nat) (b : Option Addr) (l : List (Int × Int)) (w : World) (h : w.ownsRow base 86 2 (.slice b l.length c) l.length (clS l)) (hn : l.length ≤ 100000000) (hf : ∀ i, i < l.length → I64 (gp l i).1 ∧ I64 (gp l i).2) :
    Calls Tryz.prog 67 #[.slice b l.length c, .func (.func 68) #[] #[]] w fun e w' => e = .returned (.tuple #[]) ∧ ∃ d : List (Int × Int), d.Perm l ∧ AscF d ∧ PairsS w' b d ∧ Below base w w' := by
  have h2 := h.2
  rcases h2 with ⟨h1, h2⟩ | ⟨g, c2, cur, h1, h2, h3⟩
  · have hl : l = [] := List.eq_nil_of_length_eq_zero h2
    subst hl
    obtain ⟨rfl, rfl⟩ : b = none ∧ c = 0 := by simpa using h1
    refine (sortNil_any 0 _ w).mono ?_
    rintro e w' ⟨rfl, rfl⟩
    exact ⟨rfl, [], List.Perm.refl _, (fun i j _ hj => absurd hj (Nat.not_lt_zero _)), pairs_nil _, Below.refl _ _⟩
  · obtain ⟨rfl, rfl⟩ : b = some ⟨g, 0, none⟩ ∧ c = c2 := by simpa using h1
    refine (sortC_any base g c l w h hn).mono ?_
    rintro e w' ⟨rfl, d, hp, ha, hc, hb⟩
    refine ⟨rfl, d, hp, ha, ⟨by rw [hp.length_eq]; omega, i64_perm hp hf, g, 0, fun _ => rfl, fun i hi => ?_⟩, hb⟩
    rw [Nat.zero_add]
    exact hc i hi
theorem scan_at {need x : Int} {d : List (Int × Int)} {k : Nat} (h : k < d.length) : scanK need (d.drop k) x = if x ≤ (gp d k).1 ∧ need ≤ (gp d k).1 - x then x else scanK need (d.drop (k + 1)) (if (gp d k).1 < (gp d k).2 then max x (gp d k).2 else x) := by
  rw [drop_gp h]; rfl
theorem scan_end {need x : Int} {d : List (Int × Int)} : scanK need (d.drop d.length) x = x := by simp [scanK]
theorem clear_scan {L need : Int} {l d : List (Int × Int)} (hn : 1 ≤ need) (hp : d.Perm l) (ha : AscF d) : clearV L need l = if L - scanK need d 0 < need then (0, false) else (scanK need d 0, true) := by
  have := scan_least need hn [] d 0 (asc_pair ha) (Int.le_refl 0) (fun q a b => by omega) (fun f hf => by cases hf)
  rw [List.nil_append] at this
  exact clear_of_least hn (least_perm hp this)
set_option maxHeartbeats 4000000 in
theorem clearS_any (L need : Int) (a : Option Addr) (l : List (Int × Int)) (c : Nat) (w : World) (hA : PairsS w a l) (hn : l.length ≤ 100000000) (hL : I64 L) (hN : I64 need) :
    Calls Tryz.prog 45 #[.int .i64 L, .slice a l.length c, .int .i64 need] w fun e w' => e = .returned (.tuple #[.int .i64 (clearV L need l).1, .bool (clearV L need l).2]) ∧ Below w.heap.size w w' := by
  unfold I64 at hL hN
  by_cases h0 : L < 0
  · have e : clearV L need l = (0, false) := by unfold clearV; rw [if_pos (by omega)]
    rw [e]
    clear e hA
    go_enter Tryz.func45, Tryz.ntmps45
    go_wp2_with fail
    go_ret2
    exact ⟨rfl, Below.refl _ _⟩
  · by_cases h1 : need < 1
    · have e : clearV L need l = (0, false) := by unfold clearV; rw [if_pos (by omega)]
      rw [e]
      clear e hA
      go_enter Tryz.func45, Tryz.ntmps45
      go_wp2_with fail
      go_ret2
      exact ⟨rfl, Below.refl _ _⟩
    · obtain ⟨V, hV⟩ : ∃ V, clearV L need l = V := ⟨_, rfl⟩
      rw [hV]
      have HV0 := Lib.hid hV
      clear hV
      obtain ⟨v0, v1⟩ := V
      simp only []
      have H1 := Lib.hid (clone_any a l c w hA hn)
      have HF := Lib.hid hA.2.1
      clear hA
      go_enter Tryz.func45, Tryz.ntmps45
      go_wp2_with fail
      refine H1.out.mono ?_
      rintro e w1 ⟨b, c', rfl, ho, hb1⟩
      have HO := Lib.hid ho
      clear ho H1
      go_wp2_with fail
      refine (sortO_any _ c' b l w1 HO.out hn HF.out).mono ?_
      rintro e w2 ⟨rfl, d, hp, ha, hD, hb2⟩
      have HV := Lib.hid (HV0.out.symm.trans (clear_scan (L := L) (need := need) (by omega) hp ha))
      clear HV0
      have hdl := hp.length_eq
      obtain ⟨-, hf, blk, off, hadr, hc⟩ := hD
      rw [hdl] at hf hc
      have HL : Hid (0 < l.length → b = some ⟨blk, off, none⟩) := Lib.hid fun h => hadr (len_pos (by omega))
      have HC := Lib.hid hc
      have HB := Lib.hid hf
      have HD := Lib.hid hdl
      have hb0 := hb1.trans hb2
      have HZ := Lib.hid hb1.size
      clear hf hc hadr hdl hp ha hb1 hb2 HO HF
      obtain ⟨R, hR⟩ : ∃ R, scanK need d 0 = R := ⟨_, rfl⟩
      rw [hR] at HV
      have HR : Hid (scanK need (d.drop 0) 0 = R) := Lib.hid (by rw [List.drop_zero]; exact hR)
      clear hR
      go_wp2_with fail
      go_loopw [9, 24] (fun p i wr => ∃ (k : Nat) (x : Int), k ≤ l.length ∧ i = .int .i64 k ∧ p = .int .i64 x ∧ 0 ≤ x ∧ x ≤ 9223372036854775807 ∧ Below w2.heap.size w2 wr ∧ Hid (scanK need (d.drop k) x = R)) (fun _ i _ => l.length - (intOf i).toNat)
      case atStart => exact ⟨0, 0, Nat.zero_le _, rfl, rfl, by omega, by omega, Below.refl _ _, HR⟩
      case round =>
        obtain ⟨k, x, hk, rfl, rfl, hx0, hx1, hb, HK⟩ := hrel
        have hbs := hb.size
        by_cases hlt : k < l.length
        · obtain rfl := HL.out (by omega)
          obtain ⟨c0, c1⟩ := HC.out k hlt
          have hbl := hb.size
          have c0 : wr.cell? ⟨blk, off + k * 2, none⟩ = some (.int .i64 (gp d k).1) := cell_below c0 hb
          have c1 : wr.cell? ⟨blk, off + k * 2 + 1, none⟩ = some (.int .i64 (gp d k).2) := cell_below c1 hb
          obtain ⟨b0, b1⟩ := HB.out k hlt
          unfold I64 at b0 b1
          have HK2 := HK.out
          rw [scan_at (by rw [HD.out]; exact hlt)] at HK2
          clear HK
          have HK := Lib.hid HK2
          clear HK2 HC HL HB HR
          generalize gp d k = f at *
          obtain ⟨x0, x1⟩ := f
          simp only at c0 c1 b0 b1
          by_cases h1 : x ≤ x0 ∧ need ≤ x0 - x
          · obtain rfl : x = R := by rw [← HK.out, if_pos h1]
            obtain ⟨g1, g2⟩ := h1
            clear HK
            by_cases g9 : L - x < need
            · obtain ⟨rfl, rfl⟩ : 0 = v0 ∧ false = v1 := by have := HV.out; rw [if_pos g9] at this; simpa [eq_comm] using this
              clear HV
              go_wp2_with fail
              go_ret2
              exact ⟨rfl, hb0.trans ((hb.alloc hbs _).mono hb0.size)⟩
            · obtain ⟨rfl, rfl⟩ : x = v0 ∧ true = v1 := by have := HV.out; rw [if_neg g9] at this; simpa [eq_comm] using this
              clear HV
              go_wp2_with fail
              go_ret2
              exact ⟨rfl, hb0.trans ((hb.alloc hbs _).mono hb0.size)⟩
          · by_cases g1 : x ≤ x0
            · have g2 : ¬ need ≤ x0 - x := by omega
              by_cases g3 : x0 < x1
              · have HK3 : Hid (scanK need (d.drop (k + 1)) (max x x1) = R) := Lib.hid (by rw [← HK.out, if_neg h1]; simp only []; rw [if_pos g3])
                clear HK h1
                go_wp2_with fail
                go_roundw
                case rel => exact ⟨k + 1, _, by omega, by go_num, rfl, by omega, by omega, hb.alloc hbs _, HK3⟩
                case measure => simp [intOf]; omega
              · have HK3 : Hid (scanK need (d.drop (k + 1)) x = R) := Lib.hid (by rw [← HK.out, if_neg h1]; simp only []; rw [if_neg g3])
                clear HK h1
                go_wp2_with fail
                go_roundw
                case rel => exact ⟨k + 1, _, by omega, by go_num, rfl, by omega, by omega, hb.alloc hbs _, HK3⟩
                case measure => simp [intOf]; omega
            · by_cases g3 : x0 < x1
              · have HK3 : Hid (scanK need (d.drop (k + 1)) (max x x1) = R) := Lib.hid (by rw [← HK.out, if_neg h1]; simp only []; rw [if_pos g3])
                clear HK h1
                go_wp2_with fail
                go_roundw
                case rel => exact ⟨k + 1, _, by omega, by go_num, rfl, by omega, by omega, hb.alloc hbs _, HK3⟩
                case measure => simp [intOf]; omega
              · have HK3 : Hid (scanK need (d.drop (k + 1)) x = R) := Lib.hid (by rw [← HK.out, if_neg h1]; simp only []; rw [if_neg g3])
                clear HK h1
                go_wp2_with fail
                go_roundw
                case rel => exact ⟨k + 1, _, by omega, by go_num, rfl, by omega, by omega, hb.alloc hbs _, HK3⟩
                case measure => simp [intOf]; omega
        · obtain rfl : k = l.length := by omega
          obtain rfl : x = R := by rw [← HK.out, ← HD.out, scan_end]
          clear HK HR HD
          by_cases g9 : L - x < need
          · obtain ⟨rfl, rfl⟩ : 0 = v0 ∧ false = v1 := by have := HV.out; rw [if_pos g9] at this; simpa [eq_comm] using this
            clear HV
            go_wp2_with fail
            go_ret2
            exact ⟨rfl, hb0.trans (hb.mono hb0.size)⟩
          · obtain ⟨rfl, rfl⟩ : x = v0 ∧ true = v1 := by have := HV.out; rw [if_neg g9] at this; simpa [eq_comm] using this
            clear HV
            go_wp2_with fail
            go_ret2
            exact ⟨rfl, hb0.trans (hb.mono hb0.size)⟩
end Go.Proofs.YthiaefhejdfobaaGreat
