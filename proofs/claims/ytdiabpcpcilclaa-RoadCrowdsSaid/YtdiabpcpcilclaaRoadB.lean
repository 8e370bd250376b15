/-
  Roads in memory: the box of a road; lengthAfter and Valid. By an AI agent.
-/
import Derived.Test.YtdiabpcpcilclaaRoadA
namespace Go.Proofs.Ytdiabpcpcilclaa
set_option linter.unusedVariables false
set_option linter.unusedSimpArgs false
open Go.RowKit

/-- A world in which the box of a road lies behind w. -/
def RdBox (w W : World) (N L : Int) (a : Option Addr) (l : List Chg) (ca : Nat) : Prop :=
  Below w.heap.size w W ∧ W.cell? ⟨w.heap.size, 0, none⟩ = some (.int .i64 N) ∧ W.cell? ⟨w.heap.size, 1, none⟩ = some (.int .i64 L) ∧ W.cell? ⟨w.heap.size, 2, none⟩ = some (.slice a l.length ca)
theorem RdBox.start (w : World) (N L : Int) (a : Option Addr) (l : List Chg) (ca : Nat) (T : TypeId) : RdBox w (w.alloc (.cells #[.int .i64 N, .int .i64 L, .slice a l.length ca] T)) N L a l ca :=
  ⟨(Below.refl _ _).alloc (Nat.le_refl _) _, by simp [go_sem], by simp [go_sem], by simp [go_sem]⟩
theorem RdBox.on {w W W' : World} {N L : Int} {a : Option Addr} {l : List Chg} {ca : Nat} (h : RdBox w W N L a l ca) (hb : Below W.heap.size W W') : RdBox w W' N L a l ca :=
  ⟨h.1.trans (hb.mono h.1.size), cell_below h.2.1 hb, cell_below h.2.2.1 hb, cell_below h.2.2.2 hb⟩
theorem RdBox.alloc {w W : World} {N L : Int} {a : Option Addr} {l : List Chg} {ca : Nat} (h : RdBox w W N L a l ca) (o : Obj) : RdBox w (W.alloc o) N L a l ca := h.on ((Below.refl _ _).alloc (Nat.le_refl _) _)
theorem RdBox.drewN {w W : World} {N L : Int} {a : Option Addr} {l : List Chg} {ca : Nat} (h : RdBox w W N L a l ca) (n : Nat) : RdBox w (W.drewN n) N L a l ca := h.on (below_drewN (Below.refl _ _) n)
/-- On from a world to a later one. -/
def On (w W : World) : Prop := Below w.heap.size w W
theorem below_on {w W W' : World} (h : Below w.heap.size w W) (hb : Below W.heap.size W W') : Below w.heap.size w W' := h.trans (hb.mono h.size)
theorem below_al {w W : World} (h : Below w.heap.size w W) (o : Obj) : Below w.heap.size w (W.alloc o) := h.alloc h.size _

theorem lenAfter_any (n d f t m : Int) (w : World) (hn : 0 ≤ n ∧ n ≤ 10000000) (hf : 0 ≤ f ∧ f ≤ 10000000) (ht : 0 ≤ t ∧ t ≤ 10000000) (hm : 0 ≤ m ∧ m ≤ 10000000) :
    Calls Try.prog 54 #[.int .i64 n, .agg #[.int .i64 d, .int .i64 f, .int .i64 t, .int .i64 m]] w fun e w' => e = .returned (.int .i64 (n + m - (t - f))) ∧ Below w.heap.size w w' := by
  obtain ⟨n0, n1⟩ := hn
  obtain ⟨f0, f1⟩ := hf
  obtain ⟨t0, t1⟩ := ht
  obtain ⟨m0, m1⟩ := hm
  go_enter Try.func54, Try.ntmps54
  go_wp2_with fail
  go_ret
  exact ⟨rfl, (Below.refl _ _).alloc (Nat.le_refl _) _⟩

set_option maxRecDepth 100000 in
set_option maxHeartbeats 4000000 in
theorem Valid_any (N L : Int) (a : Option Addr) (l : List Chg) (ca : Nat) (w : World) (hA : QuadS w a l) :
    Calls Try.prog 53 #[.agg #[.int .i64 N, .int .i64 L, .slice a l.length ca]] w fun e w' => e = .returned (.bool (roadB N L l)) ∧ Below w.heap.size w w' := by
  have hlen := hA.1
  by_cases hN : 1 ≤ N ∧ N ≤ 1000000
  · have HN := Lib.hid (btw_t hN.1 hN.2)
    by_cases hL : 0 ≤ L ∧ L ≤ 10000000
    · have HL := Lib.hid (btw_t hL.1 hL.2)
      by_cases h40 : (40 : Int) < l.length
      · rw [roadB_f fun h => by have := h.2.2.1; omega]
        clear hA hN hL
        go_enter Try.func53, Try.ntmps53
        go_wp2_with fail
        obtain ⟨wB, hwB⟩ : ∃ wB, (w.alloc (.cells #[.int .i64 N, .int .i64 L, .slice a l.length ca] 24)).alloc (.cells #[.int .i64 N] 3) = wB := ⟨_, rfl⟩
        have hB := (RdBox.start w N L a l ca 24).alloc (.cells #[.int .i64 N] 3)
        have pn : wB.cell? ⟨w.heap.size + 1, 0, none⟩ = some (.int .i64 N) := by rw [← hwB]; simp [go_sem]
        rw [hwB] at hB ⊢
        clear hwB
        refine (within1_any _ _ N _ _ pn).mono ?_
        rintro e w1 ⟨rfl, hb1⟩
        rw [HN.out]
        have hB := hB.on hb1
        have HB := Lib.hid hB
        obtain ⟨hb, p0, p1, p2⟩ := hB
        clear pn hb1
        go_wp2_with fail
        refine (within1_any _ _ L _ _ (by simp [go_sem])).mono ?_
        rintro e w2 ⟨rfl, hb2⟩
        rw [HL.out]
        have hB := (HB.out.alloc _).on hb2
        have HB := Lib.hid hB
        obtain ⟨hb, p0, p1, p2⟩ := hB
        clear hb2
        go_wp2_with fail
        go_ret
        exact ⟨rfl, hb⟩

      · have HF : Hid (∀ k, k < l.length → ¬ stepOk L l k → roadB N L l = false) := Lib.hid fun k hk hs => roadB_f fun h => hs (h.2.2.2 k hk)
        have HT : Hid ((∀ j, j < l.length → stepOk L l j) → roadB N L l = true) := Lib.hid fun h => roadB_t ⟨hN, hL, by omega, h⟩
        obtain ⟨-, -, blk, off, hadr, hc⟩ := hA
        have HC : Hid (∀ i, i < l.length → w.cell? ⟨blk, off + i * 4, none⟩ = some (.int .i64 (gc l i).1) ∧ w.cell? ⟨blk, off + i * 4 + 1, none⟩ = some (.int .i64 (gc l i).2.1) ∧ w.cell? ⟨blk, off + i * 4 + 2, none⟩ = some (.int .i64 (gc l i).2.2.1) ∧ w.cell? ⟨blk, off + i * 4 + 3, none⟩ = some (.int .i64 (gc l i).2.2.2)) := Lib.hid hc
        have HA : Hid (0 < l.length → a = some ⟨blk, off, none⟩) := Lib.hid fun h => hadr (pos_ne (n := 0) h)
        generalize roadB N L l = RB at *
        clear hc hadr hN
        go_enter Try.func53, Try.ntmps53
        go_wp2_with fail
        obtain ⟨wB, hwB⟩ : ∃ wB, (w.alloc (.cells #[.int .i64 N, .int .i64 L, .slice a l.length ca] 24)).alloc (.cells #[.int .i64 N] 3) = wB := ⟨_, rfl⟩
        have hB := (RdBox.start w N L a l ca 24).alloc (.cells #[.int .i64 N] 3)
        have pn : wB.cell? ⟨w.heap.size + 1, 0, none⟩ = some (.int .i64 N) := by rw [← hwB]; simp [go_sem]
        rw [hwB] at hB ⊢
        clear hwB
        refine (within1_any _ _ N _ _ pn).mono ?_
        rintro e w1 ⟨rfl, hb1⟩
        rw [HN.out]
        have hB := hB.on hb1
        have HB := Lib.hid hB
        obtain ⟨hb, p0, p1, p2⟩ := hB
        clear pn hb1
        go_wp2_with fail
        refine (within1_any _ _ L _ _ (by simp [go_sem])).mono ?_
        rintro e w2 ⟨rfl, hb2⟩
        rw [HL.out]
        have hB := (HB.out.alloc _).on hb2
        have HB := Lib.hid hB
        obtain ⟨hb, p0, p1, p2⟩ := hB
        clear hb2
        go_wp2_with fail

        go_loopw [3, 4, 30] (fun n d i wr => ∃ k : Nat, k ≤ l.length ∧ n = .int .i64 (lenK L l k) ∧ d = .int .i64 (dayK l k) ∧ i = .int .i64 k ∧ RdBox w wr N L a l ca ∧ Hid (∀ j, j < k → stepOk L l j)) (fun _ _ i _ => l.length - (intOf i).toNat)
        case atStart => exact ⟨0, Nat.zero_le _, rfl, rfl, rfl, HB.out, Lib.hid fun j hj => absurd hj (Nat.not_lt_zero _)⟩
        case round =>
          obtain ⟨k, hk, rfl, rfl, rfl, hB, HS⟩ := hrel
          by_cases hlt : k < l.length
          · obtain rfl := HA.out (by omega)
            obtain ⟨c0, c1, c2, c3⟩ := HC.out k hlt
            have bn := len_bd2 hL k HS.out
            have bd := day_bd (L := L) k HS.out
            have HFk := Lib.hid (HF.out k hlt)
            have HNx : Hid (stepOk L l k → ∀ j, j < k + 1 → stepOk L l j) := Lib.hid fun h j hj => by
              by_cases e : j = k
              · subst e; exact h
              · exact HS.out j (by omega)
            have HQ : Hid (stepOk L l k ↔ ((dayK l k ≤ (gc l k).1 ∧ (gc l k).1 ≤ 100000) ∧ (0 ≤ (gc l k).2.1 ∧ (gc l k).2.1 ≤ lenK L l k) ∧ (0 ≤ (gc l k).2.2.1 ∧ (gc l k).2.2.1 ≤ lenK L l k) ∧ (gc l k).2.1 ≤ (gc l k).2.2.1 ∧ 0 ≤ (gc l k).2.2.2 ∧ (gc l k).2.2.2 ≤ 10000000) ∧ lenK L l k + (gc l k).2.2.2 - ((gc l k).2.2.1 - (gc l k).2.1) ≤ 10000000) := Lib.hid Iff.rfl
            have HX : Hid (lenK L l (k + 1) = lenK L l k + (gc l k).2.2.2 - ((gc l k).2.2.1 - (gc l k).2.1)) := Lib.hid rfl
            have HY : Hid (dayK l (k + 1) = (gc l k).1) := Lib.hid rfl
            obtain ⟨hb, p0, p1, p2⟩ := hB
            have c0 := cell_below c0 hb
            have c1 := cell_below c1 hb
            have c2 := cell_below c2 hb
            have c3 := cell_below c3 hb
            have HB := Lib.hid (show RdBox w wr N L (some ⟨blk, off, none⟩) l ca from ⟨hb, p0, p1, p2⟩)
            clear HC HF HS HA
            generalize stepOk L l k = SK at *
            generalize lenK L l k = n at *
            generalize dayK l k = D at *
            generalize (gc l k).1 = d at *
            generalize (gc l k).2.1 = f at *
            generalize (gc l k).2.2.1 = t at *
            generalize (gc l k).2.2.2 = m at *
            obtain ⟨n0, n1⟩ := bn
            obtain ⟨D0, D1⟩ := bd
            by_cases h1 : D ≤ d ∧ d ≤ 100000
            · have E1 := Lib.hid (btw_t h1.1 h1.2)
              by_cases h2 : (0 ≤ f ∧ f ≤ n) ∧ 0 ≤ t ∧ t ≤ n
              · have E2 : Hid ((btw f 0 n && btw t 0 n) = true) := Lib.hid (by rw [btw_t h2.1.1 h2.1.2, btw_t h2.2.1 h2.2.2]; rfl)
                obtain ⟨⟨f0, f1⟩, t0, t1⟩ := h2
                by_cases h3 : t < f
                · have HR := Lib.hid (HFk.out fun h => by have := HQ.out.1 h; omega)
                  clear HFk HNx HQ
                  go_wp2_with fail
                  have hB := ((HB.out.alloc (.cells #[.int .i64 d, .int .i64 f, .int .i64 t, .int .i64 m] 61)).alloc (.cells #[.int .i64 d] 3))
                  obtain ⟨wC, hwC⟩ : ∃ wC, (wr.alloc (.cells #[.int .i64 d, .int .i64 f, .int .i64 t, .int .i64 m] 61)).alloc (.cells #[.int .i64 d] 3) = wC := ⟨_, rfl⟩
                  have pn : wC.cell? ⟨wr.heap.size + 1, 0, none⟩ = some (.int .i64 d) := by rw [← hwC]; simp [go_sem]
                  have g0 : wC.cell? ⟨wr.heap.size, 0, none⟩ = some (.int .i64 d) := by rw [← hwC]; simp [go_sem]
                  have g1 : wC.cell? ⟨wr.heap.size, 1, none⟩ = some (.int .i64 f) := by rw [← hwC]; simp [go_sem]
                  have g2 : wC.cell? ⟨wr.heap.size, 2, none⟩ = some (.int .i64 t) := by rw [← hwC]; simp [go_sem]
                  have g3 : wC.cell? ⟨wr.heap.size, 3, none⟩ = some (.int .i64 m) := by rw [← hwC]; simp [go_sem]
                  rw [hwC] at hB ⊢
                  clear hwC c0 c1 c2 c3 p0 p1 p2 hb HB
                  refine (within1_any _ _ d _ _ pn).mono ?_
                  rintro e w3 ⟨rfl, hb3⟩
                  rw [E1.out]
                  have g0 := cell_below g0 hb3
                  have g1 := cell_below g1 hb3
                  have g2 := cell_below g2 hb3
                  have g3 := cell_below g3 hb3
                  have HB := Lib.hid (hB.on hb3)
                  have hb := HB.out.1
                  clear pn hb3 hB
                  go_wp2_with fail
                  have hn : ∀ o, (w3.alloc (.cells #[.int .i64 f, .int .i64 t] 3)).cell? ⟨wr.heap.size, o, none⟩ = w3.cell? ⟨wr.heap.size, o, none⟩ := fun o => ((Below.refl _ _).alloc (Nat.le_refl _) _).cell (p := ⟨wr.heap.size, o, none⟩) (block_lt g0)
                  refine (within2_any _ _ f t _ _ (by simp [go_sem]) (by simp [go_sem])).mono ?_
                  rintro e w4 ⟨rfl, hb4⟩
                  rw [E2.out]
                  have g0 := cell_below ((hn 0).trans g0) hb4
                  have g1 := cell_below ((hn 1).trans g1) hb4
                  have g2 := cell_below ((hn 2).trans g2) hb4
                  have g3 := cell_below ((hn 3).trans g3) hb4
                  have HB := Lib.hid ((HB.out.alloc _).on hb4)
                  have hb := HB.out.1
                  clear hn hb4
                  go_wp2_with fail
                  go_ret
                  rw [HR.out]
                  exact ⟨rfl, hb⟩

                · by_cases h4 : 0 ≤ m ∧ m ≤ 10000000
                  · have E3 := Lib.hid (btw_t h4.1 h4.2)
                    obtain ⟨m0, m1⟩ := h4
                    have hx : lenK L l (k + 1) = n + m - (t - f) := HX.out
                    have HY2 : dayK l (k + 1) = d := HY.out
                    by_cases h5 : n + m - (t - f) ≤ 10000000
                    · have HR := Lib.hid (HNx.out (HQ.out.2 ⟨⟨h1, ⟨f0, f1⟩, ⟨t0, t1⟩, by omega, m0, m1⟩, h5⟩))
                      have hx := Lib.hid hx
                      have HY2 := Lib.hid HY2
                      clear HFk HNx HQ HX HY
                      go_wp2_with fail
                      have hB := ((HB.out.alloc (.cells #[.int .i64 d, .int .i64 f, .int .i64 t, .int .i64 m] 61)).alloc (.cells #[.int .i64 d] 3))
                      obtain ⟨wC, hwC⟩ : ∃ wC, (wr.alloc (.cells #[.int .i64 d, .int .i64 f, .int .i64 t, .int .i64 m] 61)).alloc (.cells #[.int .i64 d] 3) = wC := ⟨_, rfl⟩
                      have pn : wC.cell? ⟨wr.heap.size + 1, 0, none⟩ = some (.int .i64 d) := by rw [← hwC]; simp [go_sem]
                      have g0 : wC.cell? ⟨wr.heap.size, 0, none⟩ = some (.int .i64 d) := by rw [← hwC]; simp [go_sem]
                      have g1 : wC.cell? ⟨wr.heap.size, 1, none⟩ = some (.int .i64 f) := by rw [← hwC]; simp [go_sem]
                      have g2 : wC.cell? ⟨wr.heap.size, 2, none⟩ = some (.int .i64 t) := by rw [← hwC]; simp [go_sem]
                      have g3 : wC.cell? ⟨wr.heap.size, 3, none⟩ = some (.int .i64 m) := by rw [← hwC]; simp [go_sem]
                      rw [hwC] at hB ⊢
                      clear hwC c0 c1 c2 c3 p0 p1 p2 hb HB
                      refine (within1_any _ _ d _ _ pn).mono ?_
                      rintro e w3 ⟨rfl, hb3⟩
                      rw [E1.out]
                      have g0 := cell_below g0 hb3
                      have g1 := cell_below g1 hb3
                      have g2 := cell_below g2 hb3
                      have g3 := cell_below g3 hb3
                      have HB := Lib.hid (hB.on hb3)
                      have hb := HB.out.1
                      clear pn hb3 hB
                      go_wp2_with fail
                      have hn : ∀ o, (w3.alloc (.cells #[.int .i64 f, .int .i64 t] 3)).cell? ⟨wr.heap.size, o, none⟩ = w3.cell? ⟨wr.heap.size, o, none⟩ := fun o => ((Below.refl _ _).alloc (Nat.le_refl _) _).cell (p := ⟨wr.heap.size, o, none⟩) (block_lt g0)
                      refine (within2_any _ _ f t _ _ (by simp [go_sem]) (by simp [go_sem])).mono ?_
                      rintro e w4 ⟨rfl, hb4⟩
                      rw [E2.out]
                      have g0 := cell_below ((hn 0).trans g0) hb4
                      have g1 := cell_below ((hn 1).trans g1) hb4
                      have g2 := cell_below ((hn 2).trans g2) hb4
                      have g3 := cell_below ((hn 3).trans g3) hb4
                      have HB := Lib.hid ((HB.out.alloc _).on hb4)
                      have hb := HB.out.1
                      clear hn hb4
                      go_wp2_with fail
                      have hn : ∀ o, (w4.alloc (.cells #[.int .i64 m] 3)).cell? ⟨wr.heap.size, o, none⟩ = w4.cell? ⟨wr.heap.size, o, none⟩ := fun o => ((Below.refl _ _).alloc (Nat.le_refl _) _).cell (p := ⟨wr.heap.size, o, none⟩) (block_lt g0)
                      refine (within1_any _ _ m _ _ (by simp [go_sem])).mono ?_
                      rintro e w5 ⟨rfl, hb5⟩
                      rw [E3.out]
                      have g0 := cell_below ((hn 0).trans g0) hb5
                      have g1 := cell_below ((hn 1).trans g1) hb5
                      have g2 := cell_below ((hn 2).trans g2) hb5
                      have g3 := cell_below ((hn 3).trans g3) hb5
                      have HB := Lib.hid ((HB.out.alloc _).on hb5)
                      have hb := HB.out.1
                      clear hn hb5
                      go_wp2_with fail
                      have hz := block_lt g0
                      have hb := HB.out.1
                      have wrt := HB
                      have hC := Below.refl w5.heap.size w5
                      clear p0 p1 p2
                      go_region_held3 (fun w' => w'.cell? ⟨wr.heap.size, 0, none⟩ = some (.int .i64 d) ∧ w'.cell? ⟨wr.heap.size, 1, none⟩ = some (.int .i64 f) ∧ w'.cell? ⟨wr.heap.size, 2, none⟩ = some (.int .i64 t) ∧ w'.cell? ⟨wr.heap.size, 3, none⟩ = some (.int .i64 m)) (go_keep)
                        ((go_at_call 54
                          refine (lenAfter_any n d f t m _ ⟨n0, n1⟩ (by omega) (by omega) (by omega)).mono ?_
                          rintro E w9 ⟨rfl, hb9⟩
                          have g0 := (hb9.cell (p := ⟨wr.heap.size, 0, none⟩) hz).trans g0
                          have g1 := (hb9.cell (p := ⟨wr.heap.size, 1, none⟩) hz).trans g1
                          have g2 := (hb9.cell (p := ⟨wr.heap.size, 2, none⟩) hz).trans g2
                          have g3 := (hb9.cell (p := ⟨wr.heap.size, 3, none⟩) hz).trans g3
                          have hC : Below w5.heap.size w5 w9 := by first | exact (hC.drew).trans (hb9.mono hC.size) | exact hC.trans (hb9.mono hC.size)
                          have hz := Nat.lt_of_lt_of_le hz hb9.size))
                      all_goals
                        go_wp2_with fail
                        go_roundw
                        case rel => exact ⟨k + 1, by omega, by rw [hx.out], by rw [HY2.out], by go_num, wrt.out.on hC, HR⟩
                        case measure => simp [intOf]; omega

                    · have HR := Lib.hid (HFk.out fun h => by have := HQ.out.1 h; omega)
                      clear HFk HNx HQ HX HY hx HY2
                      go_wp2_with fail
                      have hB := ((HB.out.alloc (.cells #[.int .i64 d, .int .i64 f, .int .i64 t, .int .i64 m] 61)).alloc (.cells #[.int .i64 d] 3))
                      obtain ⟨wC, hwC⟩ : ∃ wC, (wr.alloc (.cells #[.int .i64 d, .int .i64 f, .int .i64 t, .int .i64 m] 61)).alloc (.cells #[.int .i64 d] 3) = wC := ⟨_, rfl⟩
                      have pn : wC.cell? ⟨wr.heap.size + 1, 0, none⟩ = some (.int .i64 d) := by rw [← hwC]; simp [go_sem]
                      have g0 : wC.cell? ⟨wr.heap.size, 0, none⟩ = some (.int .i64 d) := by rw [← hwC]; simp [go_sem]
                      have g1 : wC.cell? ⟨wr.heap.size, 1, none⟩ = some (.int .i64 f) := by rw [← hwC]; simp [go_sem]
                      have g2 : wC.cell? ⟨wr.heap.size, 2, none⟩ = some (.int .i64 t) := by rw [← hwC]; simp [go_sem]
                      have g3 : wC.cell? ⟨wr.heap.size, 3, none⟩ = some (.int .i64 m) := by rw [← hwC]; simp [go_sem]
                      rw [hwC] at hB ⊢
                      clear hwC c0 c1 c2 c3 p0 p1 p2 hb HB
                      refine (within1_any _ _ d _ _ pn).mono ?_
                      rintro e w3 ⟨rfl, hb3⟩
                      rw [E1.out]
                      have g0 := cell_below g0 hb3
                      have g1 := cell_below g1 hb3
                      have g2 := cell_below g2 hb3
                      have g3 := cell_below g3 hb3
                      have HB := Lib.hid (hB.on hb3)
                      have hb := HB.out.1
                      clear pn hb3 hB
                      go_wp2_with fail
                      have hn : ∀ o, (w3.alloc (.cells #[.int .i64 f, .int .i64 t] 3)).cell? ⟨wr.heap.size, o, none⟩ = w3.cell? ⟨wr.heap.size, o, none⟩ := fun o => ((Below.refl _ _).alloc (Nat.le_refl _) _).cell (p := ⟨wr.heap.size, o, none⟩) (block_lt g0)
                      refine (within2_any _ _ f t _ _ (by simp [go_sem]) (by simp [go_sem])).mono ?_
                      rintro e w4 ⟨rfl, hb4⟩
                      rw [E2.out]
                      have g0 := cell_below ((hn 0).trans g0) hb4
                      have g1 := cell_below ((hn 1).trans g1) hb4
                      have g2 := cell_below ((hn 2).trans g2) hb4
                      have g3 := cell_below ((hn 3).trans g3) hb4
                      have HB := Lib.hid ((HB.out.alloc _).on hb4)
                      have hb := HB.out.1
                      clear hn hb4
                      go_wp2_with fail
                      have hn : ∀ o, (w4.alloc (.cells #[.int .i64 m] 3)).cell? ⟨wr.heap.size, o, none⟩ = w4.cell? ⟨wr.heap.size, o, none⟩ := fun o => ((Below.refl _ _).alloc (Nat.le_refl _) _).cell (p := ⟨wr.heap.size, o, none⟩) (block_lt g0)
                      refine (within1_any _ _ m _ _ (by simp [go_sem])).mono ?_
                      rintro e w5 ⟨rfl, hb5⟩
                      rw [E3.out]
                      have g0 := cell_below ((hn 0).trans g0) hb5
                      have g1 := cell_below ((hn 1).trans g1) hb5
                      have g2 := cell_below ((hn 2).trans g2) hb5
                      have g3 := cell_below ((hn 3).trans g3) hb5
                      have HB := Lib.hid ((HB.out.alloc _).on hb5)
                      have hb := HB.out.1
                      clear hn hb5
                      go_wp2_with fail
                      have hz := block_lt g0
                      have hb := HB.out.1
                      have wrt := HB
                      have hC := Below.refl w5.heap.size w5
                      clear p0 p1 p2
                      go_region_held3 (fun w' => w'.cell? ⟨wr.heap.size, 0, none⟩ = some (.int .i64 d) ∧ w'.cell? ⟨wr.heap.size, 1, none⟩ = some (.int .i64 f) ∧ w'.cell? ⟨wr.heap.size, 2, none⟩ = some (.int .i64 t) ∧ w'.cell? ⟨wr.heap.size, 3, none⟩ = some (.int .i64 m)) (go_keep)
                        ((go_at_call 54
                          refine (lenAfter_any n d f t m _ ⟨n0, n1⟩ (by omega) (by omega) (by omega)).mono ?_
                          rintro E w9 ⟨rfl, hb9⟩
                          have g0 := (hb9.cell (p := ⟨wr.heap.size, 0, none⟩) hz).trans g0
                          have g1 := (hb9.cell (p := ⟨wr.heap.size, 1, none⟩) hz).trans g1
                          have g2 := (hb9.cell (p := ⟨wr.heap.size, 2, none⟩) hz).trans g2
                          have g3 := (hb9.cell (p := ⟨wr.heap.size, 3, none⟩) hz).trans g3
                          have hC : Below w5.heap.size w5 w9 := by first | exact (hC.drew).trans (hb9.mono hC.size) | exact hC.trans (hb9.mono hC.size)
                          have hz := Nat.lt_of_lt_of_le hz hb9.size))
                      all_goals
                        go_wp2_with fail
                        go_ret
                        rw [HR.out]
                        exact ⟨rfl, (wrt.out.on hC).1⟩

                  · have E3 := Lib.hid (btw_f h4)
                    have HR := Lib.hid (HFk.out fun h => by have := HQ.out.1 h; omega)
                    clear HFk HNx HQ h4
                    go_wp2_with fail
                    have hB := ((HB.out.alloc (.cells #[.int .i64 d, .int .i64 f, .int .i64 t, .int .i64 m] 61)).alloc (.cells #[.int .i64 d] 3))
                    obtain ⟨wC, hwC⟩ : ∃ wC, (wr.alloc (.cells #[.int .i64 d, .int .i64 f, .int .i64 t, .int .i64 m] 61)).alloc (.cells #[.int .i64 d] 3) = wC := ⟨_, rfl⟩
                    have pn : wC.cell? ⟨wr.heap.size + 1, 0, none⟩ = some (.int .i64 d) := by rw [← hwC]; simp [go_sem]
                    have g0 : wC.cell? ⟨wr.heap.size, 0, none⟩ = some (.int .i64 d) := by rw [← hwC]; simp [go_sem]
                    have g1 : wC.cell? ⟨wr.heap.size, 1, none⟩ = some (.int .i64 f) := by rw [← hwC]; simp [go_sem]
                    have g2 : wC.cell? ⟨wr.heap.size, 2, none⟩ = some (.int .i64 t) := by rw [← hwC]; simp [go_sem]
                    have g3 : wC.cell? ⟨wr.heap.size, 3, none⟩ = some (.int .i64 m) := by rw [← hwC]; simp [go_sem]
                    rw [hwC] at hB ⊢
                    clear hwC c0 c1 c2 c3 p0 p1 p2 hb HB
                    refine (within1_any _ _ d _ _ pn).mono ?_
                    rintro e w3 ⟨rfl, hb3⟩
                    rw [E1.out]
                    have g0 := cell_below g0 hb3
                    have g1 := cell_below g1 hb3
                    have g2 := cell_below g2 hb3
                    have g3 := cell_below g3 hb3
                    have HB := Lib.hid (hB.on hb3)
                    have hb := HB.out.1
                    clear pn hb3 hB
                    go_wp2_with fail
                    have hn : ∀ o, (w3.alloc (.cells #[.int .i64 f, .int .i64 t] 3)).cell? ⟨wr.heap.size, o, none⟩ = w3.cell? ⟨wr.heap.size, o, none⟩ := fun o => ((Below.refl _ _).alloc (Nat.le_refl _) _).cell (p := ⟨wr.heap.size, o, none⟩) (block_lt g0)
                    refine (within2_any _ _ f t _ _ (by simp [go_sem]) (by simp [go_sem])).mono ?_
                    rintro e w4 ⟨rfl, hb4⟩
                    rw [E2.out]
                    have g0 := cell_below ((hn 0).trans g0) hb4
                    have g1 := cell_below ((hn 1).trans g1) hb4
                    have g2 := cell_below ((hn 2).trans g2) hb4
                    have g3 := cell_below ((hn 3).trans g3) hb4
                    have HB := Lib.hid ((HB.out.alloc _).on hb4)
                    have hb := HB.out.1
                    clear hn hb4
                    go_wp2_with fail
                    have hn : ∀ o, (w4.alloc (.cells #[.int .i64 m] 3)).cell? ⟨wr.heap.size, o, none⟩ = w4.cell? ⟨wr.heap.size, o, none⟩ := fun o => ((Below.refl _ _).alloc (Nat.le_refl _) _).cell (p := ⟨wr.heap.size, o, none⟩) (block_lt g0)
                    refine (within1_any _ _ m _ _ (by simp [go_sem])).mono ?_
                    rintro e w5 ⟨rfl, hb5⟩
                    rw [E3.out]
                    have g0 := cell_below ((hn 0).trans g0) hb5
                    have g1 := cell_below ((hn 1).trans g1) hb5
                    have g2 := cell_below ((hn 2).trans g2) hb5
                    have g3 := cell_below ((hn 3).trans g3) hb5
                    have HB := Lib.hid ((HB.out.alloc _).on hb5)
                    have hb := HB.out.1
                    clear hn hb5
                    go_wp2_with fail
                    go_ret
                    rw [HR.out]
                    exact ⟨rfl, hb⟩

              · have E2 : Hid ((btw f 0 n && btw t 0 n) = false) := Lib.hid (by
                  cases e1 : btw f 0 n with
                  | false => rfl
                  | true => cases e2 : btw t 0 n with
                    | false => rfl
                    | true => exact absurd ⟨(btw_iff _ _ _).1 e1, (btw_iff _ _ _).1 e2⟩ h2)
                have HR := Lib.hid (HFk.out fun h => by have := HQ.out.1 h; omega)
                clear HFk HNx HQ h2
                go_wp2_with fail
                have hB := ((HB.out.alloc (.cells #[.int .i64 d, .int .i64 f, .int .i64 t, .int .i64 m] 61)).alloc (.cells #[.int .i64 d] 3))
                obtain ⟨wC, hwC⟩ : ∃ wC, (wr.alloc (.cells #[.int .i64 d, .int .i64 f, .int .i64 t, .int .i64 m] 61)).alloc (.cells #[.int .i64 d] 3) = wC := ⟨_, rfl⟩
                have pn : wC.cell? ⟨wr.heap.size + 1, 0, none⟩ = some (.int .i64 d) := by rw [← hwC]; simp [go_sem]
                have g0 : wC.cell? ⟨wr.heap.size, 0, none⟩ = some (.int .i64 d) := by rw [← hwC]; simp [go_sem]
                have g1 : wC.cell? ⟨wr.heap.size, 1, none⟩ = some (.int .i64 f) := by rw [← hwC]; simp [go_sem]
                have g2 : wC.cell? ⟨wr.heap.size, 2, none⟩ = some (.int .i64 t) := by rw [← hwC]; simp [go_sem]
                have g3 : wC.cell? ⟨wr.heap.size, 3, none⟩ = some (.int .i64 m) := by rw [← hwC]; simp [go_sem]
                rw [hwC] at hB ⊢
                clear hwC c0 c1 c2 c3 p0 p1 p2 hb HB
                refine (within1_any _ _ d _ _ pn).mono ?_
                rintro e w3 ⟨rfl, hb3⟩
                rw [E1.out]
                have g0 := cell_below g0 hb3
                have g1 := cell_below g1 hb3
                have g2 := cell_below g2 hb3
                have g3 := cell_below g3 hb3
                have HB := Lib.hid (hB.on hb3)
                have hb := HB.out.1
                clear pn hb3 hB
                go_wp2_with fail
                have hn : ∀ o, (w3.alloc (.cells #[.int .i64 f, .int .i64 t] 3)).cell? ⟨wr.heap.size, o, none⟩ = w3.cell? ⟨wr.heap.size, o, none⟩ := fun o => ((Below.refl _ _).alloc (Nat.le_refl _) _).cell (p := ⟨wr.heap.size, o, none⟩) (block_lt g0)
                refine (within2_any _ _ f t _ _ (by simp [go_sem]) (by simp [go_sem])).mono ?_
                rintro e w4 ⟨rfl, hb4⟩
                rw [E2.out]
                have g0 := cell_below ((hn 0).trans g0) hb4
                have g1 := cell_below ((hn 1).trans g1) hb4
                have g2 := cell_below ((hn 2).trans g2) hb4
                have g3 := cell_below ((hn 3).trans g3) hb4
                have HB := Lib.hid ((HB.out.alloc _).on hb4)
                have hb := HB.out.1
                clear hn hb4
                go_wp2_with fail
                go_ret
                rw [HR.out]
                exact ⟨rfl, hb⟩

            · have E1 := Lib.hid (btw_f h1)
              have HR := Lib.hid (HFk.out fun h => by have := HQ.out.1 h; omega)
              clear HFk HNx HQ h1
              go_wp2_with fail
              have hB := ((HB.out.alloc (.cells #[.int .i64 d, .int .i64 f, .int .i64 t, .int .i64 m] 61)).alloc (.cells #[.int .i64 d] 3))
              obtain ⟨wC, hwC⟩ : ∃ wC, (wr.alloc (.cells #[.int .i64 d, .int .i64 f, .int .i64 t, .int .i64 m] 61)).alloc (.cells #[.int .i64 d] 3) = wC := ⟨_, rfl⟩
              have pn : wC.cell? ⟨wr.heap.size + 1, 0, none⟩ = some (.int .i64 d) := by rw [← hwC]; simp [go_sem]
              have g0 : wC.cell? ⟨wr.heap.size, 0, none⟩ = some (.int .i64 d) := by rw [← hwC]; simp [go_sem]
              have g1 : wC.cell? ⟨wr.heap.size, 1, none⟩ = some (.int .i64 f) := by rw [← hwC]; simp [go_sem]
              have g2 : wC.cell? ⟨wr.heap.size, 2, none⟩ = some (.int .i64 t) := by rw [← hwC]; simp [go_sem]
              have g3 : wC.cell? ⟨wr.heap.size, 3, none⟩ = some (.int .i64 m) := by rw [← hwC]; simp [go_sem]
              rw [hwC] at hB ⊢
              clear hwC c0 c1 c2 c3 p0 p1 p2 hb HB
              refine (within1_any _ _ d _ _ pn).mono ?_
              rintro e w3 ⟨rfl, hb3⟩
              rw [E1.out]
              have g0 := cell_below g0 hb3
              have g1 := cell_below g1 hb3
              have g2 := cell_below g2 hb3
              have g3 := cell_below g3 hb3
              have HB := Lib.hid (hB.on hb3)
              have hb := HB.out.1
              clear pn hb3 hB
              go_wp2_with fail
              go_ret
              rw [HR.out]
              exact ⟨rfl, hb⟩

          · obtain rfl : k = l.length := by omega
            have HR := Lib.hid (HT.out HS.out)
            obtain ⟨hb, p0, p1, p2⟩ := hB
            go_wp2_with fail
            go_ret
            rw [HR.out]
            exact ⟨rfl, hb⟩

    · have HL := Lib.hid (btw_f hL)
      rw [roadB_f fun h => hL h.2.1]
      clear hA hN hL
      go_enter Try.func53, Try.ntmps53
      go_wp2_with fail
      obtain ⟨wB, hwB⟩ : ∃ wB, (w.alloc (.cells #[.int .i64 N, .int .i64 L, .slice a l.length ca] 24)).alloc (.cells #[.int .i64 N] 3) = wB := ⟨_, rfl⟩
      have hB := (RdBox.start w N L a l ca 24).alloc (.cells #[.int .i64 N] 3)
      have pn : wB.cell? ⟨w.heap.size + 1, 0, none⟩ = some (.int .i64 N) := by rw [← hwB]; simp [go_sem]
      rw [hwB] at hB ⊢
      clear hwB
      refine (within1_any _ _ N _ _ pn).mono ?_
      rintro e w1 ⟨rfl, hb1⟩
      rw [HN.out]
      have hB := hB.on hb1
      have HB := Lib.hid hB
      obtain ⟨hb, p0, p1, p2⟩ := hB
      clear pn hb1
      go_wp2_with fail
      refine (within1_any _ _ L _ _ (by simp [go_sem])).mono ?_
      rintro e w2 ⟨rfl, hb2⟩
      rw [HL.out]
      have hB := (HB.out.alloc _).on hb2
      have HB := Lib.hid hB
      obtain ⟨hb, p0, p1, p2⟩ := hB
      clear hb2
      go_wp2_with fail
      go_ret
      exact ⟨rfl, hb⟩

  · have HN := Lib.hid (btw_f hN)
    rw [roadB_f fun h => hN h.1]
    clear hA hN
    go_enter Try.func53, Try.ntmps53
    go_wp2_with fail
    obtain ⟨wB, hwB⟩ : ∃ wB, (w.alloc (.cells #[.int .i64 N, .int .i64 L, .slice a l.length ca] 24)).alloc (.cells #[.int .i64 N] 3) = wB := ⟨_, rfl⟩
    have hB := (RdBox.start w N L a l ca 24).alloc (.cells #[.int .i64 N] 3)
    have pn : wB.cell? ⟨w.heap.size + 1, 0, none⟩ = some (.int .i64 N) := by rw [← hwB]; simp [go_sem]
    rw [hwB] at hB ⊢
    clear hwB
    refine (within1_any _ _ N _ _ pn).mono ?_
    rintro e w1 ⟨rfl, hb1⟩
    rw [HN.out]
    have hB := hB.on hb1
    have HB := Lib.hid hB
    obtain ⟨hb, p0, p1, p2⟩ := hB
    clear pn hb1
    go_wp2_with fail
    go_ret
    exact ⟨rfl, hb⟩

end Go.Proofs.Ytdiabpcpcilclaa
