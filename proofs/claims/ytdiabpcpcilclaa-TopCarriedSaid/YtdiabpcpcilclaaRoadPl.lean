/-
  The reference's lengths, versions, Valid, Length and At. By an AI agent.
-/
import Derived.Test.YtdiabpcpcilclaaRoadC
import Derived.Test.YtdiabpcpcilclaaRoadN
import Derived.Test.YtdiabpcpcilclaaRoadR
import Derived.BigRegion
import Derived.Deep.RegionHeld3
namespace Go.Proofs.Ytdiabpcpcilclaa
set_option linter.unusedVariables false
set_option linter.unusedSimpArgs false
open Go.RowKit

/-- The lengths of all versions. -/
def lensL (L : Int) (l : List Chg) (k : Nat) : List Int := (List.range (k + 1)).map (lenK L l)
theorem lens_len (L : Int) (l : List Chg) (k : Nat) : (lensL L l k).length = k + 1 := by simp [lensL]
theorem lens_at (L : Int) (l : List Chg) {k j : Nat} (h : j ≤ k) : gi (lensL L l k) j = lenK L l j := by
  unfold gi lensL; rw [List.getD_eq_getElem?_getD, List.getElem?_map, List.getElem?_range (by omega)]; rfl
def clI (q : List Int) : List Value := q.map fun x => .int .i64 x
theorem clI_len (q : List Int) : (clI q).length = q.length := by simp [clI]
theorem clI_at (q : List Int) {i : Nat} (h : i < q.length) : (clI q)[i]? = some (.int .i64 (gi q i)) := by
  unfold clI gi; rw [List.getElem?_map, List.getD_eq_getElem?_getD, List.getElem?_eq_getElem h]; rfl
theorem clI_lens (L : Int) (l : List Chg) (k : Nat) : clI (lensL L l (k + 1)) = clI (lensL L l k) ++ [.int .i64 (lenK L l (k + 1))] := by
  unfold clI lensL; rw [List.range_succ, List.map_append, List.map_append]; rfl
theorem ints_own {w : World} {base c : Nat} {a : Option Addr} {q : List Int} (h : w.ownsRow base 3 1 (.slice a q.length c) q.length (clI q)) (hn : q.length ≤ 9223372036854775807) : IntsC w a q := by
  refine ⟨hn, ?_⟩
  rcases h.2 with ⟨h1, h2⟩ | ⟨g2, c2, cur, h1, _⟩
  · exact ⟨0, 0, (fun hne => absurd (List.eq_nil_of_length_eq_zero h2) hne), fun i hi => by omega⟩
  · obtain ⟨rfl, rfl⟩ : a = some ⟨g2, 0, none⟩ ∧ c = c2 := by simpa using h1
    refine ⟨g2, 0, fun _ => rfl, fun i hi => ?_⟩
    rw [Nat.zero_add, World.ownsRow.cellAt h i (by omega)]
    exact clI_at q hi
/-- What lengths returns. -/
def LenE (w : World) (N L : Int) (l : List Chg) (e : Ending) (w' : World) : Prop := (RoadOk N L l ∧ ∃ b c, e = .returned (.tuple #[.slice b (l.length + 1) c, .bool true]) ∧ IntsC w' b (lensL L l l.length) ∧ Below w.heap.size w w') ∨ (¬ RoadOk N L l ∧ e = .returned (.tuple #[.slice none 0 0, .bool false]) ∧ Below w.heap.size w w')

set_option maxRecDepth 100000 in
set_option maxHeartbeats 4000000 in
theorem lengths_any (N L : Int) (a : Option Addr) (l : List Chg) (ca : Nat) (w : World) (hA : QuadS w a l) :
    Calls Try.prog 51 #[.agg #[.int .i64 N, .int .i64 L, .slice a l.length ca]] w (LenE w N L l) := by
  obtain ⟨i0, hi, hz0, hz1, hz2⟩ := info_parts intInfo
  have hlen := hA.1
  have HNo' : ¬ RoadOk N L l → Hid (∀ W, Below w.heap.size w W → LenE w N L l (.returned (.tuple #[.slice none 0 0, .bool false])) W) := fun h => Lib.hid fun W hW => .inr ⟨h, rfl, hW⟩
  by_cases hN : 1 ≤ N ∧ N ≤ 1000000
  · have B1 := Lib.hid (btw_t hN.1 hN.2)
    by_cases hL : 0 ≤ L ∧ L ≤ 10000000
    · have B2 := Lib.hid (btw_t hL.1 hL.2)
      have B3 := B2
      by_cases h40 : (40 : Int) < l.length
      · have HNo := HNo' fun h => by have := h.2.2.1; omega
        clear hA hN hL HNo'
        go_enter Try.func51, Try.ntmps51
        go_wp2_with (go_at_call 49; refine (from_any _ _ _ _).mono ?_; rintro e w' ⟨rfl, rfl⟩; first | rw [B1.out] | rw [B2.out] | rw [B3.out])
        go_ret2
        exact HNo.out _ ((Below.refl _ _).alloc (Nat.le_refl _) _)

      · have HF : Hid (∀ k, k < l.length → ¬ stepOk L l k → ∀ W, Below w.heap.size w W → LenE w N L l (.returned (.tuple #[.slice none 0 0, .bool false])) W) := Lib.hid fun k hk hs => (HNo' fun h => hs (h.2.2.2 k hk)).out
        have HT : Hid ((∀ j, j < l.length → stepOk L l j) → ∀ b c W, IntsC W b (lensL L l l.length) → Below w.heap.size w W → LenE w N L l (.returned (.tuple #[.slice b (l.length + 1) c, .bool true])) W) := Lib.hid fun h b c W h1 h2 => .inl ⟨⟨hN, hL, by omega, h⟩, b, c, rfl, h1, h2⟩
        obtain ⟨-, -, blk, off, hadr, hc⟩ := hA
        have HC := Lib.hid hc
        have HA : Hid (0 < l.length → a = some ⟨blk, off, none⟩) := Lib.hid fun h => hadr (pos_ne (n := 0) h)
        have HI0 : Hid (lensL L l 0 = [L] ∧ lenK L l 0 = L ∧ dayK l 0 = 0) := Lib.hid ⟨rfl, rfl, rfl⟩
        clear hc hadr hN HNo'
        obtain ⟨E, hEE⟩ : ∃ E, LenE w N L l = E := ⟨_, rfl⟩
        rw [hEE] at HF HT ⊢
        clear hEE
        go_enter Try.func51, Try.ntmps51
        go_wp2_with (go_at_call 49; refine (from_any _ _ _ _).mono ?_; rintro e w' ⟨rfl, rfl⟩; first | rw [B1.out] | rw [B2.out] | rw [B3.out])

        obtain ⟨wo, hwo⟩ : ∃ wo, w.alloc (.cells #[.int .i64 N, .int .i64 L, .slice a l.length ca] 24) = wo := ⟨_, rfl⟩
        have hB0 := RdBox.start w N L a l ca 24
        rw [hwo] at hB0 ⊢
        have hwos : wo.heap.size = w.heap.size + 1 := by rw [← hwo]; simp
        clear hwo
        have HB0 := Lib.hid hB0
        have HR0 : Hid ((wo.alloc (.cells #[.int .i64 L] 3)).ownsRow wo.heap.size 3 1 (.slice (some ⟨w.heap.size + 1, 0, none⟩) 1 1) 1 (clI [L])) := Lib.hid (by
          have := World.ownsRow_lit (base := wo.heap.size) (e := 3) (size := 1) wo #[.int .i64 L] 1 (Nat.le_refl _) (by decide) (by simp)
          rw [← hwos]
          exact this)
        go_loopw [4, 5, 6] (fun v dd i wr => ∃ k : Nat, k ≤ l.length ∧ dd = .int .i64 (dayK l k) ∧ i = .int .i64 k ∧ (∃ a c, v = .slice a (k + 1) c) ∧ Hid (wr.ownsRow wo.heap.size 3 1 v (k + 1) (clI (lensL L l k))) ∧ (RdBox w wr N L a l ca ∧ Below wo.heap.size wo wr) ∧ Hid (∀ j, j < k → stepOk L l j)) (fun _ _ i _ => l.length - (intOf i).toNat)
        case atStart => exact ⟨0, Nat.zero_le _, by rw [HI0.out.2.2], rfl, ⟨_, _, rfl⟩, Lib.hid (by rw [HI0.out.1]; exact HR0.out), ⟨hB0.alloc _, (Below.refl _ _).alloc (Nat.le_refl _) _⟩, Lib.hid fun j hj => absurd hj (Nat.not_lt_zero _)⟩
        case round =>
          obtain ⟨k, hk, rfl, rfl, ⟨aj, cj, rfl⟩, HRow, hB, HS⟩ := hrel
          obtain ⟨hb, p0, p1, p2⟩ := hB.1
          have hbo2 := hB.2
          by_cases hlt : k < l.length
          · obtain rfl := HA.out (by omega)
            obtain ⟨gj, hgj⟩ : ∃ gj, aj = some ⟨gj, 0, none⟩ := by
              rcases HRow.out.2 with ⟨h1, h2⟩ | ⟨g2, c2, cur, h1, _⟩
              · omega
              · exact ⟨g2, by simpa using (Value.slice.inj h1).1⟩
            subst hgj
            obtain ⟨c0, c1, c2, c3⟩ := HC.out k hlt
            have bn := len_bd2 hL k HS.out
            have bd := day_bd (L := L) k HS.out
            have HLA : Hid ((clI (lensL L l k))[k]? = some (.int .i64 (lenK L l k))) := Lib.hid (by rw [clI_at _ (by rw [lens_len]; omega), lens_at L l (Nat.le_refl _)])
            have HFk := Lib.hid (HF.out k hlt)
            have HNx : Hid (stepOk L l k → ∀ j, j < k + 1 → stepOk L l j) := Lib.hid fun h j hj => by
              by_cases e : j = k
              · subst e; exact h
              · exact HS.out j (by omega)
            have HQ : Hid (stepOk L l k ↔ ((dayK l k ≤ (gc l k).1 ∧ (gc l k).1 ≤ 100000) ∧ (0 ≤ (gc l k).2.1 ∧ (gc l k).2.1 ≤ lenK L l k) ∧ (0 ≤ (gc l k).2.2.1 ∧ (gc l k).2.2.1 ≤ lenK L l k) ∧ (gc l k).2.1 ≤ (gc l k).2.2.1 ∧ 0 ≤ (gc l k).2.2.2 ∧ (gc l k).2.2.2 ≤ 10000000) ∧ lenK L l k + (gc l k).2.2.2 - ((gc l k).2.2.1 - (gc l k).2.1) ≤ 10000000) := Lib.hid Iff.rfl
            have HX : Hid (lenK L l (k + 1) = lenK L l k + (gc l k).2.2.2 - ((gc l k).2.2.1 - (gc l k).2.1)) := Lib.hid rfl
            have HY : Hid (dayK l (k + 1) = (gc l k).1) := Lib.hid rfl
            have HCL := Lib.hid (clI_lens L l k)
            have c0 := cell_below c0 hb
            have c1 := cell_below c1 hb
            have c2 := cell_below c2 hb
            have c3 := cell_below c3 hb
            clear HC HF HS HA
            obtain ⟨CL, hCL⟩ : ∃ CL, clI (lensL L l k) = CL := ⟨_, rfl⟩
            rw [hCL] at HRow HCL HLA
            clear hCL
            generalize stepOk L l k = SK at *
            generalize lenK L l k = n at *
            generalize dayK l k = D at *
            generalize (gc l k).1 = d at *
            generalize (gc l k).2.1 = f at *
            generalize (gc l k).2.2.1 = t at *
            generalize (gc l k).2.2.2 = m at *
            obtain ⟨n0', n1'⟩ := bn
            obtain ⟨D0, D1⟩ := bd
            have hkk : (k : Int) < (l.length : Int) := by omega
            have hk1 : (k : Int) < ((k + 1 : Nat) : Int) := by omega
            have c4 := World.ownsRow.cellAt HRow.out k (by omega)
            rw [HLA.out] at c4
            have hgb : wo.heap.size ≤ gj := owns_block HRow.out rfl
            have z0 := block_lt c0
            have z4 := block_lt c4
            have n0 : blk ≠ wr.heap.size := by omega
            have n4 : gj ≠ wr.heap.size := by omega
            have nz : w.heap.size ≠ wr.heap.size := by have := block_lt p2; omega
            have qa : ∀ c o, ((wr.alloc (.cells c 61)).drew).cell? ⟨blk, o, none⟩ = wr.cell? ⟨blk, o, none⟩ := fun c o => (((Below.refl _ _).alloc (Nat.le_refl _) _ : Below wr.heap.size wr (wr.alloc (.cells c 61))).drew).cell (p := ⟨blk, o, none⟩) z0
            have qb : ∀ c o, ((wr.alloc (.cells c 61)).drew).cell? ⟨gj, o, none⟩ = wr.cell? ⟨gj, o, none⟩ := fun c o => (((Below.refl _ _).alloc (Nat.le_refl _) _ : Below wr.heap.size wr (wr.alloc (.cells c 61))).drew).cell (p := ⟨gj, o, none⟩) z4
            have qc : ∀ c o, ((wr.alloc (.cells c 61)).drew).cell? ⟨w.heap.size, o, none⟩ = wr.cell? ⟨w.heap.size, o, none⟩ := fun c o => (((Below.refl _ _).alloc (Nat.le_refl _) _ : Below wr.heap.size wr (wr.alloc (.cells c 61))).drew).cell (p := ⟨w.heap.size, o, none⟩) (block_lt p2)
            go_wp2_with fail
            go_region
            obtain ⟨wq, hwq⟩ : ∃ wq, (wr.alloc (.cells #[.int .i64 d, .int .i64 f, .int .i64 t, .int .i64 m] 61)).drew = wq := ⟨_, rfl⟩
            have hx : Below wr.heap.size wr wq := by rw [← hwq]; exact ((Below.refl _ _).alloc (Nat.le_refl _) _).drew
            have g0 : wq.cell? ⟨wr.heap.size, 0, none⟩ = some (.int .i64 d) := by rw [← hwq]; simp [go_sem]
            have g1 : wq.cell? ⟨wr.heap.size, 1, none⟩ = some (.int .i64 f) := by rw [← hwq]; simp [go_sem]
            have g2 : wq.cell? ⟨wr.heap.size, 2, none⟩ = some (.int .i64 t) := by rw [← hwq]; simp [go_sem]
            have g3 : wq.cell? ⟨wr.heap.size, 3, none⟩ = some (.int .i64 m) := by rw [← hwq]; simp [go_sem]
            rw [hwq]
            clear hwq qa qb qc c0 c1 c2 c3 c4 p0 p1 p2
            have HRow := Lib.hid (owns_below HRow.out hx)
            have HBq := Lib.hid (hB.1.on hx)
            have hbq := below_on hbo2 hx
            have hb := HBq.out.1
            clear hB hbo2
            by_cases a1 : f < 0
            · have HR := Lib.hid (HFk.out (fun h => by have := HQ.out.1 h; omega) wq hb)
              clear HFk HNx HQ HCL HRow HX HY
              go_wp2_with (go_at_call 49; refine (from_any _ _ _ _).mono ?_; rintro e w' ⟨rfl, rfl⟩; first | rw [B1.out] | rw [B2.out] | rw [B3.out])
              first | exact HR.out | (go_ret2; exact HR.out)

            by_cases a2 : t < f
            · have HR := Lib.hid (HFk.out (fun h => by have := HQ.out.1 h; omega) wq hb)
              clear HFk HNx HQ HCL HRow HX HY
              go_wp2_with (go_at_call 49; refine (from_any _ _ _ _).mono ?_; rintro e w' ⟨rfl, rfl⟩; first | rw [B1.out] | rw [B2.out] | rw [B3.out])
              first | exact HR.out | (go_ret2; exact HR.out)

            by_cases a3 : n < t
            · have HR := Lib.hid (HFk.out (fun h => by have := HQ.out.1 h; omega) wq hb)
              clear HFk HNx HQ HCL HRow HX HY
              go_wp2_with (go_at_call 49; refine (from_any _ _ _ _).mono ?_; rintro e w' ⟨rfl, rfl⟩; first | rw [B1.out] | rw [B2.out] | rw [B3.out])
              first | exact HR.out | (go_ret2; exact HR.out)

            by_cases a4 : 0 ≤ m ∧ m ≤ 10000000
            · have B2 := Lib.hid (btw_t a4.1 a4.2)
              obtain ⟨m0, m1⟩ := a4
              by_cases a5 : D ≤ d ∧ d ≤ 100000
              · have B3 := Lib.hid (btw_t a5.1 a5.2)
                by_cases a6 : 10000000 < n + (m - (t - f))
                · have HR := Lib.hid (HFk.out (fun h => by have := HQ.out.1 h; omega) wq hb)
                  clear HFk HNx HQ HCL HRow HX HY
                  go_wp2_with (go_at_call 49; refine (from_any _ _ _ _).mono ?_; rintro e w' ⟨rfl, rfl⟩; first | rw [B1.out] | rw [B2.out] | rw [B3.out])
                  first | exact HR.out | (go_ret2; exact HR.out)

                · have HS2 := Lib.hid (HNx.out (HQ.out.2 ⟨⟨a5, ⟨by omega, by omega⟩, ⟨by omega, by omega⟩, by omega, m0, m1⟩, by omega⟩))
                  have hCL : Hid (CL ++ [.int .i64 (n + (m - (t - f)))] = clI (lensL L l (k + 1))) := Lib.hid (by rw [HCL.out, HX.out, show n + m - (t - f) = n + (m - (t - f)) by omega])
                  clear HFk HNx HQ HCL HX
                  obtain ⟨V, hV⟩ : ∃ V, n + (m - (t - f)) = V := ⟨_, rfl⟩
                  rw [hV] at a6 hCL
                  go_wp2_with (go_at_call 49; refine (from_any _ _ _ _).mono ?_; rintro e w' ⟨rfl, rfl⟩; first | rw [B1.out] | rw [B2.out] | rw [B3.out])
                  have hbs := hbq.size
                  have hzr := block_lt g0
                  have hgj : gj < wq.heap.size := (World.ownsRow.lt HRow.out gj rfl).2
                  have hgb : wo.heap.size ≤ gj := owns_block HRow.out rfl
                  have hgx : gj < wr.heap.size := z4
                  go_region_law
                    (refine step_append_lies _ (by rfl) _ _ _ (by rfl) wo.heap.size 3 i0 _ 1 8 Try.underlying42 hi hz0 hz1 hz2 rfl (by decide) (.slice (some ⟨gj, 0, none⟩) (k + 1) cj) (k + 1) _ (by rfl) ((HRow.out.alloc _).drew) ⟨wq.heap.size, 0, none⟩ 1 1 [.int .i64 V] (by rfl) (by rfl) ?d1 ?d2 (by decide) ?d3 ?d4 ?d5 (wq.heap.size + 1) (by simp) ?_
                     case d1 =>
                       refine World.news_of_block (cs := #[.int .i64 V]) (t := 3) (fr := (0, 0)) ?_
                       exact heap_alloc_new wq _
                     case d2 => simp [Value.oneCell']
                     case d3 => unfold maxLen; omega
                     case d4 => omega
                     case d5 => simp; omega
                     intro g c2' w6 hown6 hgrow6 hat6 hlt6
                     have hb6 : Below wo.heap.size wo w6 := (((hbq.alloc hbs _).drew).grown hgrow6 (by simp; omega) (fun z hz => owns_block HRow.out hz))
                     have g0 : w6.cell? ⟨wr.heap.size, 0, none⟩ = some (.int .i64 d) := (World.grownBy.cell_far hgrow6 ⟨wr.heap.size, 0, none⟩ (by simp; omega) (by simp [Value.ownBlock]; omega)).trans (cell_below g0 (((Below.refl wq.heap.size wq).alloc (Nat.le_refl _) (.cells #[.int .i64 V] 3)).drew)))
                  all_goals
                    go_wp2_with fail
                    go_roundw
                    case rel => exact ⟨k + 1, by omega, by rw [HY.out], by go_num, ⟨_, c2', rfl⟩, Lib.hid (by rw [← hCL.out]; exact hown6), ⟨HB0.out.on hb6, hb6⟩, HS2⟩
                    case measure => simp [intOf]; omega
              · have B3 := Lib.hid (btw_f a5)
                have HR := Lib.hid (HFk.out (fun h => by have := HQ.out.1 h; omega) wq hb)
                clear HFk HNx HQ HCL HRow HX HY
                go_wp2_with (go_at_call 49; refine (from_any _ _ _ _).mono ?_; rintro e w' ⟨rfl, rfl⟩; first | rw [B1.out] | rw [B2.out] | rw [B3.out])
                first | exact HR.out | (go_ret2; exact HR.out)

            · have B2 := Lib.hid (btw_f a4)
              have B3 := B2
              have HR := Lib.hid (HFk.out (fun h => by have := HQ.out.1 h; omega) wq hb)
              clear HFk HNx HQ HCL HRow HX HY
              go_wp2_with (go_at_call 49; refine (from_any _ _ _ _).mono ?_; rintro e w' ⟨rfl, rfl⟩; first | rw [B1.out] | rw [B2.out] | rw [B3.out])
              first | exact HR.out | (go_ret2; exact HR.out)


          · obtain rfl : k = l.length := by omega
            have HR := Lib.hid (HT.out HS.out aj cj wr (ints_own (by rw [lens_len]; exact HRow.out) (by rw [lens_len]; omega)) hb)
            clear HT HF HS HRow HC
            go_wp2_with fail
            first | exact HR.out | (go_ret2; exact HR.out)

    · have B2 := Lib.hid (btw_f hL)
      have B3 := B2
      have HNo := HNo' fun h => hL h.2.1
      clear hA hN hL HNo'
      go_enter Try.func51, Try.ntmps51
      go_wp2_with (go_at_call 49; refine (from_any _ _ _ _).mono ?_; rintro e w' ⟨rfl, rfl⟩; first | rw [B1.out] | rw [B2.out] | rw [B3.out])
      go_ret2
      exact HNo.out _ ((Below.refl _ _).alloc (Nat.le_refl _) _)

  · have B1 := Lib.hid (btw_f hN)
    have B2 := B1
    have B3 := B1
    have HNo := HNo' fun h => hN h.1
    clear hA hN HNo'
    go_enter Try.func51, Try.ntmps51
    go_wp2_with (go_at_call 49; refine (from_any _ _ _ _).mono ?_; rintro e w' ⟨rfl, rfl⟩; first | rw [B1.out] | rw [B2.out] | rw [B3.out])
    go_ret2
    exact HNo.out _ ((Below.refl _ _).alloc (Nat.le_refl _) _)

end Go.Proofs.Ytdiabpcpcilclaa
