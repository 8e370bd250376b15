/-
  The walk of dearest: it finds the greatest worth piece by piece. By an AI agent.
-/
import Derived.Test.YtmeoekcajmgiaaaCutD
namespace Go.Proofs.Ytmeoekcajmgiaaa
set_option linter.unusedVariables false
set_option linter.unusedSimpArgs false
open Go.RowKit

theorem intInfo : (Try.prog.info? 3).map (fun i => (i.zero, i.size, i.bytes)) = some (some (.int .i64 0), 1, 8) := by kernel_rfl
/-- The size of an ask. -/
def szN (K : Int) (l : List (Int × Int)) (i : Nat) : Nat := ((l.getD i (0, 0)).1 + K).toNat
theorem pk_small (b : Nat → Int) (sz : Nat) (pr : Int) (m : Nat) {r : Nat} (h : r < sz) : pkN b sz pr (m + 1) r = pkN b sz pr m r := by rw [pkN, if_neg (by omega)]
theorem pk_big (b : Nat → Int) (sz : Nat) (pr : Int) (m : Nat) {r : Nat} (h : sz ≤ r) : pkN b sz pr (m + 1) r = max (pkN b sz pr m r) (pkN b sz pr m (r - sz) + pr) := by rw [pkN, if_pos h]
theorem bst_next (l : List (Int × Int)) (q : List Int) (K : Int) (k r : Nat) : bstN l q K (k + 1) r = pkN (bstN l q K k) (szN K l k) (q.getD k 0) (l.getD k (0, 0)).2.toNat r := by
  rw [bstN, pk_top _ _ _ (bstN_nonneg l q K k)]
  rfl

set_option maxRecDepth 100000 in
set_option maxHeartbeats 4000000 in
theorem dearest_any (L K : Int) (aa : Option Addr) (l : List (Int × Int)) (ca : Nat) (ap : Option Addr) (q : List Int) (cq : Nat) (w : World) (hA : PairsS w aa l) (hQ : IntsS w ap q) (hV : CutOk L K l) (hP : PrcOk l q) :
    Calls Try.prog 29 #[.agg #[.int .i64 L, .int .i64 K, .slice aa l.length ca], .slice ap q.length cq] w fun e w' => e = .returned (.int .i64 (bstN l q K l.length (L + K).toNat)) ∧ Below w.heap.size w w' := by
  obtain ⟨⟨l0, l1⟩, ⟨k0, k1⟩, h8, hok⟩ := hV
  obtain ⟨hl, hpr⟩ := hP
  obtain ⟨R, hR⟩ : ∃ R : Nat, L + K = (R : Int) := ⟨(L + K).toNat, by omega⟩
  have hR2 : (L + K).toNat = R := by omega
  rw [hR2]
  have R0 : 1 ≤ R := by omega
  have R1 : R ≤ 1020 := by omega
  have HRm : Hid (∀ W, Calls Try.prog 18 #[.agg #[.int .i64 L, .int .i64 K, .slice aa l.length ca]] W fun e w' => e = .returned (.int .i64 (R : Int)) ∧ Below W.heap.size W w') := Lib.hid fun W => by
    have h := room_any L K aa l ca W (by omega) l1 k0 k1
    rw [hR] at h
    exact h
  have HZ : Hid (∀ i, i < l.length → 1 ≤ szN K l i ∧ szN K l i ≤ R ∧ (gp l i).1 + K = (szN K l i : Int)) := Lib.hid fun i hi => by
    have := (hok i hi).1
    unfold szN
    unfold gp at *
    omega
  have HS0 : Hid (∀ i, i < l.length → ∀ W, Below w.heap.size w W → Calls Try.prog 16 #[.agg #[.int .i64 L, .int .i64 K, .slice aa l.length ca], .int .i64 i] W fun e w' => e = .returned (.int .i64 (szN K l i : Int)) ∧ Below W.heap.size W w') := Lib.hid fun i hi W hW => by
    have h := size_any L K aa l ca i W (hA.below hW) hi (by have := (hok i hi).1; omega) (by have := (hok i hi).1; omega) k0 k1
    rw [(HZ.out i hi).2.2] at h
    exact h
  have HPR : Hid (∀ i, i < l.length → 0 ≤ gi q i ∧ gi q i ≤ 1000000) := Lib.hid fun i hi => hpr i (by omega)
  have HCN : Hid (∀ i, i < l.length → 0 ≤ (gp l i).2 ∧ (gp l i).2 ≤ 50) := Lib.hid fun i hi => (hok i hi).2
  have HBd : Hid (∀ k, k ≤ l.length → ∀ r, 0 ≤ bstN l q K k r ∧ bstN l q K k r ≤ 400000000) := Lib.hid fun k hk r => by
    refine ⟨bstN_nonneg l q K k r, ?_⟩
    have := bstN_bd l q K k (fun j hj => by
      have a := HPR.out j (by omega)
      have b := HCN.out j (by omega)
      unfold gi at a
      unfold gp at b
      exact ⟨b.2, a⟩) r
    omega
  have HPB : Hid (∀ k, k < l.length → ∀ m r, 0 ≤ pkN (bstN l q K k) (szN K l k) (gi q k) m r) := Lib.hid fun k hk m r => by
    rw [pk_top _ _ _ (bstN_nonneg l q K k)]; exact topN_nonneg _ _ _ _ _
  have HPC : Hid (∀ k, k < l.length → ∀ m r, m ≤ 50 → pkN (bstN l q K k) (szN K l k) (gi q k) m r ≤ 450000000) := Lib.hid fun k hk m r hm => by
    rw [pk_top _ _ _ (bstN_nonneg l q K k)]
    have a := HPR.out k hk
    have := topN_bd (bstN l q K k) (szN K l k) (gi q k) a.1 a.2 (fun r => (HBd.out k (by omega) r).2) (by omega) r (C := 50) (m + 1) (by omega)
    omega
  have HNX : Hid (∀ k r, bstN l q K (k + 1) r = pkN (bstN l q K k) (szN K l k) (gi q k) (gp l k).2.toNat r) := Lib.hid fun k r => bst_next l q K k r
  obtain ⟨hlenA, -, blk, off, hadr, hc⟩ := hA
  obtain ⟨hlen, hbd, bq, oq, hadq, hq⟩ := hQ
  have HC := Lib.hid hc
  have HQ := Lib.hid hq
  have HL : Hid (0 < l.length → aa = some ⟨blk, off, none⟩) := Lib.hid fun h => hadr (pos_ne (n := 0) h)
  have HLQ : Hid (0 < l.length → ap = some ⟨bq, oq, none⟩) := Lib.hid fun h => hadq (pos_ne (n := 0) (i := 0) (by omega))
  have HST := Lib.hid (InBox.start w L K (.slice aa l.length ca) 24)
  rw [hl] at HQ ⊢
  obtain ⟨i0, hi, hz0, hz1, hz2⟩ := info_parts intInfo
  clear hc hadr hq hadq hbd hok hpr hR hR2 hl hlen
  go_enter Try.func29, Try.ntmps29
  go_wp2_with fail
  refine (HRm.out _).mono ?_
  rintro e w4 ⟨rfl, hb4⟩
  have HS4 := Lib.hid (HST.out.on hb4)
  go_wp2_with (refine wpList_make_full _ rfl _ _ 33 rfl w4.heap.size 3 i0 (.int .i64 0) 1 Try.underlying33 hi hz0 hz1 _ _ ((R : Int) + 1) ((R : Int) + 1) (R + 1) rfl rfl (by omega) (by omega) ?c1 ?c2 ?c3 ?_)
  case c1 => rw [hz2]; omega
  case c2 => unfold maxLen; omega
  case c3 => simp
  intro w5 hown hgrow
  have hr0 : IRow w4.heap.size w5 w4.heap.size (R + 1) (fun _ => 0) := IRow.made hown
  have hb5 : Below w4.heap.size w4 w5 := (Below.refl _ _).grown hgrow (Nat.le_refl _) (fun k h => by cases h)
  have hz5 := block_lt (hr0.cell (show 0 < R + 1 by omega))
  have HR0 := Lib.hid hr0
  have p2 := (HS4.out.on hb5).2.2.2
  have hzw : w.heap.size < w4.heap.size := by have := hb4.size; simp at this; omega
  clear hown hgrow hi hz0 hz1 hz2 hr0 hb4 HST
  go_wp2_with fail
  go_loopw [16] (fun i wr => ∃ (k : Nat) (B : Nat → Int), k ≤ l.length ∧ i = .int .i64 k ∧ Hid (IRow w4.heap.size wr w4.heap.size (R + 1) B) ∧ Hid (∀ r, r ≤ R → B r = bstN l q K k r) ∧ Below w4.heap.size w4 wr ∧ w4.heap.size < wr.heap.size) (fun i _ => l.length - (intOf i).toNat)
  case atStart => exact ⟨0, _, Nat.zero_le _, rfl, HR0, Lib.hid fun r hr => by rw [bstN], hb5, hz5⟩
  case round =>
    obtain ⟨k, B, hk, rfl, HRow, HB, hbr, hzr⟩ := hrel
    have HB4 : Hid (InBox w w4 L K (.slice aa l.length ca)) := HS4
    obtain ⟨hb, p0, p1, p2⟩ := HS4.out.on hbr
    by_cases hlt : k < l.length
    · obtain rfl := HL.out (by omega)
      obtain rfl := HLQ.out (by omega)
      have c0 := cell_below (HC.out k hlt).1 hb
      have c1 := cell_below (HC.out k hlt).2 hb
      have Q0 := Lib.hid (HQ.out k hlt)
      obtain ⟨y0, y1⟩ := HCN.out k hlt
      obtain ⟨Y, hY⟩ : ∃ Y : Nat, (gp l k).2 = (Y : Int) := ⟨(gp l k).2.toNat, by omega⟩
      have hY2 : (gp l k).2.toNat = Y := by omega
      have HNk : Hid (∀ r, bstN l q K (k + 1) r = pkN (bstN l q K k) (szN K l k) (gi q k) Y r) := Lib.hid fun r => by rw [HNX.out, hY2]
      have HSz := Lib.hid (HS0.out k hlt)
      obtain ⟨z0, z1, -⟩ := HZ.out k hlt
      obtain ⟨r0, r1⟩ := HPR.out k hlt
      have Hlo := Lib.hid (HPB.out k hlt)
      have Hhi := Lib.hid (HPC.out k hlt)
      rw [hY] at c1 y1
      clear hY hY2 HNX HS0 HZ HPR HCN HPB HPC HC HQ HL HLQ HBd y0
      generalize (gp l k).1 = x at *
      generalize szN K l k = sz at *
      generalize gi q k = pr at *
      generalize bstN l q K k = bs at *
      go_wp2_with fail
      obtain ⟨wk, rfl⟩ : ∃ wk : World, wk = wr := ⟨_, rfl⟩
      obtain ⟨wa, hwa⟩ : ∃ wa, wk.alloc (.cells #[.int .i64 x, .int .i64 Y] 42) = wa := ⟨_, rfl⟩
      have hba : Below wk.heap.size wk wa := by rw [← hwa]; exact (Below.refl _ _).alloc (Nat.le_refl _) _
      have HRa := Lib.hid (HRow.out.below hba)
      have hbra : Below w4.heap.size w4 wa := hbr.trans (hba.mono (by omega))
      have hza : w4.heap.size < wa.heap.size := Nat.lt_of_lt_of_le hzr hba.size
      rw [hwa]
      clear hwa hba HRow hbr hzr c0 c1 p0 p1 p2 hb
      go_loopw [23] (fun i wq => ∃ (m : Nat) (B : Nat → Int), m ≤ Y ∧ i = .int .i64 m ∧ Hid (IRow w4.heap.size wq w4.heap.size (R + 1) B) ∧ Hid (∀ r, r ≤ R → B r = pkN bs sz pr m r) ∧ Below w4.heap.size w4 wq ∧ w4.heap.size < wq.heap.size) (fun i _ => Y - (intOf i).toNat)
      case atStart => exact ⟨0, B, Nat.zero_le _, rfl, HRa, Lib.hid fun r hr => by rw [HB.out r hr, pkN], hbra, hza⟩
      case round =>
        clear HB HRa hbra hza
        obtain ⟨m, B, hm, rfl, HRow, HB, hbr, hzr⟩ := hrel
        have hb := (HS4.out.on hbr).1
        have p0 := (HS4.out.on hbr).2.1
        have p1 := (HS4.out.on hbr).2.2.1
        have p2 := (HS4.out.on hbr).2.2.2
        by_cases hmt : m < Y
        · go_wp2_with fail
          refine (HRm.out _).mono ?_
          rintro e w6 ⟨rfl, hb6⟩
          have HR6 := Lib.hid (HRow.out.below hb6)
          have hbr6 : Below w4.heap.size w4 w6 := hbr.trans (hb6.mono (by omega))
          have hz6 : w4.heap.size < w6.heap.size := Nat.lt_of_lt_of_le hzr hb6.size
          go_wp2_with fail
          clear hb p0 p1 p2 HRow hbr hzr
          obtain ⟨wm, rfl⟩ : ∃ wm : World, wm = wr := ⟨_, rfl⟩
          go_loopw [8] (fun n wq => ∃ (t : Nat) (B : Nat → Int), t ≤ R ∧ sz ≤ t + 1 ∧ n = .int .i64 t ∧ Hid (IRow w4.heap.size wq w4.heap.size (R + 1) B) ∧ Hid (∀ r, r ≤ R → B r = if t < r then pkN bs sz pr (m + 1) r else pkN bs sz pr m r) ∧ Below w4.heap.size w4 wq ∧ w4.heap.size < wq.heap.size) (fun n _ => (intOf n).toNat)
          case atStart => exact ⟨R, B, Nat.le_refl _, by omega, rfl, HR6, Lib.hid fun r hr => by rw [HB.out r hr, if_neg (by omega)], hbr6, hz6⟩
          case round =>
            clear HB HR6 hbr6 hz6
            obtain ⟨t, B, ht, hst, rfl, HRow, HB, hbr, hzr⟩ := hrel
            have hb := (HS4.out.on hbr).1
            have p0 := (HS4.out.on hbr).2.1
            have p1 := (HS4.out.on hbr).2.2.1
            have p2 := (HS4.out.on hbr).2.2.2
            go_wp2_with fail
            refine (HSz.out _ hb).mono ?_
            rintro e w7 ⟨rfl, hb7⟩
            have HR7 := Lib.hid (HRow.out.below hb7)
            have hbr7 : Below w4.heap.size w4 w7 := hbr.trans (hb7.mono (by omega))
            have hz7 : w4.heap.size < w7.heap.size := Nat.lt_of_lt_of_le hzr hb7.size
            clear hb p0 p1 p2 HRow hbr hzr
            by_cases hts : sz ≤ t
            · obtain ⟨u, hu⟩ : ∃ u : Nat, (t : Int) - (sz : Int) = (u : Int) := ⟨t - sz, by omega⟩
              have hu2 : t - sz = u := by omega
              have hb := (HS4.out.on hbr7).1
              have p0 := (HS4.out.on hbr7).2.1
              have p1 := (HS4.out.on hbr7).2.2.1
              have p2 := (HS4.out.on hbr7).2.2.2
              have cT := HR7.out.cell (show t < R + 1 by omega)
              have cU := HR7.out.cell (show u < R + 1 by omega)
              rw [HB.out t ht, if_neg (by omega)] at cT
              rw [HB.out u (by omega), if_neg (by omega)] at cU
              have fz := HR7.out.frozen t
              have cP := cell_below Q0.out hb
              have hzq7 := block_lt cP
              have HV : Hid (pkN bs sz pr (m + 1) t = max (pkN bs sz pr m t) (pkN bs sz pr m u + pr)) := Lib.hid (by rw [pk_big _ _ _ _ hts, hu2])
              have a0 := Hlo.out m t
              have a1 := Hhi.out m t (by omega)
              have b0 := Hlo.out m u
              have b1 := Hhi.out m u (by omega)
              have HB2 : Hid (∀ V, V = pkN bs sz pr (m + 1) t → ∀ r, r ≤ R → upd B t V r = if t - 1 < r then pkN bs sz pr (m + 1) r else pkN bs sz pr m r) := Lib.hid fun V hV r hr => by
                by_cases e : r = t
                · subst e; rw [upd_same, if_pos (by omega), hV]
                · rw [upd_other _ _ _ _ e, HB.out r hr]
                  by_cases g : t < r
                  · rw [if_pos g, if_pos (by omega)]
                  · rw [if_neg g, if_neg (by omega)]
              clear HB
              have g0 : (0 : Int) ≤ (t : Int) := by omega
              have g1 : (t : Int) < ((R + 1 : Nat) : Int) := by omega
              have g2 : (0 : Int) ≤ (u : Int) := by omega
              have g3 : (u : Int) < ((R + 1 : Nat) : Int) := by omega
              have g4 : (t : Int) < (R : Int) + 1 := by omega
              have g5 : (u : Int) < (R : Int) + 1 := by omega
              have g6 : (k : Int) < (l.length : Int) := by omega
              have hts2 : (sz : Int) ≤ (t : Int) := by omega
              generalize pkN bs sz pr m t = A1 at *
              generalize pkN bs sz pr m u = A2 at *
              have ws : IntKind.i64.wrap (A2 + pr) = A2 + pr := IntWalk.i64_in _ (by omega)
              have wu : IntKind.i64.wrap (u : Int) = (u : Int) := IntWalk.i64_in _ (by omega)
              have wd : IntKind.i64.wrap ((t : Int) - (sz : Int)) = (u : Int) := by rw [hu]; exact wu
              by_cases hmx : A1 < A2 + pr
              · have HVV : Hid (A2 + pr = pkN bs sz pr (m + 1) t) := Lib.hid (by rw [HV.out]; omega)
                have HB3 := Lib.hid (HB2.out _ HVV.out)
                clear HB2 HV
                go_wp2_with fail
                go_region_law
                  (first
                    | (go_simp
                       go_at_call 16
                       refine (HSz.out _ (by first | exact hb.drew | exact below_drewN hb _ | exact hb)).mono ?_
                       rintro e w8 ⟨rfl, hb8⟩
                       have cT := (hb8.cell (p := ⟨w4.heap.size, t, none⟩) hz7).trans cT
                       have cU := (hb8.cell (p := ⟨w4.heap.size, u, none⟩) hz7).trans cU
                       have cP := (hb8.cell (p := ⟨bq, oq + k, none⟩) hzq7).trans cP
                       have fz := (hb8.frozen (p := ⟨w4.heap.size, t, none⟩) hz7).trans fz
                       have hb8' : Below w7.heap.size w7 w8 := by first | exact ((Below.refl _ _).drew).trans (hb8.mono (Nat.le_refl _)) | exact hb8
                       have HR8 := Lib.hid (HR7.out.below hb8')
                       have hbr8 : Below w4.heap.size w4 w8 := hbr7.trans (hb8'.mono (by omega))
                       have hz8 : w4.heap.size < w8.heap.size := Nat.lt_of_lt_of_le hz7 hb8'.size))
                all_goals
                  go_wp2_with fail
                  go_roundw
                  case rel => exact ⟨t - 1, _, by omega, by omega, by congr 1; omega, Lib.hid (HR8.out.store t (A2 + pr)), HB3, hbr8.setCell (Nat.le_refl _) _, by simpa using hz8⟩
                  case measure => simp [intOf]; omega
              · have HVV : Hid (A1 = pkN bs sz pr (m + 1) t) := Lib.hid (by rw [HV.out]; omega)
                have HB3 := Lib.hid (HB2.out _ HVV.out)
                clear HB2 HV
                go_wp2_with fail
                go_region_law
                  (first
                    | (go_simp
                       go_at_call 16
                       refine (HSz.out _ (by first | exact hb.drew | exact below_drewN hb _ | exact hb)).mono ?_
                       rintro e w8 ⟨rfl, hb8⟩
                       have cT := (hb8.cell (p := ⟨w4.heap.size, t, none⟩) hz7).trans cT
                       have cU := (hb8.cell (p := ⟨w4.heap.size, u, none⟩) hz7).trans cU
                       have cP := (hb8.cell (p := ⟨bq, oq + k, none⟩) hzq7).trans cP
                       have fz := (hb8.frozen (p := ⟨w4.heap.size, t, none⟩) hz7).trans fz
                       have hb8' : Below w7.heap.size w7 w8 := by first | exact ((Below.refl _ _).drew).trans (hb8.mono (Nat.le_refl _)) | exact hb8
                       have HR8 := Lib.hid (HR7.out.below hb8')
                       have hbr8 : Below w4.heap.size w4 w8 := hbr7.trans (hb8'.mono (by omega))
                       have hz8 : w4.heap.size < w8.heap.size := Nat.lt_of_lt_of_le hz7 hb8'.size))
                all_goals
                  go_wp2_with fail
                  go_roundw
                  case rel => exact ⟨t - 1, _, by omega, by omega, by congr 1; omega, Lib.hid (HR8.out.store t A1), HB3, hbr8.setCell (Nat.le_refl _) _, by simpa using hz8⟩
                  case measure => simp [intOf]; omega
            · have HB2 : Hid (∀ r, r ≤ R → B r = pkN bs sz pr (m + 1) r) := Lib.hid fun r hr => by
                rw [HB.out r hr]
                split
                · rfl
                · rw [pk_small _ _ _ _ (by omega)]
              clear HB
              have hts2 : ¬ (sz : Int) ≤ (t : Int) := by omega
              go_wp2_with fail
              go_roundw
              case rel => exact ⟨m + 1, B, by omega, by go_num, HR7, HB2, hbr7, hz7⟩
              case measure => simp [intOf]; omega
        · have HB2 : Hid (∀ r, r ≤ R → B r = bstN l q K (k + 1) r) := Lib.hid fun r hr => by rw [HB.out r hr, HNk.out, show m = Y from by omega]
          go_wp2_with fail
          go_roundw
          case rel => exact ⟨k + 1, B, by omega, by go_num, HRow, HB2, hbr, hzr⟩
          case measure => simp [intOf]; omega
    · obtain rfl : k = l.length := by omega
      have cR := HRow.out.cell (show R < R + 1 by omega)
      rw [HB.out R (Nat.le_refl _)] at cR
      clear HNX HS0 HZ HPR HCN HPB HPC HC HQ HL HLQ HBd HB
      obtain ⟨VR, hVR⟩ : ∃ VR, bstN l q K l.length R = VR := ⟨_, rfl⟩
      rw [hVR] at cR
      have hVR := Lib.hid hVR
      go_wp2_with fail
      refine (HRm.out _).mono ?_
      rintro e w9 ⟨rfl, hb9⟩
      have cR := cell_below cR hb9
      go_wp2_with fail
      go_ret
      rw [hVR.out]
      exact ⟨rfl, hb.trans (hb9.mono hb.size)⟩
end Go.Proofs.Ytmeoekcajmgiaaa
