/-
  The walks of the reference's prices, Dearest and Bound. By an AI agent.
-/
import Derived.Test.YtkmonaeajejamaaCutF
namespace Go.Proofs.Ytkmonaeajejamaa
set_option linter.unusedVariables false
set_option linter.unusedSimpArgs false
open Go.RowKit

set_option maxRecDepth 100000 in
set_option maxHeartbeats 1000000 in
theorem refPrices_any (L K : Int) (aa : Option Addr) (l : List (Int × Int)) (ca : Nat) (ap : Option Addr) (q : List Int) (cq : Nat) (w : World) (hA : PairsS w aa l) (hQ : IntsS w ap q) :
    Calls Try.prog 60 #[.agg #[.int .i64 L, .int .i64 K, .slice aa l.length ca], .slice ap q.length cq] w fun e w' => e = .returned (.int .i64 (prcE L K l q)) ∧ Below w.heap.size w w' := by
  have HV := Lib.hid (fun W (hW : Below w.heap.size w W) => refValid_any L K aa l ca W (hA.below hW))
  have hS := InBox.start w L K (.slice aa l.length ca) 24
  have la := hA.1
  have lq := hQ.1
  by_cases hv : cutB L K l = true
  · rw [hv] at HV
    by_cases hl : q.length = l.length
    · have HT : Hid ((∀ j, j < l.length → prcOk q j) → prcE L K l q = 0) := Lib.hid fun h => by unfold prcE; rw [if_pos hv, if_pos ⟨hl, by rw [hl]; exact h⟩]
      have HF : Hid (∀ j, j < l.length → ¬ prcOk q j → prcE L K l q = 2) := Lib.hid fun j hj h => by unfold prcE; rw [if_pos hv, if_neg fun g => h (g.2 j (by omega))]
      obtain ⟨hlen, hbd, bq, oq, hadq, hq⟩ := hQ
      have HQ := Lib.hid hq
      have HLQ : Hid (0 < l.length → ap = some ⟨bq, oq, none⟩) := Lib.hid fun h => hadq (pos_ne (n := 0) (i := 0) (by omega))
      rw [hl] at HQ ⊢
      clear hA hbd hq hadq hv hl lq hlen
      generalize prcE L K l q = E at *
      go_enter Try.func60, Try.ntmps60
      go_wp2_with fail
      refine (HV.out _ hS.1).mono ?_
      rintro e wo ⟨rfl, hb1⟩
      have HS1 := Lib.hid (hS.on hb1)
      obtain ⟨hb, p0, p1, p2⟩ := HS1.out
      clear hS hb1
      go_wp2_with fail
      go_loopw [5] (fun i wr => ∃ k : Nat, k ≤ l.length ∧ i = .int .i64 k ∧ Below wo.heap.size wo wr ∧ Hid (∀ j, j < k → prcOk q j)) (fun i _ => l.length - (intOf i).toNat)
      case atStart => exact ⟨0, Nat.zero_le _, rfl, Below.refl _ _, Lib.hid fun j hj => absurd hj (Nat.not_lt_zero _)⟩
      case round =>
        obtain ⟨k, hk, rfl, hbr, HA⟩ := hrel
        clear hb p0 p1 p2
        obtain ⟨hb, p0, p1, p2⟩ := HS1.out.on hbr
        by_cases hlt : k < l.length
        · obtain rfl := HLQ.out (by omega)
          have c0 := cell_below (HQ.out k hlt) hb
          have HK : Hid (prcOk q k → ∀ j, j < k + 1 → prcOk q j) := Lib.hid fun h j hj => by
            by_cases e : j = k
            · subst e; exact h
            · exact HA.out j (by omega)
          have HN := Lib.hid (HF.out k hlt)
          unfold prcOk at HN HK
          clear HQ HLQ HT HF
          by_cases hx : 0 ≤ gi q k ∧ gi q k ≤ 1000000
          · have HB1 := Lib.hid (btw_t hx.1 hx.2)
            have HR := Lib.hid (HK.out hx)
            clear HK HN hx HA
            generalize gi q k = x at HB1 c0
            go_wp2_with (go_at_call 51; refine (from_any _ _ _ _).mono ?_; rintro e w' ⟨rfl, rfl⟩; rw [HB1.out])
            go_roundw
            case rel => exact ⟨k + 1, by omega, by go_num, hbr, HR⟩
            case measure => simp [intOf]; omega
          · have HB1 := Lib.hid (btw_f hx)
            have HR := Lib.hid (HN.out hx)
            clear HK HN hx HA
            generalize gi q k = x at HB1 c0
            go_wp2_with (go_at_call 51; refine (from_any _ _ _ _).mono ?_; rintro e w' ⟨rfl, rfl⟩; rw [HB1.out])
            go_ret
            rw [HR.out]
            exact ⟨rfl, hb⟩
        · obtain rfl : k = l.length := by omega
          have HR := Lib.hid (HT.out HA.out)
          go_wp2_with fail
          go_ret
          rw [HR.out]
          exact ⟨rfl, hb⟩
    · have e2 : prcE L K l q = 2 := by unfold prcE; rw [if_pos hv, if_neg fun h => hl h.1]
      have hl2 : ¬ (q.length : Int) = (l.length : Int) := by omega
      rw [e2]
      clear hA hQ e2 hv
      go_enter Try.func60, Try.ntmps60
      go_wp2_with fail
      refine (HV.out _ hS.1).mono ?_
      rintro e w1 ⟨rfl, hb1⟩
      obtain ⟨hb, p0, p1, p2⟩ := hS.on hb1
      go_wp2_with fail
      go_ret
      exact ⟨rfl, hb⟩
  · have hv : cutB L K l = false := by simpa using hv
    have e2 : prcE L K l q = 40 := by unfold prcE; rw [hv]; rfl
    rw [e2]
    rw [hv] at HV
    clear hA hQ e2 hv
    go_enter Try.func60, Try.ntmps60
    go_wp2_with fail
    refine (HV.out _ hS.1).mono ?_
    rintro e w1 ⟨rfl, hb1⟩
    obtain ⟨hb, p0, p1, p2⟩ := hS.on hb1
    go_wp2_with fail
    go_ret
    exact ⟨rfl, hb⟩

theorem bst_step (l : List (Int × Int)) (q : List Int) (K : Int) (k r : Nat) : bstN l q K (k + 1) r = topN (bstN l q K k) (szN K l k) (gi q k) r ((gp l k).2.toNat + 1) := rfl
theorem top_hit {b : Nat → Int} {sz : Nat} {pr : Int} {r n : Nat} (h : n * sz ≤ r) : topN b sz pr r (n + 1) = max (topN b sz pr r n) (n * pr + b (r - n * sz)) := by rw [topN, if_pos h]

set_option maxRecDepth 100000 in
set_option maxHeartbeats 4000000 in
theorem refDearest_any (L K : Int) (aa : Option Addr) (l : List (Int × Int)) (ca : Nat) (ap : Option Addr) (q : List Int) (cq : Nat) (w : World) (hA : PairsS w aa l) (hQ : IntsS w ap q) :
    Calls Try.prog 25 #[.agg #[.int .i64 L, .int .i64 K, .slice aa l.length ca], .slice ap q.length cq] w fun e w' => e = .returned (.tuple #[.int .i64 (drV L K l q), .int .i64 (prcE L K l q)]) ∧ Below w.heap.size w w' := by
  have HP := Lib.hid (fun W (hW : Below w.heap.size w W) => refPrices_any L K aa l ca ap q cq W (hA.below hW) (hQ.below hW))
  have hS := InBox.start w L K (.slice aa l.length ca) 24
  by_cases hp : prcE L K l q = 0
  · obtain ⟨⟨⟨l0, l1⟩, ⟨k0, k1⟩, h8, hok⟩, hl, hpr⟩ := prcE_ok hp
    have e1 : drV L K l q = bstR L K l q := by unfold drV; rw [if_pos hp]
    rw [e1]
    rw [hp] at HP ⊢
    unfold bstR
    obtain ⟨R, hR⟩ : ∃ R : Nat, L + K = (R : Int) := ⟨(L + K).toNat, by omega⟩
    have hR2 : (L + K).toNat = R := by omega
    rw [hR2]
    have R0 : 1 ≤ R := by omega
    have R1 : R ≤ 1020 := by omega
    have HZ : Hid (∀ i, i < l.length → 1 ≤ szN K l i ∧ szN K l i ≤ R ∧ (gp l i).1 + K = (szN K l i : Int)) := Lib.hid fun i hi => by
      have := (hok i hi).1
      unfold szN
      unfold gp at *
      omega
    have HPR : Hid (∀ i, i < l.length → 0 ≤ gi q i ∧ gi q i ≤ 1000000) := Lib.hid fun i hi => hpr i (by omega)
    have HCN : Hid (∀ i, i < l.length → 0 ≤ (gp l i).2 ∧ (gp l i).2 ≤ 50) := Lib.hid fun i hi => (hok i hi).2
    have HBd : Hid (∀ k, k ≤ l.length → ∀ r, 0 ≤ bstN l q K k r ∧ bstN l q K k r ≤ 400000000) := Lib.hid fun k hk r => by
      refine ⟨bstN_nonneg l q K k r, ?_⟩
      have := bstN_bd l q K k (fun j hj => by
        have a := HPR.out j (by omega)
        have b := HCN.out j (by omega)
        unfold gi at a
        unfold gp at b
        exact ⟨b.2, a⟩) r
      omega
    have HPB : Hid (∀ k r m, 0 ≤ topN (bstN l q K k) (szN K l k) (gi q k) r m) := Lib.hid fun k r m => topN_nonneg _ _ _ _ _
    have HPC : Hid (∀ k, k < l.length → ∀ r m, m ≤ 51 → topN (bstN l q K k) (szN K l k) (gi q k) r m ≤ 450000000) := Lib.hid fun k hk r m hm => by
      have a := HPR.out k hk
      have := topN_bd (bstN l q K k) (szN K l k) (gi q k) a.1 a.2 (fun r => (HBd.out k (by omega) r).2) (by omega) r (C := 50) m (by omega)
      omega
    have HNX : Hid (∀ k r, bstN l q K (k + 1) r = topN (bstN l q K k) (szN K l k) (gi q k) r ((gp l k).2.toNat + 1)) := Lib.hid fun k r => bst_step l q K k r
    obtain ⟨hlenA, -, blk, off, hadr, hc⟩ := hA
    obtain ⟨hlen, -, bq, oq, hadq, hq⟩ := hQ
    have HC := Lib.hid hc
    have HQ := Lib.hid hq
    have HL : Hid (0 < l.length → aa = some ⟨blk, off, none⟩) := Lib.hid fun h => hadr (pos_ne (n := 0) h)
    have HLQ : Hid (0 < l.length → ap = some ⟨bq, oq, none⟩) := Lib.hid fun h => hadq (pos_ne (n := 0) (i := 0) (by omega))
    have HST := Lib.hid hS
    rw [hl] at HQ HP ⊢
    obtain ⟨i0, hi, hz0, hz1, hz2⟩ := info_parts intInfo
    have wR : IntKind.i64.wrap (L + K) = (R : Int) := by rw [hR]; exact IntWalk.i64_in _ (by omega)
    clear hc hadr hq hadq hok hpr hR2 hl hlen e1 hp hS
    go_enter Try.func25, Try.ntmps25
    go_wp2_with fail
    refine (HP.out _ HST.out.1).mono ?_
    rintro e w4 ⟨rfl, hb4⟩
    have HS4 := Lib.hid (HST.out.on hb4)
    have p0 := HS4.out.2.1
    have p1 := HS4.out.2.2.1
    have p2 := HS4.out.2.2.2
    have hzw : w.heap.size < w4.heap.size := block_lt p0
    clear hb4 HST HP
    go_wp2_with (refine wpList_make_full _ rfl _ _ 25 rfl w4.heap.size 3 i0 (.int .i64 0) 1 Try.underlying25 hi hz0 hz1 _ _ ((R : Int) + 1) ((R : Int) + 1) (R + 1) rfl rfl (by omega) (by omega) ?c1 ?c2 ?c3 ?_)
    case c1 => rw [hz2]; omega
    case c2 => unfold maxLen; omega
    case c3 => simp
    intro w5 hown hgrow
    have hr0 : IRow w4.heap.size w5 w4.heap.size (R + 1) (fun _ => 0) := IRow.made hown
    have hb5 : Below w4.heap.size w4 w5 := (Below.refl _ _).grown hgrow (Nat.le_refl _) (fun k h => by cases h)
    have hz5 := block_lt (hr0.cell (show 0 < R + 1 by omega))
    have HR0 := Lib.hid hr0
    clear p0 p1 p2
    have p2 := (HS4.out.on hb5).2.2.2
    clear hown hgrow hr0
    go_wp2_with fail
    go_loopw [8, 9] (fun v i wr => ∃ (k g : Nat) (B : Nat → Int), k ≤ l.length ∧ i = .int .i64 k ∧ v = .slice (some ⟨g, 0, none⟩) (R + 1) (R + 1) ∧ Hid (IRow w4.heap.size wr g (R + 1) B) ∧ Hid (∀ r, r ≤ R → B r = bstN l q K k r) ∧ Below w4.heap.size w4 wr ∧ g < wr.heap.size) (fun _ i _ => l.length - (intOf i).toNat)
    case atStart => exact ⟨0, _, _, Nat.zero_le _, rfl, rfl, HR0, Lib.hid fun r hr => by rw [bstN], hb5, hz5⟩
    case round =>
      clear HR0 hb5 hz5 p2
      obtain ⟨k, g, B, hk, rfl, rfl, HRow, HB, hbr, hzr⟩ := hrel
      obtain ⟨hb, p0, p1, p2⟩ := HS4.out.on hbr
      by_cases hlt : k < l.length
      · obtain rfl := HL.out (by omega)
        obtain rfl := HLQ.out (by omega)
        obtain ⟨wk, rfl⟩ : ∃ wk : World, wk = wr := ⟨_, rfl⟩
        have hw4k : w4.heap.size ≤ wk.heap.size := hbr.size
        go_wp2_with (refine wpList_make_full _ rfl _ _ 25 rfl wk.heap.size 3 i0 (.int .i64 0) 1 Try.underlying25 hi hz0 hz1 _ _ ((R : Int) + 1) ((R : Int) + 1) (R + 1) rfl rfl (by omega) (by omega) ?d1 ?d2 ?d3 ?_)
        case d1 => omega
        case d2 => unfold maxLen; omega
        intro w5 hown hgrow
        have hr0 : IRow wk.heap.size w5 wk.heap.size (R + 1) (fun _ => 0) := IRow.made hown
        have hb5 : Below wk.heap.size wk w5 := (Below.refl _ _).grown hgrow (Nat.le_refl _) (fun k h => by cases h)
        have hz5 := block_lt (hr0.cell (show 0 < R + 1 by omega))
        have HR0 := Lib.hid hr0
        have c0 := cell_below (HC.out k hlt).1 hb
        have c1 := cell_below (HC.out k hlt).2 hb
        have cP := cell_below (HQ.out k hlt) hb
        have HSk := Lib.hid (HS4.out.on hbr)
        have HBk : Hid (∀ r, r ≤ R → wk.cell? ⟨g, r, none⟩ = some (.int .i64 (bstN l q K k r))) := Lib.hid fun r hr => by
          have := HRow.out.cell (show r < R + 1 by omega)
          rwa [HB.out r hr] at this
        have HOLD : Hid (∀ W, Below wk.heap.size wk W → InBox w W L K (.slice (some ⟨blk, off, none⟩) l.length ca) ∧ W.cell? ⟨blk, off + k * 2, none⟩ = some (.int .i64 (gp l k).1) ∧ W.cell? ⟨blk, off + k * 2 + 1, none⟩ = some (.int .i64 (gp l k).2) ∧ W.cell? ⟨bq, oq + k, none⟩ = some (.int .i64 (gi q k)) ∧ ∀ r, r ≤ R → W.cell? ⟨g, r, none⟩ = some (.int .i64 (bstN l q K k r))) := Lib.hid fun W hW => ⟨HSk.out.on hW, cell_below c0 hW, cell_below c1 hW, cell_below cP hW, fun r hr => cell_below (HBk.out r hr) hW⟩
        obtain ⟨y0, y1⟩ := HCN.out k hlt
        obtain ⟨Y, hY⟩ : ∃ Y : Nat, (gp l k).2 = (Y : Int) := ⟨(gp l k).2.toNat, by omega⟩
        have hY2 : (gp l k).2.toNat = Y := by omega
        have HNk : Hid (∀ r, bstN l q K (k + 1) r = topN (bstN l q K k) (szN K l k) (gi q k) r (Y + 1)) := Lib.hid fun r => by rw [HNX.out, hY2]
        obtain ⟨z0, z1, z2⟩ := HZ.out k hlt
        obtain ⟨r0, r1⟩ := HPR.out k hlt
        have Hlo := Lib.hid (HPB.out k)
        have Hhi := Lib.hid (HPC.out k hlt)
        have Hb2 := Lib.hid (HBd.out k (by omega))
        rw [hY] at HOLD y1
        clear hown hgrow hr0 hY hY2 HNX HZ HPR HCN HPB HPC HC HQ HL HLQ HBd y0 c0 c1 cP HBk HRow HB p0 p1 p2
        generalize (gp l k).1 = x at *
        generalize szN K l k = sz at *
        generalize gi q k = pr at *
        obtain ⟨bs, hbs⟩ : ∃ bs, bstN l q K k = bs := ⟨_, rfl⟩
        rw [hbs] at HOLD HNk Hlo Hhi Hb2
        clear hbs
        go_wp2_with fail
        go_loopw [11] (fun i wq => ∃ (r : Nat) (B : Nat → Int), r ≤ R + 1 ∧ i = .int .i64 r ∧ Hid (IRow wk.heap.size wq wk.heap.size (R + 1) B) ∧ Hid (∀ z, z ≤ R → B z = if z < r then bstN l q K (k + 1) z else 0) ∧ Below wk.heap.size wk wq ∧ wk.heap.size < wq.heap.size) (fun i _ => R + 1 - (intOf i).toNat)
        case atStart => exact ⟨0, _, Nat.zero_le _, rfl, HR0, Lib.hid fun z hz => by rw [if_neg (Nat.not_lt_zero _)], hb5, hz5⟩
        case round =>
          clear HR0 hb5 hz5
          obtain ⟨r, B, hr, rfl, HRow, HB, hbr2, hzr2⟩ := hrel
          by_cases hrR : r ≤ R
          · have hrR2 : (r : Int) ≤ (R : Int) := by omega
            go_wp2_with fail
            obtain ⟨wm, rfl⟩ : ∃ wm : World, wm = wr := ⟨_, rfl⟩
            go_loopw [12] (fun i wq => ∃ (n : Nat) (B : Nat → Int), n ≤ Y + 1 ∧ i = .int .i64 n ∧ Hid (IRow wk.heap.size wq wk.heap.size (R + 1) B) ∧ Hid (B r = topN bs sz pr r n) ∧ Hid (∀ z, z ≤ R → z ≠ r → B z = if z < r then bstN l q K (k + 1) z else 0) ∧ Below wk.heap.size wk wq ∧ wk.heap.size < wq.heap.size) (fun i _ => Y + 1 - (intOf i).toNat)
            case atStart => exact ⟨0, B, Nat.zero_le _, rfl, HRow, Lib.hid (by rw [HB.out r hrR, if_neg (Nat.lt_irrefl _), topN]), Lib.hid fun z hz hne => HB.out z hz, hbr2, hzr2⟩
            case round =>
              clear HRow HB hbr2 hzr2
              obtain ⟨n, B, hn, rfl, HRow, HBr, HBz, hbr2, hzr2⟩ := hrel
              obtain ⟨⟨hb, p0, p1, p2⟩, c0, c1, cP, HG⟩ := HOLD.out _ hbr2
              have HG := Lib.hid HG
              have HEX : Hid (topN bs sz pr r n = bstN l q K (k + 1) r → ∀ z, z ≤ R → B z = if z < r + 1 then bstN l q K (k + 1) z else 0) := Lib.hid fun h z hz => by
                by_cases e : z = r
                · subst e; rw [if_pos (by omega), HBr.out, h]
                · rw [HBz.out z hz e]
                  by_cases e2 : z < r
                  · rw [if_pos e2, if_pos (by omega)]
                  · rw [if_neg e2, if_neg (by omega)]
              have e0 : 0 ≤ n * sz := Nat.zero_le _
              have e1 : n * sz ≤ 51 * 1020 := Nat.mul_le_mul (by omega) (by omega)
              obtain ⟨pq, hpq⟩ : ∃ pq : Nat, n * sz = pq := ⟨_, rfl⟩
              have hpi : (n : Int) * (sz : Int) = (pq : Int) := by rw [← hpq]; simp
              have wz : IntKind.i64.wrap (x + K) = (sz : Int) := by rw [z2]; exact IntWalk.i64_in _ (by omega)
              have wz2 : IntKind.i64.wrap (sz : Int) = (sz : Int) := IntWalk.i64_in _ (by omega)
              have wpq : IntKind.i64.wrap (pq : Int) = (pq : Int) := IntWalk.i64_in _ (by omega)
              have kL : (k : Int) < (l.length : Int) := by omega
              by_cases hnY : n ≤ Y
              · have hnY2 : (n : Int) ≤ (Y : Int) := by omega
                by_cases hfit : pq ≤ r
                · have hfit2 : (pq : Int) ≤ (r : Int) := by omega
                  obtain ⟨u, hu⟩ : ∃ u : Nat, (r : Int) - (pq : Int) = (u : Int) := ⟨r - pq, by omega⟩
                  have hu2 : r - pq = u := by omega
                  have cU := HG.out u (by omega)
                  have cR := HRow.out.cell (show r < R + 1 by omega)
                  rw [HBr.out] at cR
                  have fz := HRow.out.frozen r
                  have a0 := Hlo.out r n
                  have a1 := Hhi.out r n (by omega)
                  obtain ⟨b0, b1⟩ := Hb2.out u
                  obtain ⟨np, hnp⟩ : ∃ np, (n : Int) * pr = np := ⟨_, rfl⟩
                  have m0 : 0 ≤ np := by rw [← hnp]; exact Int.mul_nonneg (by omega) r0
                  have m1 : np ≤ 50000000 := by
                    have h1 : (n : Int) * pr ≤ n * 1000000 := Int.mul_le_mul_of_nonneg_left r1 (by omega)
                    omega
                  have HV : Hid (topN bs sz pr r (n + 1) = max (topN bs sz pr r n) (np + bs u)) := Lib.hid (by rw [top_hit (by omega), hpq, hu2, hnp])
                  generalize topN bs sz pr r n = A1 at *
                  generalize bs u = A2 at *
                  have wn1 : IntKind.i64.wrap np = np := IntWalk.i64_in _ (by omega)
                  have wn2 : IntKind.i64.wrap (np + A2) = np + A2 := IntWalk.i64_in _ (by omega)
                  have wu : IntKind.i64.wrap (u : Int) = (u : Int) := IntWalk.i64_in _ (by omega)
                  have wd : IntKind.i64.wrap ((r : Int) - (pq : Int)) = (u : Int) := by rw [hu]; exact wu
                  have g0 : (0 : Int) ≤ (r : Int) := by omega
                  have g2 : (0 : Int) ≤ (u : Int) := by omega
                  have g4 : (r : Int) < (R : Int) + 1 := by omega
                  have g5 : (u : Int) < (R : Int) + 1 := by omega
                  clear HBr HG HEX
                  go_wp2_with fail
                  go_quiet (fail)
                  go_wp2_with fail
                  obtain ⟨wA, hwA⟩ : ∃ wA, wr.drewN nq = wA := ⟨_, rfl⟩
                  have hbA : Below wr.heap.size wr wA := by rw [← hwA]; exact below_drewN (Below.refl _ _) _
                  have fz := (hbA.frozen (p := ⟨wk.heap.size, r, none⟩) hzr2).trans fz
                  rw [hwA]
                  clear hwA
                  have p0 := cell_below p0 hbA
                  have p1 := cell_below p1 hbA
                  have p2 := cell_below p2 hbA
                  have c0 := cell_below c0 hbA
                  have cP := cell_below cP hbA
                  have cU := cell_below cU hbA
                  have cR := cell_below cR hbA
                  have HRA := Lib.hid (HRow.out.below hbA)
                  have hbrA : Below wk.heap.size wk wA := hbr2.trans (hbA.mono (by omega))
                  have hzA : wk.heap.size < wA.heap.size := Nat.lt_of_lt_of_le hzr2 hbA.size
                  clear HRow hbr2 hzr2 hbA
                  have hmx : A1 < np + A2 ∨ np + A2 ≤ A1 := by omega
                  obtain ⟨V, hV1, hV2⟩ : ∃ V, V = topN bs sz pr r (n + 1) ∧ (A1 < np + A2 ∧ V = np + A2 ∨ np + A2 ≤ A1 ∧ V = A1) := ⟨_, rfl, by rw [HV.out]; omega⟩
                  have HV1 := Lib.hid hV1
                  clear hmx HV hV1
                  rcases hV2 with ⟨hmx, hVe⟩ | ⟨hmx, hVe⟩
                  all_goals
                    have HVe := Lib.hid hVe
                    clear hVe
                    go_still_tail 31, (by kernel_rfl)
                    change wpList _ _ _ _ _ wA.drew
                    have p0' : wA.drew.cell? ⟨w.heap.size, 0, none⟩ = some (.int .i64 L) := p0
                    have p1' : wA.drew.cell? ⟨w.heap.size, 1, none⟩ = some (.int .i64 K) := p1
                    have p2' : wA.drew.cell? ⟨w.heap.size, 2, none⟩ = some (.slice (some ⟨blk, off, none⟩) l.length ca) := p2
                    have c0' : wA.drew.cell? ⟨blk, off + k * 2, none⟩ = some (.int .i64 x) := c0
                    have cP' : wA.drew.cell? ⟨bq, oq + k, none⟩ = some (.int .i64 pr) := cP
                    have cU' : wA.drew.cell? ⟨g, u, none⟩ = some (.int .i64 A2) := cU
                    have cR' : wA.drew.cell? ⟨wk.heap.size, r, none⟩ = some (.int .i64 A1) := cR
                    have fz' : wA.drew.frozen? ⟨wk.heap.size, r, none⟩ = false := fz
                    have hbB : Below wk.heap.size wk wA.drew := hbrA.drew
                    have HRB : Hid (IRow wk.heap.size wA.drew wk.heap.size (R + 1) B) := Lib.hid (World.ownsRow.drew HRA.out)
                    have hzB : wk.heap.size < wA.drew.heap.size := hzA
                    generalize wA.drew = w2 at * 
                    clear p0 p1 p2 c0 cP cU cR fz hbrA HRA hzA
                    go_wp2_with fail
                    go_roundw
                    case rel => exact ⟨n + 1, upd B r V, by omega, by go_num, Lib.hid (by rw [← HVe.out]; exact HRB.out.store r V), Lib.hid (by rw [upd_same]; exact HV1.out), Lib.hid (fun z hz hne => by rw [upd_other _ _ _ _ hne]; exact HBz.out z hz hne), hbB.setCell (Nat.le_refl _) _, by simpa using hzB⟩
                    case measure => simp [intOf]; omega
                · have hfit2 : ¬ (pq : Int) ≤ (r : Int) := by omega
                  have HE := Lib.hid (HEX.out (by rw [HNk.out, topN_stop bs sz pr r (n := n) (by omega) (Y + 1) (by omega)]))
                  clear HEX HBr HBz
                  go_wp2_with fail
                  go_quiet (fail)
                  go_wp2_with fail
                  go_roundw
                  case rel => exact ⟨r + 1, B, by omega, by go_num, Lib.hid (HRow.out.below (below_drewN (Below.refl _ _) _)), HE, below_drewN hbr2 _, by simpa using hzr2⟩
                  case measure => simp [intOf]; omega
              · have hnY2 : ¬ (n : Int) ≤ (Y : Int) := by omega
                have hd1 : decide ((n : Int) ≤ (Y : Int)) = false := by simp; omega
                have hd2 : decide (n ≤ Y) = false := by simp; omega
                have HE := Lib.hid (HEX.out (by rw [HNk.out, show n = Y + 1 from by omega]))
                clear HEX HBr HBz
                go_wp2_with fail
                go_quiet (fail)
                go_wp2_with fail
                go_roundw
                case rel => exact ⟨r + 1, B, by omega, by go_num, Lib.hid (HRow.out.below (below_drewN (Below.refl _ _) _)), HE, below_drewN hbr2 _, by simpa using hzr2⟩
                case measure => simp [intOf]; omega
          · have hrR2 : ¬ (r : Int) ≤ (R : Int) := by omega
            have HE : Hid (∀ z, z ≤ R → B z = bstN l q K (k + 1) z) := Lib.hid fun z hz => by rw [HB.out z hz, if_pos (by omega)]
            have hbw : Below w4.heap.size w4 wr := hbr.trans (hbr2.mono hw4k)
            have hRw : Hid (IRow w4.heap.size wr wk.heap.size (R + 1) B) := Lib.hid (by
              have := HRow.out
              unfold IRow at this ⊢
              refine ⟨this.1, ?_⟩
              rcases this.2 with h | ⟨g, cap, cur, h1, h2, h3⟩
              · exact .inl h
              · exact .inr ⟨g, cap, cur, h1, Nat.le_trans hw4k h2, h3⟩)
            go_wp2_with fail
            go_roundw
            case rel => exact ⟨k + 1, wk.heap.size, B, by omega, by go_num, rfl, hRw, HE, hbw, hzr2⟩
            case measure => simp [intOf]; omega
      · obtain rfl : k = l.length := by omega
        have cR := HRow.out.cell (show R < R + 1 by omega)
        rw [HB.out R (Nat.le_refl _)] at cR
        clear HNX HZ HPR HCN HPB HPC HC HQ HL HLQ HBd HB
        obtain ⟨VR, hVR⟩ : ∃ VR, bstN l q K l.length R = VR := ⟨_, rfl⟩
        rw [hVR] at cR
        have hVR := Lib.hid hVR
        go_wp2_with fail
        go_ret2
        rw [hVR.out]
        exact ⟨rfl, hb⟩
  · have e1 : drV L K l q = 0 := by unfold drV; rw [if_neg hp]
    rw [e1]
    clear hA hQ e1
    generalize prcE L K l q = E at *
    go_enter Try.func25, Try.ntmps25
    go_wp2_with fail
    refine (HP.out _ hS.1).mono ?_
    rintro e w1 ⟨rfl, hb1⟩
    obtain ⟨hb, p0, p1, p2⟩ := hS.on hb1
    go_wp2_with fail
    go_ret2
    exact ⟨rfl, hb⟩

set_option maxRecDepth 100000 in
set_option maxHeartbeats 2000000 in
theorem refBound_any (L K : Int) (aa : Option Addr) (l : List (Int × Int)) (ca : Nat) (ap : Option Addr) (q : List Int) (cq : Nat) (w : World) (hA : PairsS w aa l) (hQ : IntsS w ap q) :
    Calls Try.prog 27 #[.agg #[.int .i64 L, .int .i64 K, .slice aa l.length ca], .slice ap q.length cq] w fun e w' => e = .returned (.tuple #[.int .i64 (bdV L K l q), .int .i64 (prcE L K l q)]) ∧ Below w.heap.size w w' := by
  have HD := Lib.hid (fun W (hW : Below w.heap.size w W) => refDearest_any L K aa l ca ap q cq W (hA.below hW) (hQ.below hW))
  have hS := InBox.start w L K (.slice aa l.length ca) 24
  by_cases hp : prcE L K l q = 0
  · obtain ⟨hV, hO⟩ := prcE_ok hp
    obtain ⟨d0, d1⟩ := bstR_bd hV hO
    obtain ⟨_, _, h8, hok⟩ := hV
    obtain ⟨hl, hpr⟩ := hO
    have e0 : drV L K l q = bstR L K l q := by unfold drV; rw [if_pos hp]
    rw [e0, hp] at HD
    rw [hp]
    by_cases hz : bstR L K l q = 0
    · have e1 : bdV L K l q = 0 := by unfold bdV; rw [if_pos hp, if_pos hz]
      rw [e1]
      rw [hz] at HD
      clear hA hQ e1 hp hz d0 d1 hl hpr hok e0
      go_enter Try.func27, Try.ntmps27
      go_wp2_with fail
      refine (HD.out _ hS.1).mono ?_
      rintro e w2 ⟨rfl, hb2⟩
      obtain ⟨hb, p0, p1, p2⟩ := hS.on hb2
      go_wp2_with fail
      go_ret2
      exact ⟨rfl, hb⟩
    · have e1 : bdV L K l q = (sumW l q l.length + bstR L K l q - 1) / bstR L K l q := by unfold bdV; rw [if_pos hp, if_neg hz]
      rw [e1]
      have HSB : Hid (∀ k, k ≤ l.length → 0 ≤ sumW l q k ∧ sumW l q k ≤ 50000000 * k) := Lib.hid fun k hk => sumW_bd k (fun j hj => (hok j (by omega)).2) (fun j hj => hpr j (by omega))
      have HPR : Hid (∀ i, i < l.length → 0 ≤ gi q i ∧ gi q i ≤ 1000000) := Lib.hid fun i hi => hpr i (by omega)
      have HCN : Hid (∀ i, i < l.length → 0 ≤ (gp l i).2 ∧ (gp l i).2 ≤ 50) := Lib.hid fun i hi => (hok i hi).2
      obtain ⟨hlenA, -, blk, off, hadr, hc⟩ := hA
      obtain ⟨hlen, -, bq, oq, hadq, hq⟩ := hQ
      have HC := Lib.hid hc
      have HQ := Lib.hid hq
      have HL : Hid (0 < l.length → aa = some ⟨blk, off, none⟩) := Lib.hid fun h => hadr (pos_ne (n := 0) h)
      have HLQ : Hid (0 < l.length → ap = some ⟨bq, oq, none⟩) := Lib.hid fun h => hadq (pos_ne (n := 0) (i := 0) (by omega))
      rw [hl] at HQ HD ⊢
      clear hc hadr hq hadq hok hpr hl hlen e1 hp e0
      have HFin : Hid (∀ s d, s = sumW l q l.length → d = bstR L K l q → (s + d - 1) / d = (sumW l q l.length + bstR L K l q - 1) / bstR L K l q) := Lib.hid fun s d h1 h2 => by rw [h1, h2]
      obtain ⟨dd, hdd⟩ : ∃ dd, bstR L K l q = dd := ⟨_, rfl⟩
      have HFd := Lib.hid (fun s h => HFin.out s dd h hdd.symm)
      rw [hdd] at HD d0 d1 hz
      clear hdd HFin
      go_enter Try.func27, Try.ntmps27
      go_wp2_with fail
      refine (HD.out _ hS.1).mono ?_
      rintro e w2 ⟨rfl, hb2⟩
      have HS2 := Lib.hid (hS.on hb2)
      have p2 := HS2.out.2.2.2
      clear hS hb2
      go_wp2_with fail
      go_loopw [8, 9] (fun s i wr => ∃ k : Nat, k ≤ l.length ∧ i = .int .i64 k ∧ s = .int .i64 (sumW l q k) ∧ Below w2.heap.size w2 wr) (fun _ i _ => l.length - (intOf i).toNat)
      case atStart => exact ⟨0, Nat.zero_le _, rfl, rfl, Below.refl _ _⟩
      case round =>
        clear p2
        obtain ⟨k, hk, rfl, rfl, hbr⟩ := hrel
        obtain ⟨hb, p0, p1, p2⟩ := HS2.out.on hbr
        obtain ⟨s0, s1⟩ := HSB.out k hk
        by_cases hlt : k < l.length
        · obtain rfl := HL.out (by omega)
          obtain rfl := HLQ.out (by omega)
          have c1 := cell_below (HC.out k hlt).2 hb
          have cP := cell_below (HQ.out k hlt) hb
          obtain ⟨y0, y1⟩ := HCN.out k hlt
          obtain ⟨r0, r1⟩ := HPR.out k hlt
          have e1 := Int.mul_nonneg y0 r0
          have e2 : (gp l k).2 * gi q k ≤ 50 * gi q k := Int.mul_le_mul_of_nonneg_right y1 r0
          have HU : Hid (sumW l q (k + 1) = sumW l q k + (gp l k).2 * gi q k) := Lib.hid rfl
          have g6 : (k : Int) < (l.length : Int) := by omega
          clear HC HQ HL HLQ HSB HPR HCN
          generalize sumW l q k = s at *
          generalize (gp l k).2 = y at *
          generalize gi q k = pr at *
          obtain ⟨z, hz⟩ : ∃ z, y * pr = z := ⟨_, rfl⟩
          rw [hz] at e1 e2 HU
          have wz : IntKind.i64.wrap z = z := IntWalk.i64_in _ (by omega)
          have wsz : IntKind.i64.wrap (s + z) = s + z := IntWalk.i64_in _ (by omega)
          go_wp2_with fail
          go_quiet (fail)
          go_wp2_with fail
          go_roundw
          case rel => exact ⟨k + 1, by omega, by go_num, by rw [HU.out], below_drewN hbr _⟩
          case measure => simp [intOf]; omega
        · obtain rfl : k = l.length := by omega
          obtain ⟨s, hs⟩ : ∃ s, sumW l q l.length = s := ⟨_, rfl⟩
          have HFe := Lib.hid (HFd.out s hs.symm)
          rw [hs] at s0 s1 ⊢
          clear hs
          have w1 : IntKind.i64.wrap (s + dd) = s + dd := IntWalk.i64_in _ (by omega)
          have w2 : IntKind.i64.wrap (s + dd - 1) = s + dd - 1 := IntWalk.i64_in _ (by omega)
          have tq : (s + dd - 1).tdiv dd = (s + dd - 1) / dd := Int.tdiv_eq_ediv_of_nonneg (by omega)
          have q0 : 0 ≤ (s + dd - 1) / dd := Int.ediv_nonneg (by omega) (by omega)
          have q1 : (s + dd - 1) / dd ≤ s + dd - 1 := Int.ediv_le_self _ (by omega)
          have w3 : IntKind.i64.wrap ((s + dd - 1) / dd) = (s + dd - 1) / dd := IntWalk.i64_in _ (by omega)
          go_wp2_with fail
          go_ret2
          rw [← HFe.out]
          exact ⟨rfl, hb⟩
  · have e1 : bdV L K l q = 0 := by unfold bdV; rw [if_neg hp]
    rw [e1]
    clear hA hQ e1
    generalize prcE L K l q = E at *
    generalize drV L K l q = dv at *
    go_enter Try.func27, Try.ntmps27
    go_wp2_with fail
    refine (HD.out _ hS.1).mono ?_
    rintro e w1 ⟨rfl, hb1⟩
    obtain ⟨hb, p0, p1, p2⟩ := hS.on hb1
    go_wp2_with fail
    go_ret2
    exact ⟨rfl, hb⟩
end Go.Proofs.Ytkmonaeajejamaa
