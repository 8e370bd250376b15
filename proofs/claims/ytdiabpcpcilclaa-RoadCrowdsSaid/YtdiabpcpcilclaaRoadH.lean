/-
  (swap).kept, kept and total of package road. By an AI agent.
-/
import Derived.Test.YtdiabpcpcilclaaRoadG
import Derived.Test.YtdiabpcpcilclaaRoadD
import Derived.Test.YtdiabpcpcilclaaRoadK
import Derived.Test.YtdiabpcpcilclaaRoadE
import Derived.Deep.RegionHeld3
namespace Go.Proofs.Ytdiabpcpcilclaa
set_option linter.unusedVariables false
set_option linter.unusedSimpArgs false
open Go.RowKit

/-- What a swap leaves of a stretch. -/
def KpE (w : World) (q : List Spn) (e : Ending) (w' : World) : Prop := ∃ g, w.heap.size ≤ g ∧ DelE w.heap.size w g 2 q e w'
set_option maxRecDepth 100000 in
set_option maxHeartbeats 1000000 in
theorem keptM_any (A B D x y : Int) (w : World) (hA : 0 ≤ A ∧ A ≤ 10000000) (hB : 0 ≤ B ∧ B ≤ 10000000) (hD : 0 ≤ D ∧ D ≤ 10000000) (hx : 0 ≤ x ∧ x ≤ 10000000) (hy : 0 ≤ y ∧ y ≤ 10000000) :
    Calls Try.prog 55 #[.agg #[.int .i64 A, .int .i64 B, .int .i64 D], .agg #[.int .i64 x, .int .i64 y]] w (KpE w (keptStep (A, B, D) (x, y))) := by
  obtain ⟨A0, A1⟩ := hA
  obtain ⟨B0, B1⟩ := hB
  obtain ⟨D0, D1⟩ := hD
  obtain ⟨x0, x1⟩ := hx
  obtain ⟨y0, y1⟩ := hy
  unfold keptStep
  simp only []
  obtain ⟨mx, hmx⟩ : ∃ mx, max x (A + B) = mx := ⟨_, rfl⟩
  obtain ⟨mn, hmn⟩ : ∃ mn, min y A = mn := ⟨_, rfl⟩
  have mx0 : 0 ≤ mx := by omega
  have mx1 : mx ≤ 20000000 := by omega
  have mn0 : 0 ≤ mn := by omega
  have mn1 : mn ≤ 10000000 := by omega
  rw [hmx, hmn]
  have HDel := Lib.hid (fun g W hg hbs c0 c1 c2 c3 f0 f1 f2 f3 => del2_any w.heap.size g 2 x mn (mx + (D - B)) (y + (D - B)) W hg hbs (by unfold I64; omega) (by unfold I64; omega) (Nat.le_refl _) c0 c1 c2 c3 f0 f1 f2 f3)
  generalize keepL (x, mn) (mx + (D - B), y + (D - B)) = Q at *
  go_enter Try.func55, Try.ntmps55
  go_wp2_with fail
  obtain ⟨wB, hwB⟩ : ∃ wB, ((w.alloc (.cells #[.int .i64 A, .int .i64 B, .int .i64 D] 90)).alloc (.cells #[.int .i64 x, .int .i64 y] 26)).alloc (.cells #[.int .i64 x, .int .i64 mn, .int .i64 (mx + (D - B)), .int .i64 (y + (D - B))] 104) = wB := ⟨_, rfl⟩
  have hb : Below w.heap.size w wB := by rw [← hwB]; exact (((Below.refl _ _).alloc (Nat.le_refl _) _).alloc (by simp) _).alloc (by simp; omega) _
  have d0 : wB.cell? ⟨w.heap.size + 1 + 1, 0, none⟩ = some (.int .i64 x) := by rw [← hwB]; simp [go_sem]
  have d1 : wB.cell? ⟨w.heap.size + 1 + 1, 1, none⟩ = some (.int .i64 mn) := by rw [← hwB]; simp [go_sem]
  have d2 : wB.cell? ⟨w.heap.size + 1 + 1, 2, none⟩ = some (.int .i64 (mx + (D - B))) := by rw [← hwB]; simp [go_sem]
  have d3 : wB.cell? ⟨w.heap.size + 1 + 1, 3, none⟩ = some (.int .i64 (y + (D - B))) := by rw [← hwB]; simp [go_sem]
  have e0 : ∀ o, wB.frozen? ⟨w.heap.size + 1 + 1, o, none⟩ = false := fun o => by rw [← hwB]; simp [go_sem]
  rw [hwB]
  clear hwB
  refine (HDel.out (w.heap.size + 1 + 1) wB (by omega) hb.size d0 d1 d2 d3 (e0 0) (e0 1) (e0 2) (e0 3)).mono ?_
  rintro e w2 ⟨rfl, hcl, hb2⟩
  have hE : Hid (KpE w Q (.returned (.slice (some ⟨w.heap.size + 1 + 1, 0, none⟩) Q.length 2)) w2) := Lib.hid ⟨w.heap.size + 1 + 1, by omega, rfl, hcl, hb.trans hb2⟩
  clear hcl hb2 HDel d0 d1 d2 d3 e0 hb hmx hmn
  go_wp2_with fail
  go_ret
  exact hE.out

theorem news_of_cells {w : World} {g : Nat} {q : List Spn} (h : ∀ i, i < q.length → w.cell? ⟨g, i * 2, none⟩ = some (.int .i64 (gp q i).1) ∧ w.cell? ⟨g, i * 2 + 1, none⟩ = some (.int .i64 (gp q i).2)) : ∀ j u, (clS q)[j]? = some u → w.cell? ((⟨g, 0, none⟩ : Addr).add j) = some u := fun j u hu => by
  have hadd : (⟨g, 0, none⟩ : Addr).add j = ⟨g, j, none⟩ := by unfold Addr.add; split <;> simp_all
  rw [hadd]
  have hj : j < q.length * 2 := by
    rw [← clS_len]
    rw [List.getElem?_eq_some_iff] at hu
    exact hu.1
  rcases Nat.mod_two_eq_zero_or_one j with hm | hm
  · obtain ⟨i, rfl⟩ : ∃ i, j = i * 2 := ⟨j / 2, by omega⟩
    rw [clS_0 q i (by omega)] at hu
    cases hu
    exact (h i (by omega)).1
  · obtain ⟨i, rfl⟩ : ∃ i, j = i * 2 + 1 := ⟨j / 2, by omega⟩
    rw [clS_1 q i (by omega)] at hu
    cases hu
    exact (h i (by omega)).2
theorem UniE.lower {w W w' : World} {l : List Spn} {e : Ending} (hb : Below w.heap.size w W) (h : UniE W l e w') : UniE w l e w' := by
  obtain ⟨d, hp, hA, b, c, he, ho, hb2⟩ := h
  exact ⟨d, hp, hA, b, c, he, owns_base ho hb.size, below_on hb hb2⟩
theorem clS_append (a b : List Spn) : clS (a ++ b) = clS a ++ clS b := by simp [clS]
theorem inV_64 {len : Int} {q : List Spn} (h : InV len q) (hl : len ≤ 10000000) {j : Nat} (hj : j < q.length) : I64 (gp q j).1 ∧ I64 (gp q j).2 := by
  have := h _ (gp_mem hj)
  unfold I64; omega

set_option maxRecDepth 100000 in
set_option maxHeartbeats 4000000 in
theorem kept_any (x y : Int) (b : Option Addr) (s : List Sw) (cap : Nat) (len : Nat → Int) (w : World) (hT : TripS w b s) (hs : ∀ j, j < s.length → swOk (len j) (len (j + 1)) (gw s j)) (hx : 0 ≤ x ∧ x ≤ y ∧ y ≤ len 0) (hl : len 0 ≤ 10000000) :
    Calls Try.prog 34 #[.agg #[.int .i64 x, .int .i64 y], .slice b s.length cap] w (UniE w (keptK (gw s) (x, y) s.length)) := by
  obtain ⟨n0, hi, hz0, hz1, hz2⟩ := info_parts spanInfo
  obtain ⟨hlen, -, blk, off, hadr, hc⟩ := hT
  have hlen2 : s.length ≤ 9223372036854775807 := hlen
  have HC := Lib.hid hc
  have HA : Hid (0 < s.length → b = some ⟨blk, off, none⟩) := Lib.hid fun h => hadr (pos_ne (n := 0) h)
  have HK : Hid (∀ k, k ≤ s.length → InV 10000000 (keptK (gw s) (x, y) k) ∧ (keptK (gw s) (x, y) k).length ≤ 10000000) := Lib.hid fun k hk => by
    have h1 := keptK_in (p := (x, y)) hs hx k hk
    have h2 := keptK_len (p := (x, y)) hs hx hl k hk
    refine ⟨fun p hp => ?_, h2⟩
    have hh := h1 p hp
    have : len k ≤ 10000000 := by
      cases k with
      | zero => exact hl
      | succ k => exact (hs k (by omega)).2.2.2.2.2
    omega
  have HP : Hid (∀ k, k < s.length → (∀ m, ((stepL (gw s k) ((keptK (gw s) (x, y) k).take m)).length : Int) ≤ 10000000) ∧ ((0 ≤ (gw s k).1 ∧ (gw s k).1 ≤ 10000000) ∧ (0 ≤ (gw s k).2.1 ∧ (gw s k).2.1 ≤ 10000000) ∧ 0 ≤ (gw s k).2.2 ∧ (gw s k).2.2 ≤ 10000000)) := Lib.hid fun k hk => by
    have h1 := keptK_in (p := (x, y)) hs hx k (by omega)
    have h2 := keptK_sum (p := (x, y)) hs hx k (by omega)
    exact ⟨fun m => part_len (hs k hk) h1 (by simp only [] at h2; omega) m, sw_bd (hs k hk)⟩
  have HN : Hid (∀ k, keptK (gw s) (x, y) (k + 1) = stepL (gw s k) (keptK (gw s) (x, y) k)) := Lib.hid fun k => rfl
  have HI : Hid (keptK (gw s) (x, y) 0 = [(x, y)]) := Lib.hid rfl
  obtain ⟨K, hK⟩ : ∃ K, keptK (gw s) (x, y) = K := ⟨_, rfl⟩
  rw [hK] at HK HP HN HI ⊢
  have hE : Hid (∀ W e W', Below w.heap.size w W → UniE W (K s.length) e W' → UniE w (K s.length) e W') := Lib.hid fun W e W' hW h => UniE.lower hW h
  clear hc hadr hs hK hx hl hlen
  go_enter Try.func34, Try.ntmps34
  go_wp2_with fail
  obtain ⟨wo, hwo⟩ : ∃ wo, w.alloc (.cells #[.int .i64 x, .int .i64 y] 26) = wo := ⟨_, rfl⟩
  have hbo : Below w.heap.size w wo := by rw [← hwo]; exact (Below.refl _ _).alloc (Nat.le_refl _) _
  have HR0 : Hid ((wo.alloc (.cells #[.int .i64 x, .int .i64 y] 26)).ownsRow wo.heap.size 26 2 (.slice (some ⟨w.heap.size + 1, 0, none⟩) 1 1) 1 (clS [(x, y)])) := Lib.hid (by
    have := World.ownsRow_lit (base := wo.heap.size) (e := 26) (size := 2) wo #[.int .i64 x, .int .i64 y] 1 (Nat.le_refl _) (by decide) (by simp)
    rw [show w.heap.size + 1 = wo.heap.size by rw [← hwo]; simp]
    exact this)
  rw [hwo]
  clear hwo
  go_loopw [5, 15] (fun v i wr => ∃ k : Nat, k ≤ s.length ∧ i = .int .i64 k ∧ (∃ a c, v = .slice a (K k).length c) ∧ Hid (wr.ownsRow wo.heap.size 26 2 v (K k).length (clS (K k))) ∧ Below wo.heap.size wo wr) (fun _ i _ => s.length - (intOf i).toNat)
  case atStart => exact ⟨0, Nat.zero_le _, rfl, ⟨some ⟨w.heap.size + 1, 0, none⟩, 1, by rw [HI.out]; rfl⟩, Lib.hid (by rw [HI.out]; exact HR0.out), (Below.refl _ _).alloc (Nat.le_refl _) _⟩
  case round =>
    obtain ⟨k, hk, rfl, ⟨av, cv, rfl⟩, HRow, hbr⟩ := hrel
    have hKk := HK.out k hk
    have HPO : Hid (PairsS wr av (K k)) := Lib.hid (pairs_own HRow.out (by omega) (fun j hj => inV_64 hKk.1 (Int.le_refl _) hj))
    by_cases hlt : k < s.length
    · obtain rfl := HA.out (by omega)
      obtain ⟨c0, c1, c2⟩ := HC.out k hlt
      have c0 := cell_below c0 (below_on hbo hbr)
      have c1 := cell_below c1 (below_on hbo hbr)
      have c2 := cell_below c2 (below_on hbo hbr)
      obtain ⟨hpl, ⟨A0, A1⟩, ⟨B0, B1⟩, D0, D1⟩ := HP.out k hlt
      have HPL := Lib.hid hpl
      have HNk := Lib.hid (HN.out k)
      have HIn := Lib.hid hKk.1
      have hql := hKk.2
      have HSt := Lib.hid (fun m (hm : m < (K k).length) => stepL_take (s := gw s k) (q := K k) hm)
      obtain ⟨S, hS⟩ : ∃ S : Sw, gw s k = S := ⟨_, rfl⟩
      obtain ⟨q, hq⟩ : ∃ q, K k = q := ⟨_, rfl⟩
      rw [hS] at HPL HNk HSt A0 A1 B0 B1 D0 D1 c0 c1 c2
      rw [hq] at HPL HNk HSt HIn hql HPO HRow ⊢
      clear hpl HC HK HP HN HA HI hE hS hKk HR0
      have hklt : (k : Int) < (s.length : Int) := by omega
      go_wp2_with fail
      obtain ⟨wu, hwu⟩ : ∃ wu, wr.alloc (.cells #[.int .i64 S.1, .int .i64 S.2.1, .int .i64 S.2.2] 90) = wu := ⟨_, rfl⟩
      have hbx : Below wr.heap.size wr wu := by rw [← hwu]; exact (Below.refl _ _).alloc (Nat.le_refl _) _
      have hbu : Below wo.heap.size wo wu := hbr.trans (hbx.mono hbr.size)
      have s0 : wu.cell? ⟨wr.heap.size, 0, none⟩ = some (.int .i64 S.1) := by rw [← hwu]; simp [go_sem]
      have s1 : wu.cell? ⟨wr.heap.size, 1, none⟩ = some (.int .i64 S.2.1) := by rw [← hwu]; simp [go_sem]
      have s2 : wu.cell? ⟨wr.heap.size, 2, none⟩ = some (.int .i64 S.2.2) := by rw [← hwu]; simp [go_sem]
      have HPO := Lib.hid (HPO.out.below hbx)
      rw [hwu]
      clear hwu c0 c1 c2 HRow
      obtain ⟨bq, oq, HLq, HCq⟩ : ∃ bq oq, Hid (0 < q.length → av = some ⟨bq, oq, none⟩) ∧ Hid (∀ i, i < q.length → wu.cell? ⟨bq, oq + i * 2, none⟩ = some (.int .i64 (gp q i).1) ∧ wu.cell? ⟨bq, oq + i * 2 + 1, none⟩ = some (.int .i64 (gp q i).2)) := by
        obtain ⟨_, _, bq, oq, h1, h2⟩ := HPO.out
        exact ⟨bq, oq, Lib.hid fun h => h1 (pos_ne (n := 0) h), Lib.hid h2⟩
      clear HPO
      obtain ⟨S0, S1, S2⟩ := S
      obtain ⟨wz, rfl⟩ : ∃ wz : World, wz = wr := ⟨_, rfl⟩
      simp only [] at s0 s1 s2 A0 A1 B0 B1 D0 D1
      go_loopw [8, 21] (fun v i wr => ∃ m : Nat, m ≤ q.length ∧ i = .int .i64 m ∧ (∃ a c, v = .slice a (stepL (S0, S1, S2) (q.take m)).length c) ∧ Hid (wr.ownsRow wu.heap.size 26 2 v (stepL (S0, S1, S2) (q.take m)).length (clS (stepL (S0, S1, S2) (q.take m)))) ∧ Below wu.heap.size wu wr) (fun _ i _ => q.length - (intOf i).toNat)
      case atStart => exact ⟨0, Nat.zero_le _, rfl, ⟨none, 0, rfl⟩, Lib.hid ⟨rfl, .inl ⟨rfl, rfl⟩⟩, Below.refl _ _⟩
      case round =>
        clear hbr
        obtain ⟨m, hm, rfl, ⟨aw, cw, rfl⟩, HRow, hbr⟩ := hrel
        by_cases hmt : m < q.length
        · obtain rfl := HLq.out (by omega)
          obtain ⟨e0, e1⟩ := HCq.out m hmt
          have e0 := cell_below e0 hbr
          have e1 := cell_below e1 hbr
          have s0 := cell_below s0 hbr
          have s1 := cell_below s1 hbr
          have s2 := cell_below s2 hbr
          obtain ⟨x0, xy, y1⟩ := HIn.out _ (gp_mem hmt)
          have HStm := Lib.hid (HSt.out m hmt)
          have hlm := HPL.out (m + 1)
          have HKM := Lib.hid (fun W => keptM_any S0 S1 S2 (gp q m).1 (gp q m).2 W ⟨A0, A1⟩ ⟨B0, B1⟩ ⟨D0, D1⟩ ⟨x0, by omega⟩ ⟨by omega, by omega⟩)
          rw [HStm.out, List.length_append] at hlm
          obtain ⟨M, hM⟩ : ∃ M, stepL (S0, S1, S2) (q.take m) = M := ⟨_, rfl⟩
          obtain ⟨P, hP⟩ : ∃ P, keptStep (S0, S1, S2) (gp q m) = P := ⟨_, rfl⟩
          have HKM : Hid (∀ W, Calls Try.prog 55 #[.agg #[.int .i64 S0, .int .i64 S1, .int .i64 S2], .agg #[.int .i64 (gp q m).1, .int .i64 (gp q m).2]] W (KpE W P)) := Lib.hid fun W => by rw [← hP]; exact HKM.out W
          rw [hM] at HRow HStm hlm ⊢
          rw [hP] at HStm hlm
          clear hM hP HPL HSt HIn HCq HLq HNk
          generalize (gp q m).1 = x2 at *
          generalize (gp q m).2 = y2 at *
          have hmlt : (m : Int) < (q.length : Int) := by omega
          have hz1' := block_lt s0
          have hz2' : wz.heap.size ≠ wr.heap.size := by omega
          go_wp2_with fail
          refine (HKM.out _).mono ?_
          rintro e w5 ⟨g, hg, rfl, hcl, hb5⟩
          have hb5 : Below wr.heap.size wr w5 := ((Below.refl _ _).alloc (Nat.le_refl _) _).trans (hb5.mono (by simp))
          have hbq : Below wu.heap.size wu w5 := hbr.trans (hb5.mono hbr.size)
          have HRow := Lib.hid (owns_below HRow.out hb5)
          have hbs := hbq.size
          clear hg HKM
          by_cases hP0 : P = []
          · subst hP0
            have hnx : Hid (stepL (S0, S1, S2) (q.take (m + 1)) = M) := Lib.hid (by rw [HStm.out, List.append_nil])
            clear HStm hcl hlm
            go_wp2_with (first | (at_builtin; go_loud (refine wpList_append_zero rfl _ _ 30 (by rfl) wu.heap.size 26 n0 2 Try.underlying30 hi (.slice aw M.length cw) M.length _ (by rfl) HRow.out (some ⟨g, 0, none⟩) 2 (by rfl) ?_)))
            go_wp2_with fail
            go_roundw
            case rel => exact ⟨m + 1, by omega, by go_num, ⟨aw, cw, by rw [hnx.out]⟩, Lib.hid (by rw [hnx.out]; exact HRow.out), hbq⟩
            case measure => simp [intOf]; omega
          · have hPp : 0 < P.length := by
              cases P with
              | nil => exact absurd rfl hP0
              | cons p P => simp
            have hnx : Hid (M.length + P.length = (stepL (S0, S1, S2) (q.take (m + 1))).length ∧ clS M ++ clS P = clS (stepL (S0, S1, S2) (q.take (m + 1)))) := Lib.hid (by rw [HStm.out, List.length_append, clS_append]; exact ⟨rfl, rfl⟩)
            have HNews := Lib.hid (news_of_cells hcl)
            have HPl := Lib.hid (clS_len P)
            have HP1 := Lib.hid (clS_one P)
            clear HStm hcl hP0
            go_wp2_with (first | (at_builtin; go_loud (refine wpList_append_lies _ rfl _ _ 30 rfl wu.heap.size 26 n0 _ 2 16 Try.underlying30 hi hz0 hz1 hz2 rfl (by decide) (.slice aw M.length cw) M.length _ (by rfl) HRow.out ⟨g, 0, none⟩ P.length 2 (clS P) (by rfl) HPl.out HNews.out HP1.out hPp ?d3 ?d4 hbs _ rfl ?_)))
            case d3 => unfold maxLen; omega
            case d4 => omega
            intro g6 c6 w6 hown6 hgrow6 hat6 hlt6
            have hb6 : Below wu.heap.size wu w6 := (hbq.grown hgrow6 hbs (fun z hz => owns_block HRow.out hz))
            go_wp2_with fail
            go_roundw
            case rel => exact ⟨m + 1, by omega, by go_num, ⟨_, c6, by rw [← hnx.out.1]⟩, Lib.hid (by rw [← hnx.out.1, ← hnx.out.2]; exact hown6), hb6⟩
            case measure => simp [intOf]; omega
        · obtain rfl : m = q.length := by omega
          have hnx : Hid (K (k + 1) = stepL (S0, S1, S2) (q.take q.length)) := Lib.hid (by rw [HNk.out, List.take_length])
          have HRow := Lib.hid (owns_base HRow.out hbu.size)
          have hbw := hbu.trans (hbr.mono hbu.size)
          clear HPL HSt HIn HCq HLq HNk
          go_wp2_with fail
          go_roundw
          case rel => exact ⟨k + 1, by omega, by go_num, ⟨aw, cw, by rw [hnx.out]⟩, Lib.hid (by rw [hnx.out]; exact HRow.out), hbw⟩
          case measure => simp [intOf]; omega
    · obtain rfl : k = s.length := by omega
      have HU := Lib.hid (union_raw av (K s.length) cv wr HPO.out (by omega))
      have hbw := below_on hbo hbr
      clear HC HK HP HN HRow HPO hKk
      go_wp2_with fail
      refine HU.out.mono ?_
      intro e w2 hu
      have hu := Lib.hid (hE.out _ _ _ hbw hu)
      obtain ⟨d, hp, hA, b2, c2, he, ho, hb2⟩ := hu.out
      subst he
      clear hp hA ho hb2
      go_wp2_with fail
      go_ret
      exact hu.out

/-- What total returns. -/
def TotE (w : World) (l : List Spn) (e : Ending) (w' : World) : Prop := ∃ d : List Spn, d.Perm l ∧ AscF d ∧ e = .returned (.int .i64 (sumL (joinK d d.length))) ∧ Below w.heap.size w w'
theorem part_bd {q : List Spn} (h : ∀ p ∈ q, 0 ≤ p.1 ∧ p.1 ≤ p.2 ∧ p.2 ≤ 10000000) : ∀ k, k ≤ q.length → 0 ≤ sumL (q.take k) ∧ sumL (q.take k) ≤ 10000000 * k
  | 0, _ => by simp [sumL]
  | k + 1, hk => by
    have ih := part_bd h k (by omega)
    have := h _ (gp_mem (show k < q.length by omega))
    rw [sum_take (show k < q.length by omega)]
    omega
set_option maxRecDepth 100000 in
set_option maxHeartbeats 1000000 in
theorem total_raw (a : Option Addr) (l : List Spn) (ca : Nat) (w : World) (hA : PairsS w a l) (hn : l.length ≤ 100000000) (hV : InV 10000000 l) :
    Calls Try.prog 38 #[.slice a l.length ca] w (TotE w l) := by
  have HU := Lib.hid (union_raw a l ca w hA hn)
  have HV := Lib.hid hV
  clear hA hV
  go_enter Try.func38, Try.ntmps38
  go_wp2_with fail
  refine HU.out.mono ?_
  rintro e w1 ⟨d, hp, hAs, b, c, rfl, ho, hb⟩
  have HJ : Hid (∀ p ∈ joinK d d.length, 0 ≤ p.1 ∧ p.1 ≤ p.2 ∧ p.2 ≤ 10000000) := Lib.hid fun p hpp => by
    have h1 := (join_sum (fun p hp => (HV.out p hp).2.1) hp).1 p hpp
    obtain ⟨⟨q, hq, e1⟩, r, hr, e2⟩ := joinK_from d d.length (Nat.le_refl _) p hpp
    have hq := HV.out q (hp.mem_iff.1 hq)
    have hr := HV.out r (hp.mem_iff.1 hr)
    omega
  have hJL : (joinK d d.length).length ≤ 100000000 := by
    have h1 := joinK_len d d.length
    have := hp.length_eq
    omega
  have HE : Hid (∀ W, Below w1.heap.size w1 W → TotE w l (.returned (.int .i64 (sumL (joinK d d.length)))) W) := Lib.hid fun W hW => ⟨d, hp, hAs, rfl, below_on hb hW⟩
  have HPO : Hid (PairsS w1 b (joinK d d.length)) := Lib.hid (pairs_own ho (by omega) (fun j hj => by have := HJ.out _ (gp_mem hj); unfold I64; omega))
  obtain ⟨J, hJ⟩ : ∃ J, joinK d d.length = J := ⟨_, rfl⟩
  rw [hJ] at HJ HE HPO hJL ⊢
  clear hJ HU HV ho hp hAs
  obtain ⟨_, -, bq, oq, hadr, hc⟩ := HPO.out
  have HC := Lib.hid hc
  have HL : Hid (0 < J.length → b = some ⟨bq, oq, none⟩) := Lib.hid fun h => hadr (pos_ne (n := 0) h)
  clear hc hadr HPO
  have HT : Hid (sumL J = sumL (J.take J.length)) := Lib.hid (by rw [List.take_length])
  go_wp2_with fail
  go_loopw [3, 9] (fun t i wr => ∃ k : Nat, k ≤ J.length ∧ i = .int .i64 k ∧ t = .int .i64 (sumL (J.take k)) ∧ Below w1.heap.size w1 wr) (fun _ i _ => J.length - (intOf i).toNat)
  case atStart => exact ⟨0, Nat.zero_le _, rfl, rfl, Below.refl _ _⟩
  case round =>
    obtain ⟨k, hk, rfl, rfl, hbr⟩ := hrel
    by_cases hlt : k < J.length
    · obtain rfl := HL.out (by omega)
      obtain ⟨c0, c1⟩ := HC.out k hlt
      have c0 := cell_below c0 hbr
      have c1 := cell_below c1 hbr
      obtain ⟨x0, xy, y1⟩ := HJ.out _ (gp_mem hlt)
      obtain ⟨t0, t1⟩ := part_bd HJ.out k hk
      have HX := Lib.hid (sum_take hlt)
      clear HC HL HJ HE HT
      generalize (gp J k).1 = x at *
      generalize (gp J k).2 = y at *
      generalize sumL (J.take k) = T at *
      go_wp2_with fail
      go_roundw
      case rel => exact ⟨k + 1, by omega, by go_num, by rw [HX.out], hbr.alloc hbr.size _⟩
      case measure => simp [intOf]; omega
    · obtain rfl : k = J.length := by omega
      have HE := Lib.hid (HE.out wr hbr)
      clear HC HL HJ
      go_wp2_with fail
      go_ret
      rw [← HT.out]
      exact HE.out
end Go.Proofs.Ytdiabpcpcilclaa
