/-
  The reference's Union, Minus and Total. By an AI agent.
-/
import Derived.Test.YtdiabpcpcilclaaRoadPk
import Derived.Test.YtdiabpcpcilclaaRoadPj
import Derived.Test.YtdiabpcpcilclaaRoadPn
import Derived.Test.YtdiabpcpcilclaaRoadTn
import Derived.Deep.RegionHeld3
import Derived.BigQuiet
namespace Go.Proofs.Ytdiabpcpcilclaa
set_option linter.unusedVariables false
set_option linter.unusedSimpArgs false
open Go.RowKit

set_option maxRecDepth 100000 in
set_option maxHeartbeats 1000000 in
theorem refUnion_any (a : Option Addr) (l : List Spn) (ca : Nat) (w : World) (hA : PairsS w a l) :
    Calls Try.prog 16 #[.slice a l.length ca] w (LstE w (unL l) (unE l)) := by
  have HV := Lib.hid (lists_any a l ca w hA)
  have HA := Lib.hid hA
  cases hok : okL l with
  | false =>
    rw [hok] at HV
    rw [show unL l = [] by unfold unL; rw [if_neg (by rw [hok]; simp)], show unE l = 2 by unfold unE; rw [if_neg (by rw [hok]; simp)]]
    clear hok HA hA
    go_enter Try.func16, Try.ntmps16
    go_wp2_with fail
    refine HV.out.mono ?_
    rintro e w1 ⟨rfl, hb⟩
    clear HV
    go_wp2_with fail
    go_ret2
    exact ⟨none, 0, rfl, pairs_nil _, hb, Nat.le_refl _⟩
  | true =>
    obtain ⟨hl, hV, hI⟩ := (okL_iff l).1 hok
    rw [hok] at HV
    rw [show unL l = canL l by unfold unL; rw [if_pos hok], show unE l = 0 by unfold unE; rw [if_pos hok]]
    have HU := Lib.hid (fun W (hW : Below w.heap.size w W) => joined_any a l ca W (HA.out.below hW) (by omega) hV hI)
    have HE : Hid (∀ W b c w', Below w.heap.size w W → w'.ownsRow W.heap.size 26 2 (.slice b (canL l).length c) (canL l).length (clS (canL l)) → Below W.heap.size W w' → LstE w (canL l) 0 (.returned (.tuple #[.slice b (canL l).length c, .int .i64 0])) w') := Lib.hid fun W b c w' hW ho hb =>
      ⟨b, c, rfl, OwnE.pairs (w := W) ho (inV_canL hI hV) (by have := (canL_ok hV).2.2; omega), below_on hW hb, own_cap ho⟩
    generalize canL l = C at *
    clear hok hl hV hI HA hA
    go_enter Try.func16, Try.ntmps16
    go_wp2_with fail
    refine HV.out.mono ?_
    rintro e w1 ⟨rfl, hb⟩
    clear HV
    go_wp2_with fail
    refine (HU.out _ hb).mono ?_
    rintro e w2 ⟨b, c, rfl, ho, hb2⟩
    have hE := Lib.hid (HE.out _ _ _ _ hb ho hb2)
    clear ho hb2 HE HU
    go_wp2_with fail
    go_ret2
    exact hE.out
set_option maxRecDepth 100000 in
set_option maxHeartbeats 1000000 in
theorem refTotal_any (a : Option Addr) (l : List Spn) (ca : Nat) (w : World) (hA : PairsS w a l) :
    Calls Try.prog 20 #[.slice a l.length ca] w (fun e w' => e = .returned (.tuple #[.int .i64 (toV l), .int .i64 (unE l)]) ∧ Below w.heap.size w w') := by
  have HV := Lib.hid (lists_any a l ca w hA)
  have HA := Lib.hid hA
  cases hok : okL l with
  | false =>
    rw [hok] at HV
    rw [show toV l = 0 by unfold toV; rw [if_neg (by rw [hok]; simp)], show unE l = 2 by unfold unE; rw [if_neg (by rw [hok]; simp)]]
    clear hok HA hA
    go_enter Try.func20, Try.ntmps20
    go_wp2_with fail
    refine HV.out.mono ?_
    rintro e w1 ⟨rfl, hb⟩
    clear HV
    go_wp2_with fail
    go_ret2
    exact ⟨rfl, hb⟩
  | true =>
    obtain ⟨hl, hV, hI⟩ := (okL_iff l).1 hok
    rw [hok] at HV
    rw [show toV l = sumL (canL l) by unfold toV; rw [if_pos hok], show unE l = 0 by unfold unE; rw [if_pos hok]]
    have HU := Lib.hid (fun W (hW : Below w.heap.size w W) => joined_any a l ca W (HA.out.below hW) (by omega) hV hI)
    have hcs := canon_sum (canL_ok hV).1 (inV_canL hI hV)
    have HM : Hid (∀ W b c w', w'.ownsRow W 26 2 (.slice b (canL l).length c) (canL l).length (clS (canL l)) → Calls Try.prog 39 #[.slice b (canL l).length c] w' fun e w2 => e = .returned (.int .i64 (sumL (canL l))) ∧ Below w'.heap.size w' w2) := Lib.hid fun W b c w' ho =>
      metres_any b (canL l) c w' (pairs_own ho (by have := (canL_ok hV).2.2; omega) fun j hj => inV_64 (inV_canL hI hV) (Int.le_refl _) hj) (inV_canL hI hV) hcs.2
    generalize canL l = C at *
    generalize sumL C = T at *
    clear hok hl hV hI HA hA hcs
    go_enter Try.func20, Try.ntmps20
    go_wp2_with fail
    refine HV.out.mono ?_
    rintro e w1 ⟨rfl, hb⟩
    clear HV
    go_wp2_with fail
    refine (HU.out _ hb).mono ?_
    rintro e w2 ⟨b, c, rfl, ho, hb2⟩
    have hM := Lib.hid (HM.out _ _ _ _ ho)
    have hb := below_on hb hb2
    clear ho hb2 HM HU
    go_wp2_with fail
    refine hM.out.mono ?_
    rintro e w3 ⟨rfl, hb3⟩
    have hb := below_on hb hb3
    clear hM hb3
    go_wp2_with fail
    go_ret2
    exact ⟨rfl, hb⟩
theorem minK_in {c b : List Spn} {M : Int} (hC : Canon c) (hI : InV M c) (hb : AllV b) : ∀ k, k ≤ b.length → InV M (minK c b k) := fun k hk => by
  obtain ⟨h1, h2⟩ := minK_ok hC hb k hk
  intro p hp
  have hv := h1.2 p hp
  have h3 := inL_bd (h := hI) ((h2 p.1).1 ⟨p, hp, Int.le_refl _, hv⟩).1
  have h4 := inL_bd (h := hI) ((h2 (p.2 - 1)).1 ⟨p, hp, by omega, by omega⟩).1
  omega
set_option maxRecDepth 100000 in
set_option maxHeartbeats 2000000 in
theorem refMinus_any (a : Option Addr) (l : List Spn) (ca : Nat) (d : Option Addr) (m : List Spn) (cd : Nat) (w : World) (hA : PairsS w a l) (hD : PairsS w d m) :
    Calls Try.prog 18 #[.slice a l.length ca, .slice d m.length cd] w (LstE w (miL l m) (miE l m)) := by
  have HV := Lib.hid (lists_any a l ca w hA)
  have HV2 := Lib.hid (fun W (hW : Below w.heap.size w W) => lists_any d m cd W (hD.below hW))
  have HA := Lib.hid hA
  have HD := Lib.hid hD
  cases hok : okL l with
  | false =>
    rw [hok] at HV
    rw [show miL l m = [] by unfold miL; rw [if_neg (by rw [hok]; simp)], show miE l m = 2 by unfold miE; rw [if_neg (by rw [hok]; simp)]]
    clear hok HA hA HD hD HV2
    go_enter Try.func18, Try.ntmps18
    go_wp2_with fail
    refine HV.out.mono ?_
    rintro e w1 ⟨rfl, hb⟩
    clear HV
    go_wp2_with fail
    go_ret2
    exact ⟨none, 0, rfl, pairs_nil _, hb, Nat.le_refl _⟩
  | true =>
    rw [hok] at HV
    cases hok2 : okL m with
    | false =>
      rw [hok2] at HV2
      rw [show miL l m = [] by unfold miL; rw [if_neg (by rw [hok, hok2]; simp)], show miE l m = 2 by unfold miE; rw [if_neg (by rw [hok, hok2]; simp)]]
      clear hok hok2 HA hA HD hD
      go_enter Try.func18, Try.ntmps18
      go_wp2_with fail
      refine HV.out.mono ?_
      rintro e w1 ⟨rfl, hb⟩
      clear HV
      go_wp2_with fail
      refine (HV2.out _ hb).mono ?_
      rintro e w2 ⟨rfl, hb2⟩
      have hb := below_on hb hb2
      clear HV2 hb2
      go_wp2_with fail
      go_ret2
      exact ⟨none, 0, rfl, pairs_nil _, hb, Nat.le_refl _⟩
    | true =>
      rw [hok2] at HV2
      rw [show miL l m = minusL 10000000 l m by unfold miL; rw [if_pos (by rw [hok, hok2]; rfl)], show miE l m = 0 by unfold miE; rw [if_pos (by rw [hok, hok2]; rfl)]]
      obtain ⟨hl, hV, hI⟩ := (okL_iff l).1 hok
      obtain ⟨hml, hmV, hmI⟩ := (okL_iff m).1 hok2
      rw [minus_eq hI hV hmI hmV (by decide)]
      have HJ := Lib.hid (fun W (hW : Below w.heap.size w W) => joined_any a l ca W (HA.out.below hW) (by omega) hV hI)
      have hC := (canL_ok hV).1
      have hCI := inV_canL hI hV
      have HK : Hid (∀ k, k ≤ m.length → InV 10000000 (minK (canL l) m k) ∧ sumL (minK (canL l) m k) ≤ 10000000 ∧ (minK (canL l) m k).length ≤ 10000000) := Lib.hid fun k hk => by
        have h1 := minK_in hC hCI hmV k hk
        have h2 := (minK_ok hC hmV k hk).1
        have h3 := canon_sum h2 h1
        have h4 := sumL_len h2.2
        exact ⟨h1, h3.2, by omega⟩
      have HLf : Hid (∀ k, k < m.length → ∀ b c W, PairsS W b (minK (canL l) m k) → Calls Try.prog 44 #[.agg #[.int .i64 (gp m k).1, .int .i64 ((gp m k).2 - (gp m k).1), .int .i64 ((gp m k).2 - (gp m k).1)], .slice b (minK (canL l) m k).length c] W (LefE W (minK (canL l) m (k + 1)))) := Lib.hid fun k hk b c W hP => by
        have hm := hmI _ (gp_mem hk)
        have hv := hmV _ (gp_mem hk)
        exact left_any _ _ _ b _ c 10000000 10000000 W hP ⟨⟨by (try simp only []); omega, by (try simp only []); omega, by (try simp only []); omega⟩, ⟨by (try simp only []); omega, by (try simp only []); omega⟩, by (try simp only []); omega, ⟨by (try simp only []); omega, by (try simp only []); omega⟩, by (try simp only []); omega, by (try simp only []); omega⟩ (HK.out k (by omega)).1 (HK.out k (by omega)).2.1
      have HMI := Lib.hid (fun k (hk : k < m.length) => hmI _ (gp_mem hk))
      obtain ⟨K, hK⟩ : ∃ K : Nat → List Spn, minK (canL l) m = K := ⟨_, rfl⟩
      have hK0 : canL l = K 0 := by rw [← hK]; rfl
      rw [hK] at HK HLf ⊢
      rw [hK0] at HJ
      obtain ⟨-, -, blk, off, hadr, hcell⟩ := HD.out
      have HC := Lib.hid hcell
      have HL : Hid (0 < m.length → d = some ⟨blk, off, none⟩) := Lib.hid fun h => hadr (pos_ne (n := 0) h)
      have hm9 : m.length ≤ 1000 := hml
      clear hok hok2 HA hA HD hD hl hV hI hml hmV hmI hC hCI hK hK0 hcell hadr
      go_enter Try.func18, Try.ntmps18
      go_wp2_with fail
      refine HV.out.mono ?_
      rintro e w1 ⟨rfl, hb⟩
      clear HV
      go_wp2_with fail
      refine (HV2.out _ hb).mono ?_
      rintro e w2 ⟨rfl, hb2⟩
      have hb := below_on hb hb2
      clear HV2 hb2
      go_wp2_with fail
      refine (HJ.out _ hb).mono ?_
      rintro e w3 ⟨b, c, rfl, ho, hb2⟩
      have hb := below_on hb hb2
      have hP0 : PairsS w3 b (K 0) := pairs_own ho (by have := (HK.out 0 (Nat.zero_le _)).2.2; omega) fun j hj => inV_64 (HK.out 0 (Nat.zero_le _)).1 (Int.le_refl _) hj
      have hc0 : (K 0).length ≤ c := own_cap ho
      have HP0 := Lib.hid (And.intro hP0 hc0)
      clear HJ ho hb2 hP0 hc0
      go_wp2_with fail
      go_loopw [6, 7] (fun v i wr => ∃ k : Nat, k ≤ m.length ∧ i = .int .i64 k ∧ ∃ b c, v = .slice b (K k).length c ∧ Hid (PairsS wr b (K k) ∧ (K k).length ≤ c) ∧ Below w.heap.size w wr) (fun _ i _ => m.length - (intOf i).toNat)
      case atStart => exact ⟨0, Nat.zero_le _, rfl, b, c, rfl, HP0, hb⟩
      case round =>
        obtain ⟨k, hk, rfl, bq, cq, rfl, HQ, hB⟩ := hrel
        by_cases hlt : k < m.length
        · obtain rfl := HL.out (by omega)
          have e0 := cell_below (HC.out k hlt).1 hB
          have e1 := cell_below (HC.out k hlt).2 hB
          obtain ⟨x0, xy, y1⟩ := HMI.out k hlt
          have hLk := Lib.hid (HLf.out k hlt)
          have hKn := Lib.hid (HK.out (k + 1) (by omega))
          have hkl : (k : Int) < (m.length : Int) := by omega
          have hk0 : (0 : Int) ≤ (k : Int) := by omega
          have hmeas : m.length - (k + 1) < m.length - k := by omega
          have HPQ := Lib.hid HQ.out.1
          clear HC HL HLf HMI HK HP0 HQ hb
          generalize (gp m k).1 = x at *
          generalize (gp m k).2 = y at *
          generalize K k = Q at *
          obtain ⟨Q2, hQ2⟩ : ∃ Q2, K (k + 1) = Q2 := ⟨_, rfl⟩
          rw [hQ2] at hLk hKn
          have HQ2 := Lib.hid hQ2
          clear hQ2
          have wd : IntKind.i64.wrap (y - x) = y - x := IntWalk.i64_in _ (by omega)
          have hz := block_lt e0
          go_wp2_with fail
          go_region_held3 (fun w' => w'.cell? ⟨blk, off + k * 2, none⟩ = some (.int .i64 x) ∧ w'.cell? ⟨blk, off + k * 2 + 1, none⟩ = some (.int .i64 y)) (go_keep)
            (first
              | (go_at_call 44
                 refine (hLk.out _ _ _ (by first | exact HPQ.out | exact HPQ.out.below ((Below.refl _ _).drew) | exact HPQ.out.below (below_drewN (Below.refl _ _) _))).mono ?_
                 rintro E w9 ⟨b9, c9, rfl, ho9, hb9⟩
                 have e0 := (hb9.cell (p := ⟨blk, off + k * 2, none⟩) hz).trans e0
                 have e1 := (hb9.cell (p := ⟨blk, off + k * 2 + 1, none⟩) hz).trans e1
                 have hB : Below w.heap.size w w9 := by first | exact (hB.drew).trans (hb9.mono hB.size) | exact hB.trans (hb9.mono hB.size)
                 have H9 : Hid (PairsS w9 b9 Q2 ∧ Q2.length ≤ c9) := Lib.hid ⟨pairs_own ho9 (by have := hKn.out.2.2; omega) (fun j hj => inV_64 hKn.out.1 (Int.le_refl _) hj), own_cap ho9⟩
                 clear ho9))
          all_goals
            go_wp2_with fail
            go_roundw
            case rel => exact ⟨k + 1, by omega, by go_num, b9, c9, by rw [HQ2.out], by rw [HQ2.out]; first | exact H9 | exact Lib.hid ⟨H9.out.1.below ((Below.refl _ _).drew), H9.out.2⟩ | exact Lib.hid ⟨H9.out.1.below (below_drewN (Below.refl _ _) _), H9.out.2⟩, by first | exact hB | exact hB.drew | exact below_drewN hB _⟩
            case measure => first | (simp [intOf]; exact hmeas) | simpa [intOf] using hmeas
        · obtain rfl : k = m.length := by omega
          have hE : Hid (LstE w (K m.length) 0 (.returned (.tuple #[.slice bq (K m.length).length cq, .int .i64 0])) wr) := Lib.hid ⟨bq, cq, rfl, HQ.out.1, hB, HQ.out.2⟩
          clear HC HL HLf HMI HK HP0 HQ hb
          go_wp2_with fail
          go_ret2
          exact hE.out
end Go.Proofs.Ytdiabpcpcilclaa
