/-
  Union, Minus and Total of package road. By an AI agent.
-/
import Derived.Test.YtdiabpcpcilclaaRoadV
import Derived.Deep.RegionHeld3
import Derived.Deep.DeepCutAuto
namespace Go.Proofs.Ytdiabpcpcilclaa
set_option linter.unusedVariables false
set_option linter.unusedSimpArgs false
open Go.RowKit

theorem okL_iff (l : List Spn) : okL l = true ↔ l.length ≤ 1000 ∧ AllV l ∧ InV 10000000 l := by
  unfold okL spnB
  rw [Bool.and_eq_true, decide_eq_true_eq, List.all_eq_true]
  constructor
  · rintro ⟨h1, h2⟩
    exact ⟨h1, fun p hp => ((strB_iff _ _ _).1 (h2 p hp)).2.1, fun p hp => by have := (strB_iff _ _ _).1 (h2 p hp); omega⟩
  · rintro ⟨h1, h2, h3⟩
    exact ⟨h1, fun p hp => (strB_iff _ _ _).2 (by have := h2 p hp; have := h3 p hp; omega)⟩
def unE (l : List Spn) : Int := if okL l = true then 0 else 2
def unL (l : List Spn) : List Spn := if okL l = true then canL l else []
def miE (a b : List Spn) : Int := if (okL a && okL b) = true then 0 else 2
def miL (a b : List Spn) : List Spn := if (okL a && okL b) = true then minusL 10000000 a b else []
def toV (l : List Spn) : Int := if okL l = true then sumL (canL l) else 0
theorem own_cap {w : World} {base c : Nat} {b : Option Addr} {q : List Spn} (h : w.ownsRow base 26 2 (.slice b q.length c) q.length (clS q)) : q.length ≤ c := by
  rcases h.2 with ⟨h1, h2⟩ | ⟨g, cap, cur, h1, _, _, h4, _⟩
  · omega
  · obtain ⟨_, rfl⟩ : b = some ⟨g, 0, none⟩ ∧ c = cap := by simpa using h1
    exact h4
theorem news_of_pairs {w : World} {blk off : Nat} {q : List Spn} (h : ∀ i, i < q.length → w.cell? ⟨blk, off + i * 2, none⟩ = some (.int .i64 (gp q i).1) ∧ w.cell? ⟨blk, off + i * 2 + 1, none⟩ = some (.int .i64 (gp q i).2)) : ∀ j u, (clS q)[j]? = some u → w.cell? ((⟨blk, off, none⟩ : Addr).add j) = some u := fun j u hu => by
  have hadd : (⟨blk, off, none⟩ : Addr).add j = ⟨blk, off + j, none⟩ := by unfold Addr.add; split <;> simp_all
  rw [hadd]
  have hj : j < q.length * 2 := by
    rw [← clS_len]
    rw [List.getElem?_eq_some_iff] at hu
    exact hu.1
  rcases Nat.mod_two_eq_zero_or_one j with hm | hm
  · obtain ⟨i, rfl⟩ : ∃ i, j = i * 2 := ⟨j / 2, by omega⟩
    rw [clS_0 q i (by omega)] at hu
    cases hu
    exact (h i (by omega)).1
  · obtain ⟨i, rfl⟩ : ∃ i, j = i * 2 + 1 := ⟨j / 2, by omega⟩
    rw [clS_1 q i (by omega)] at hu
    cases hu
    exact (h i (by omega)).2
set_option maxRecDepth 100000 in
set_option maxHeartbeats 1000000 in
theorem Union_any (a : Option Addr) (l : List Spn) (ca : Nat) (w : World) (hA : PairsS w a l) :
    Calls Try.prog 15 #[.slice a l.length ca] w (LstE w (unL l) (unE l)) := by
  have HV := Lib.hid (fun b W (hW : Below w.heap.size w W) (k0 : W.cell? ⟨b, 0, none⟩ = some (.slice a l.length ca)) => listsValid1_any a l ca b 1 W (hA.below hW) k0)
  have HA := Lib.hid hA
  cases hok : okL l with
  | false =>
    rw [hok] at HV
    rw [show unL l = [] by unfold unL; rw [if_neg (by rw [hok]; simp)], show unE l = 2 by unfold unE; rw [if_neg (by rw [hok]; simp)]]
    clear hok HA hA
    go_enter Try.func15, Try.ntmps15
    go_wp2_with fail
    obtain ⟨wB, hwB⟩ : ∃ wB, w.alloc (.cells #[.slice a l.length ca] 30) = wB := ⟨_, rfl⟩
    have hb0 : Below w.heap.size w wB := by rw [← hwB]; exact (Below.refl _ _).alloc (Nat.le_refl _) _
    have k0 : wB.cell? ⟨w.heap.size, 0, none⟩ = some (.slice a l.length ca) := by rw [← hwB]; simp [go_sem]
    rw [hwB]
    clear hwB
    refine (HV.out _ _ hb0 k0).mono ?_
    rintro e w1 ⟨rfl, hb1⟩
    have hb := below_on hb0 hb1
    clear k0 hb1 hb0 HV
    go_wp2_with fail
    go_ret2
    exact ⟨none, 0, rfl, pairs_nil _, hb, Nat.le_refl _⟩
  | true =>
    obtain ⟨hl, hV, hI⟩ := (okL_iff l).1 hok
    rw [hok] at HV
    rw [show unL l = canL l by unfold unL; rw [if_pos hok], show unE l = 0 by unfold unE; rw [if_pos hok]]
    have HU := Lib.hid (fun W (hW : Below w.heap.size w W) => union_raw a l ca W (HA.out.below hW) (by omega))
    have HE : Hid (∀ W e w', Below w.heap.size w W → UniE W l e w' → ∃ b c, e = .returned (.slice b (canL l).length c) ∧ LstE w (canL l) 0 (.returned (.tuple #[.slice b (canL l).length c, .int .i64 0])) w') := Lib.hid fun W e w' hW hu => by
      obtain ⟨b, c, he, ho, hb⟩ := hu.own hV
      exact ⟨b, c, he, b, c, rfl, OwnE.pairs (w := W) ho (inV_canL hI hV) (by have := (canL_ok hV).2.2; omega), below_on hW hb, own_cap ho⟩
    generalize canL l = C at *
    clear hok hl hV hI HA hA
    go_enter Try.func15, Try.ntmps15
    go_wp2_with fail
    obtain ⟨wB, hwB⟩ : ∃ wB, w.alloc (.cells #[.slice a l.length ca] 30) = wB := ⟨_, rfl⟩
    have hb0 : Below w.heap.size w wB := by rw [← hwB]; exact (Below.refl _ _).alloc (Nat.le_refl _) _
    have k0 : wB.cell? ⟨w.heap.size, 0, none⟩ = some (.slice a l.length ca) := by rw [← hwB]; simp [go_sem]
    rw [hwB]
    clear hwB
    refine (HV.out _ _ hb0 k0).mono ?_
    rintro e w1 ⟨rfl, hb1⟩
    have hb := below_on hb0 hb1
    clear k0 hb1 hb0 HV
    go_wp2_with fail
    refine (HU.out _ hb).mono ?_
    rintro e w2 hu
    obtain ⟨b, c, rfl, hE⟩ := HE.out _ _ _ hb hu
    have hE := Lib.hid hE
    clear hu HE HU
    go_wp2_with fail
    go_ret2
    exact hE.out
set_option maxRecDepth 100000 in
set_option maxHeartbeats 1000000 in
theorem Total_any (a : Option Addr) (l : List Spn) (ca : Nat) (w : World) (hA : PairsS w a l) :
    Calls Try.prog 19 #[.slice a l.length ca] w (fun e w' => e = .returned (.tuple #[.int .i64 (toV l), .int .i64 (unE l)]) ∧ Below w.heap.size w w') := by
  have HV := Lib.hid (fun b W (hW : Below w.heap.size w W) (k0 : W.cell? ⟨b, 0, none⟩ = some (.slice a l.length ca)) => listsValid1_any a l ca b 1 W (hA.below hW) k0)
  have HA := Lib.hid hA
  cases hok : okL l with
  | false =>
    rw [hok] at HV
    rw [show toV l = 0 by unfold toV; rw [if_neg (by rw [hok]; simp)], show unE l = 2 by unfold unE; rw [if_neg (by rw [hok]; simp)]]
    clear hok HA hA
    go_enter Try.func19, Try.ntmps19
    go_wp2_with fail
    obtain ⟨wB, hwB⟩ : ∃ wB, w.alloc (.cells #[.slice a l.length ca] 30) = wB := ⟨_, rfl⟩
    have hb0 : Below w.heap.size w wB := by rw [← hwB]; exact (Below.refl _ _).alloc (Nat.le_refl _) _
    have k0 : wB.cell? ⟨w.heap.size, 0, none⟩ = some (.slice a l.length ca) := by rw [← hwB]; simp [go_sem]
    rw [hwB]
    clear hwB
    refine (HV.out _ _ hb0 k0).mono ?_
    rintro e w1 ⟨rfl, hb1⟩
    have hb := below_on hb0 hb1
    clear k0 hb1 hb0 HV
    go_wp2_with fail
    go_ret2
    exact ⟨rfl, hb⟩
  | true =>
    obtain ⟨hl, hV, hI⟩ := (okL_iff l).1 hok
    rw [hok] at HV
    rw [show toV l = sumL (canL l) by unfold toV; rw [if_pos hok], show unE l = 0 by unfold unE; rw [if_pos hok]]
    have HU := Lib.hid (fun W (hW : Below w.heap.size w W) => total_raw a l ca W (HA.out.below hW) (by omega) hI)
    have HE : Hid (∀ W e w', TotE W l e w' → e = .returned (.int .i64 (sumL (canL l))) ∧ Below W.heap.size W w') := Lib.hid fun W e w' hu => by
      obtain ⟨d, hp, hA, he, hb⟩ := hu
      rw [(join_eq hV hp hA).1] at he
      exact ⟨he, hb⟩
    generalize canL l = C at *
    generalize sumL C = T at *
    clear hok hl hV hI HA hA
    go_enter Try.func19, Try.ntmps19
    go_wp2_with fail
    obtain ⟨wB, hwB⟩ : ∃ wB, w.alloc (.cells #[.slice a l.length ca] 30) = wB := ⟨_, rfl⟩
    have hb0 : Below w.heap.size w wB := by rw [← hwB]; exact (Below.refl _ _).alloc (Nat.le_refl _) _
    have k0 : wB.cell? ⟨w.heap.size, 0, none⟩ = some (.slice a l.length ca) := by rw [← hwB]; simp [go_sem]
    rw [hwB]
    clear hwB
    refine (HV.out _ _ hb0 k0).mono ?_
    rintro e w1 ⟨rfl, hb1⟩
    have hb := below_on hb0 hb1
    clear k0 hb1 hb0 HV
    go_wp2_with fail
    refine (HU.out _ hb).mono ?_
    rintro e w2 hu
    obtain ⟨rfl, hb2⟩ := HE.out _ _ _ hu
    have hb := below_on hb hb2
    clear hu HE HU hb2
    go_wp2_with fail
    go_ret2
    exact ⟨rfl, hb⟩
set_option maxRecDepth 100000 in
set_option maxHeartbeats 2000000 in
theorem Minus_any (a : Option Addr) (l : List Spn) (ca : Nat) (d : Option Addr) (m : List Spn) (cd : Nat) (w : World) (hA : PairsS w a l) (hD : PairsS w d m) :
    Calls Try.prog 17 #[.slice a l.length ca, .slice d m.length cd] w (LstE w (miL l m) (miE l m)) := by
  have HV := Lib.hid (fun b W (hW : Below w.heap.size w W) (k0 : W.cell? ⟨b, 0, none⟩ = some (.slice a l.length ca)) (k1 : W.cell? ⟨b, 1, none⟩ = some (.slice d m.length cd)) => listsValid2_any a l ca d m cd b 2 W (hA.below hW) (hD.below hW) k0 k1)
  have HA := Lib.hid hA
  have HD := Lib.hid hD
  cases hok : (okL l && okL m) with
  | false =>
    rw [hok] at HV
    rw [show miL l m = [] by unfold miL; rw [if_neg (by rw [hok]; simp)], show miE l m = 2 by unfold miE; rw [if_neg (by rw [hok]; simp)]]
    clear hok HA hA HD hD
    go_enter Try.func17, Try.ntmps17
    go_wp2_with fail
    obtain ⟨wB, hwB⟩ : ∃ wB, w.alloc (.cells #[.slice a l.length ca, .slice d m.length cd] 30) = wB := ⟨_, rfl⟩
    have hb0 : Below w.heap.size w wB := by rw [← hwB]; exact (Below.refl _ _).alloc (Nat.le_refl _) _
    have k0 : wB.cell? ⟨w.heap.size, 0, none⟩ = some (.slice a l.length ca) := by rw [← hwB]; simp [go_sem]
    have k1 : wB.cell? ⟨w.heap.size, 1, none⟩ = some (.slice d m.length cd) := by rw [← hwB]; simp [go_sem]
    rw [hwB]
    clear hwB
    refine (HV.out _ _ hb0 k0 k1).mono ?_
    rintro e w1 ⟨rfl, hb1⟩
    have hb := below_on hb0 hb1
    clear k0 k1 hb1 hb0 HV
    go_wp2_with fail
    go_ret2
    exact ⟨none, 0, rfl, pairs_nil _, hb, Nat.le_refl _⟩
  | true =>
    rw [hok] at HV
    rw [show miL l m = minusL 10000000 l m by unfold miL; rw [if_pos hok], show miE l m = 0 by unfold miE; rw [if_pos hok]]
    rw [Bool.and_eq_true] at hok
    obtain ⟨hl, hV, hI⟩ := (okL_iff l).1 hok.1
    obtain ⟨hml, hmV, hmI⟩ := (okL_iff m).1 hok.2
    obtain ⟨k1, k2, k3, k4, k5⟩ := minus_ok hI hV hmI hmV (M := 10000000) (by decide)
    have HO := Lib.hid (fun W (hW : Below w.heap.size w W) => outside_any a l ca W (HA.out.below hW) (by omega) hV hI)
    have hRl : (outC 10000000 (canL l)).length ≤ 1001 := by
      obtain ⟨c1, c2, c3⟩ := canL_ok hV
      have := (outC_ok c1 (inV_canL hI hV) (M := 10000000) (by decide)).2.2.2
      omega
    have hRI : InV 10000000 (outC 10000000 (canL l)) := fun p hp => k4 p (List.mem_append_left _ hp)
    obtain ⟨Z, hZ⟩ : ∃ Z, minusL 10000000 l m = Z := ⟨_, rfl⟩
    have hZ2 : outC 10000000 (canL (outC 10000000 (canL l) ++ m)) = Z := hZ
    have hZl : Z.length ≤ 2002 := by
      obtain ⟨c1, c2, c3⟩ := canL_ok k5
      have := (outC_ok c1 (inV_canL k4 k5) (M := 10000000) (by decide)).2.2.2
      rw [hZ2] at this
      rw [List.length_append] at c3
      omega
    rw [hZ] at k1 k2 k3 ⊢
    generalize outC 10000000 (canL l) = R at *
    have HO2 : Hid (∀ b c W, PairsS W b (R ++ m) → Calls Try.prog 43 #[.slice b (R ++ m).length c] W (OwnE W Z)) := Lib.hid fun b c W hP => by
      have := outside_any b (R ++ m) c W hP (by rw [List.length_append]; omega) k5 k4
      rw [hZ2] at this
      exact this
    have HE : Hid (∀ W b c w', Below w.heap.size w W → w'.ownsRow W.heap.size 26 2 (.slice b Z.length c) Z.length (clS Z) → Below W.heap.size W w' → LstE w Z 0 (.returned (.tuple #[.slice b Z.length c, .int .i64 0])) w') := Lib.hid fun W b c w' hW ho hb =>
      ⟨b, c, rfl, OwnE.pairs (w := W) ho k2 (by omega), below_on hW hb, own_cap ho⟩
    have HRm : Hid (∀ W b c, W.ownsRow w.heap.size 26 2 (.slice b (R.length + m.length) c) (R.length + m.length) (clS R ++ clS m) → PairsS W b (R ++ m)) := Lib.hid fun W b c h => by
      rw [← clS_append, ← List.length_append] at h
      exact pairs_own h (by rw [List.length_append]; omega) fun j hj => inV_64 k4 (Int.le_refl _) hj
    have HRn : Hid (∀ W b c, W.ownsRow w.heap.size 26 2 (.slice b R.length c) R.length (clS R) → PairsS W b R) := Lib.hid fun W b c h => pairs_own h (by omega) fun j hj => inV_64 hRI (Int.le_refl _) hj
    have HLn : Hid ((R ++ m).length = R.length + m.length) := Lib.hid (by rw [List.length_append])
    rw [HLn.out] at HO2
    obtain ⟨n0, hi, hz0, hz1, hz2⟩ := info_parts spanInfo
    clear hok hV hI hmV hmI k1 k2 k3 k4 k5 hRI hZ hZ2 hZl hA hD
    by_cases hm0 : m.length = 0
    · have hm00 := List.eq_nil_of_length_eq_zero hm0
      subst hm00
      have HO2 : Hid (∀ b c W, PairsS W b R → Calls Try.prog 43 #[.slice b R.length c] W (OwnE W Z)) := Lib.hid fun b c W hP => by
        have := HO2.out b c W (by rw [List.append_nil]; exact hP)
        simpa using this
      clear HRm HLn hm0 HA HD
      go_enter Try.func17, Try.ntmps17
      go_wp2_with fail
      obtain ⟨wB, hwB⟩ : ∃ wB, w.alloc (.cells #[.slice a l.length ca, .slice d 0 cd] 30) = wB := ⟨_, rfl⟩
      have hb0 : Below w.heap.size w wB := by rw [← hwB]; exact (Below.refl _ _).alloc (Nat.le_refl _) _
      have k0 : wB.cell? ⟨w.heap.size, 0, none⟩ = some (.slice a l.length ca) := by rw [← hwB]; simp [go_sem]
      have k1 : wB.cell? ⟨w.heap.size, 1, none⟩ = some (.slice d 0 cd) := by rw [← hwB]; simp [go_sem]
      rw [hwB]
      clear hwB
      refine (HV.out _ _ hb0 k0 k1).mono ?_
      rintro e w1 ⟨rfl, hb1⟩
      have hb := below_on hb0 hb1
      clear k0 k1 hb1 hb0 HV
      go_wp2_with fail
      refine (HO.out _ hb).mono ?_
      rintro e w2 ⟨b, c, rfl, ho, hb2⟩
      have HRow := Lib.hid (owns_base ho hb.size)
      have hb := below_on hb hb2
      clear ho hb2 HO
      go_wp2_with (first | (at_builtin; go_loud (refine wpList_append_zero rfl _ _ 30 (by rfl) w.heap.size 26 n0 2 Try.underlying30 hi (.slice b R.length c) R.length _ (by rfl) HRow.out d cd (by rfl) ?_)))
      refine (HO2.out _ _ _ (HRn.out _ _ _ HRow.out)).mono ?_
      rintro e w3 ⟨b2, c2, rfl, ho2, hb3⟩
      have hE := Lib.hid (HE.out _ _ _ _ hb ho2 hb3)
      clear HE HO2 HRow HRn ho2
      go_wp2_with fail
      go_ret2
      exact hE.out
    · obtain ⟨-, -, blk, off, hadr, hcell⟩ := HD.out
      obtain rfl := hadr (by rintro rfl; exact hm0 rfl)
      have hm1 : 0 < m.length := by omega
      have HCm : Hid (∀ W, Below w.heap.size w W → ∀ j u, (clS m)[j]? = some u → W.cell? ((⟨blk, off, none⟩ : Addr).add j) = some u) := Lib.hid fun W hW => news_of_pairs fun i hi => ⟨cell_below (hcell i hi).1 hW, cell_below (hcell i hi).2 hW⟩
      clear hcell hadr HRn HA HD hm0
      go_enter Try.func17, Try.ntmps17
      go_wp2_with fail
      obtain ⟨wB, hwB⟩ : ∃ wB, w.alloc (.cells #[.slice a l.length ca, .slice (some ⟨blk, off, none⟩) m.length cd] 30) = wB := ⟨_, rfl⟩
      have hb0 : Below w.heap.size w wB := by rw [← hwB]; exact (Below.refl _ _).alloc (Nat.le_refl _) _
      have k0 : wB.cell? ⟨w.heap.size, 0, none⟩ = some (.slice a l.length ca) := by rw [← hwB]; simp [go_sem]
      have k1 : wB.cell? ⟨w.heap.size, 1, none⟩ = some (.slice (some ⟨blk, off, none⟩) m.length cd) := by rw [← hwB]; simp [go_sem]
      rw [hwB]
      clear hwB
      refine (HV.out _ _ hb0 k0 k1).mono ?_
      rintro e w1 ⟨rfl, hb1⟩
      have hb := below_on hb0 hb1
      clear k0 k1 hb1 hb0 HV
      go_wp2_with fail
      refine (HO.out _ hb).mono ?_
      rintro e w2 ⟨b, c, rfl, ho, hb2⟩
      have HRow := Lib.hid (owns_base ho hb.size)
      have hb := below_on hb hb2
      have hnews := Lib.hid (HCm.out _ hb)
      clear ho hb2 HO HCm
      go_wp2_with (first | (at_builtin; go_loud (refine wpList_append_lies _ rfl _ _ 30 rfl w.heap.size 26 n0 _ 2 16 Try.underlying30 hi hz0 hz1 hz2 rfl (by decide) (.slice b R.length c) R.length _ (by rfl) HRow.out ⟨blk, off, none⟩ m.length cd (clS m) (by rfl) (by rw [clS_len]) hnews.out (clS_one m) ?d3 ?d4 ?d5 hb.size _ rfl ?_)))
      case d3 => omega
      case d4 => unfold maxLen; omega
      case d5 => omega
      intro g6 c6 w6 hown6 hgrow6 hat6 hlt6
      have hb6 : Below w.heap.size w w6 := hb.grown hgrow6 hb.size (fun z hz => owns_block HRow.out hz)
      have HRow := Lib.hid hown6
      clear hb hnews hown6 hgrow6 hat6
      go_wp2_with fail
      refine (HO2.out _ _ _ (HRm.out _ _ _ HRow.out)).mono ?_
      rintro e w3 ⟨b2, c2, rfl, ho2, hb3⟩
      have hE := Lib.hid (HE.out _ _ _ _ hb6 ho2 hb3)
      clear HE HO2 HRow HRm ho2
      go_wp2_with fail
      go_ret2
      exact hE.out
end Go.Proofs.Ytdiabpcpcilclaa
