/-
  The reference's Faults. By an AI agent.; The law RuleHolds. By an AI agent.; The laws' comparison of lists that are the same. By an AI agent.; The law RuleFaults. By an AI agent.
-/
import Derived.Test.YtiagflackfkmnaaGreatMgRuleFaults5
import Derived.Test.YtiagflackfkmnaaGreatMgRuleFaults7
import Derived.Test.YtiagflackfkmnaaGreatMgRuleFaults11
import Derived.Test.YtiagflackfkmnaaGreatMgRuleFaults14
import Derived.Deep.RegionHeld3
import Derived.Deep.RegionLawGrows
import Derived.Deep.AppendLies
import Derived.Deep.DeepCutAuto
import Derived.BigQuiet
import Derived.BigRegion
import Derived.StillTailTactics

namespace Go.Proofs.YtiagflackfkmnaaGreat
set_option linter.unusedVariables false
set_option linter.unusedSimpArgs false
open Go.RowKit

theorem cl2_take : ∀ (s : List Flt) (k : Nat), (cl2 s).take (k * 2) = cl2 (s.take k)
  | s, 0 => by simp [cl2]
  | [], k + 1 => by simp [cl2]
  | p :: s, k + 1 => by
    have ih := cl2_take s k
    unfold cl2 at *
    rw [List.take_succ_cons, List.flatMap_cons, List.flatMap_cons, List.take_append, List.take_of_length_le (by rw [enc2_len]; omega), enc2_len, show (k + 1) * 2 - 2 = k * 2 by omega, ih]
theorem cl2_drop : ∀ (s : List Flt) (k : Nat), (cl2 s).drop (k * 2) = cl2 (s.drop k)
  | s, 0 => by simp [cl2]
  | [], k + 1 => by simp [cl2]
  | p :: s, k + 1 => by
    have ih := cl2_drop s k
    unfold cl2 at *
    rw [List.drop_succ_cons, List.flatMap_cons, List.drop_append, List.drop_of_length_le (by rw [enc2_len]; omega), enc2_len, show (k + 1) * 2 - 2 = k * 2 by omega, ih]
    rfl
theorem insF_len (x : Flt) (out : List Flt) : (insF x out).length = out.length + 1 := by
  have := (insF_perm x out).length_eq
  simpa using this
theorem putF_len (L : Int) (js : List Int) (dir : Int) (R : List Sgn) (out : List Flt) : ∀ k, (putF L js dir R out k).length ≤ out.length + k
  | 0 => Nat.le_refl _
  | k + 1 => by
    have := putF_len L js dir R out k
    rw [putF]; split
    · omega
    · rw [insF_len]; omega
theorem codS_bd (L : Int) (js : List Int) (dir : Int) (R : List Sgn) (i : Nat) : 0 ≤ codS L js dir R i ∧ codS L js dir R i ≤ 4 := by
  unfold codS; split
  · split <;> omega
  · split
    · split <;> omega
    · split
      · split <;> omega
      · split
        · split <;> omega
        · omega
theorem fltS_mem {L : Int} {js : List Int} {dir : Int} {R : List Sgn} {x : Flt} : ∀ {k}, x ∈ fltS L js dir R k → ∃ i, i < k ∧ x = ((gs R i).n, codS L js dir R i)
  | 0, h => by cases h
  | k + 1, h => by
    rw [fltS] at h
    split at h
    · obtain ⟨i, hi, e⟩ := fltS_mem h; exact ⟨i, by omega, e⟩
    · rw [List.mem_append, List.mem_singleton] at h
      rcases h with h | h
      · obtain ⟨i, hi, e⟩ := fltS_mem h; exact ⟨i, by omega, e⟩
      · exact ⟨k, by omega, h⟩
theorem refF_bd {L : Int} {js : List Int} {h : Int} {l : List Sgn} (hn : ∀ k, k < l.length → 1 ≤ (gs l k).n ∧ (gs l k).n ≤ 1000000000) : ∀ x, x ∈ refF L js h l → (1 ≤ x.1 ∧ x.1 ≤ 1000000000) ∧ 0 ≤ x.2 ∧ x.2 ≤ 4 := fun x hx => by
  have hx := (refF_perm L js h l).mem_iff.1 hx
  have one : ∀ dir, x ∈ fltS L js dir (insR L dir h l l.length) (insR L dir h l l.length).length → (1 ≤ x.1 ∧ x.1 ≤ 1000000000) ∧ 0 ≤ x.2 ∧ x.2 ≤ 4 := fun dir hx => by
    obtain ⟨i, hi, rfl⟩ := fltS_mem hx
    obtain ⟨j, hj, e⟩ := insR_mem (x := gs (insR L dir h l l.length) i) (by rw [gs_at _ hi]; exact List.getElem_mem hi)
    have h1 := hn j hj
    rw [e] at h1
    exact ⟨h1, codS_bd L js dir _ i⟩
  unfold allF at hx
  rw [List.mem_append] at hx
  rcases hx with hx | hx
  · exact one _ hx
  · exact one _ hx
/-- Does the place go on down? -/
def cndF (n : Int) (out : List Flt) (j : Nat) : Bool := decide (0 < j) && decide (n < (gp out (j - 1)).1)
theorem plcF_true {n : Int} {out : List Flt} {j : Nat} (h : cndF n out j = true) : 0 < j ∧ plcF n out j = plcF n out (j - 1) := by
  unfold cndF at h
  rw [Bool.and_eq_true, decide_eq_true_eq, decide_eq_true_eq] at h
  obtain ⟨t, rfl⟩ : ∃ t, j = t + 1 := ⟨j - 1, by omega⟩
  rw [Nat.add_sub_cancel] at h ⊢
  exact ⟨h.1, by rw [plcF, if_pos h.2]⟩
theorem plcF_false {n : Int} {out : List Flt} {j : Nat} (h : cndF n out j = false) : plcF n out j = j := by
  unfold cndF at h
  cases j with
  | zero => rfl
  | succ t =>
    rw [decide_eq_true (by omega), Bool.true_and, decide_eq_false_iff_not, Nat.add_sub_cancel] at h
    rw [plcF, if_neg h]
/-- The list behind z directions. -/
def dirF (L : Int) (js : List Int) (h : Int) (l : List Sgn) : Nat → List Flt
  | 0 => []
  | 1 => putF L js 1 (insR L 1 h l l.length) [] (insR L 1 h l l.length).length
  | _ + 2 => refF L js h l
/-- A list with a code put in, or not. -/
def ooF (x : Flt) (O : List Flt) (z : Nat) : List Flt := if z = 0 then O else insF x O
def FauR (M : List Flt) (w : World) (e : Ending) (w' : World) : Prop := ∃ b c, e = .returned (.slice b M.length c) ∧ PairsS w' b M ∧ Below w.heap.size w w'
theorem ins_dir {L dir h : Int} {l : List Sgn} (i : Nat) (hi : i < (insR L dir h l l.length).length) : (gs (insR L dir h l l.length) i).d = dir := by
  have hm : gs (insR L dir h l l.length) i ∈ insR L dir h l l.length := by rw [gs_at _ hi]; exact List.getElem_mem hi
  have := selR_sel ((insR_perm L dir h l l.length).mem_iff.1 hm)
  unfold selB at this
  simp only [Bool.and_eq_true, beq_iff_eq] at this
  exact this.1
theorem ooF_end (L : Int) (js : List Int) (dir : Int) (R : List Sgn) (O : List Flt) (i : Nat) : ooF ((gs R i).n, codS L js dir R i) (putF L js dir R O i) (cdL (codS L js dir R i)).length = putF L js dir R O (i + 1) := by
  rw [putF]
  unfold ooF cdL
  by_cases h : codS L js dir R i = 0
  · rw [if_pos h, if_pos h]; rfl
  · rw [if_neg h, if_neg h]; rfl
set_option maxRecDepth 100000 in
set_option maxHeartbeats 8000000 in
theorem refFaults_r (L : Int) (a : Option Addr) (js : List Int) (ca : Nat) (aa : Option Addr) (l : List Sgn) (cl : Nat) (h : Int) (hV : lstE L js l [] = 0) (w : World) (hI : IntsS w a js) (hA : SgnS w aa l) :
    Calls Tryz.prog 33 #[.agg #[.int .i64 L, .slice a js.length ca], .slice aa l.length cl, .int .i64 h] w (FauR (refF L js h l) w) := by
  obtain ⟨hLb, hJ, hC, hn⟩ := lst_good hV
  have HBd := Lib.hid (refF_bd (L := L) (js := js) (h := h) (sgn_nums (lst_sgns hV)).1)
  have HR := Lib.hid (fun dir W (hW : Below w.heap.size w W) => show Calls Tryz.prog 19 #[.agg #[.int .i64 L, .slice a js.length ca], .slice aa l.length cl, .int .i64 h, .int .i64 dir] W (RrR (insR L dir h l l.length) W) from refRow_r L a js.length ca aa l cl h dir hLb.1 hLb.2 (fun j hj => (hC j hj).1) hn W (hA.below hW))
  have HCd := Lib.hid (fun dir b c i W (hi : i < (insR L dir h l l.length).length) (hW : Below w.heap.size w W) hS9 => refCodes_r L a js ca b (insR L dir h l l.length) c dir i hi hLb.1 hLb.2 hJ (ins_good hV dir h).2.2.1 (ins_good hV dir h).1 (ins_good hV dir h).2.1 (ins_good hV dir h).2.2.2 (fun i hi => ins_dir i hi) W (hI.below hW) hS9)
  have HRl := Lib.hid (fun dir => (ins_good hV dir h).2.2.2)
  obtain ⟨n0, hi, hz0, hz1, hz2⟩ := info_parts infoF
  clear hI hA hV hJ hC hLb hn
  go_enter Tryz.func33, Tryz.ntmps33
  go_upto_region 1 with (fail)
  obtain ⟨wB, hwB⟩ : ∃ wB, w.alloc (.cells #[.int .i64 L, .slice a js.length ca] 24) = wB := ⟨_, rfl⟩
  have hb : Below w.heap.size w wB := by rw [← hwB]; exact (Below.refl _ _).alloc (Nat.le_refl _) _
  have l0 : wB.cell? ⟨w.heap.size, 0, none⟩ = some (.int .i64 L) := by rw [← hwB]; simp [go_sem]
  have l1 : wB.cell? ⟨w.heap.size, 1, none⟩ = some (.slice a js.length ca) := by rw [← hwB]; simp [go_sem]
  rw [hwB]
  clear hwB
  have L0 := Lib.hid l0
  have L1 := Lib.hid l1
  have HB := Lib.hid hb
  obtain ⟨wo, rfl⟩ : ∃ wo : World, wo = wB := ⟨_, rfl⟩
  clear l0 l1 hb
  go_wp2_with fail
  go_loopw [7, 8] (fun v d9 wr => ∃ z : Nat, z ≤ 2 ∧ d9 = .int .i64 (1 - 2 * (z : Int)) ∧ (∃ a c, v = .slice a (dirF L js h l z).length c) ∧ Hid (wr.ownsRow wo.heap.size 111 2 v (dirF L js h l z).length (cl2 (dirF L js h l z))) ∧ (dirF L js h l z).length ≤ 1000 * z ∧ Below wo.heap.size wo wr) (fun _ d9 _ => (intOf d9 + 3).toNat)
  case atStart => exact ⟨0, by omega, rfl, ⟨none, 0, rfl⟩, Lib.hid ⟨rfl, .inl ⟨rfl, rfl⟩⟩, by simp [dirF], Below.refl _ _⟩
  case round =>
    obtain ⟨z, hz, rfl, ⟨av0, cv0, rfl⟩, HRow0, hOl0, hbr0⟩ := hrel
    have hbw0 := HB.out.trans (hbr0.mono HB.out.size)
    have l0 := cell_below L0.out hbr0
    have l1 := cell_below L1.out hbr0
    by_cases hlt : z < 2
    · obtain ⟨d, hd⟩ : ∃ d, (1 - 2 * (z : Int)) = d := ⟨_, rfl⟩
      have HNx : Hid (dirF L js h l (z + 1) = putF L js d (insR L d h l l.length) (dirF L js h l z) (insR L d h l l.length).length) := Lib.hid (by
        rcases (by omega : z = 0 ∨ z = 1) with rfl | rfl
        · have : d = 1 := by omega
          rw [this]; rfl
        · have : d = -1 := by omega
          rw [this]; rfl)
      have HRd := Lib.hid (HR.out d wr hbw0)
      have HCx := Lib.hid (fun b c i W (hi : i < (insR L d h l l.length).length) (hW : Below w.heap.size w W) hS9 => HCd.out d b c i W hi hW hS9)
      have hRl := HRl.out d
      have HDs : Hid ((1 - 2 * ((z + 1 : Nat) : Int)) = d - 2) := Lib.hid (by omega)
      have hd1 : -1 ≤ d ∧ d ≤ 1 := by omega
      have HD0 := Lib.hid hd
      rw [hd]
      clear HR HCd HRl HBd hd
      obtain ⟨R, hR⟩ : ∃ R, insR L d h l l.length = R := ⟨_, rfl⟩
      rw [hR] at HRd HNx hRl
      simp only [hR] at HCx
      clear hR
      obtain ⟨O0, hO0⟩ : ∃ O0, dirF L js h l z = O0 := ⟨_, rfl⟩
      rw [hO0] at HRow0 hOl0 HNx ⊢
      clear hO0
      go_wp2_with (go_at_call 19; refine HRd.out.mono ?_; rintro e w2 ⟨rb, rc, rfl, hS, hb2⟩)
      have HS := Lib.hid hS
      have L2 := Lib.hid (cell_below l0 hb2)
      have L3 := Lib.hid (cell_below l1 hb2)
      have HRow2 := Lib.hid (owns_belowI HRow0.out hb2)
      have HBw2 := Lib.hid (hbr0.trans (hb2.mono hbr0.size))
      obtain ⟨-, rblk, roff, rad, rcp, hra, hrc⟩ := hS
      have HRC := Lib.hid hrc
      have HRA : Hid (0 < R.length → rb = some ⟨rblk, roff, none⟩) := Lib.hid fun h => hra (List.ne_nil_of_length_pos h)
      have HPl := Lib.hid (putF_len L js d R O0)
      have HOe := Lib.hid (ooF_end L js d R O0)
      have HP0 : Hid (putF L js d R O0 0 = O0) := Lib.hid rfl
      clear hb2 hra hrc l0 l1 HRow0 hbr0 hbw0 HRd
      go_loopw [7, 10] (fun v i9 wi => ∃ i : Nat, i ≤ R.length ∧ i9 = .int .i64 i ∧ (∃ a c, v = .slice a (putF L js d R O0 i).length c) ∧ Hid (wi.ownsRow wo.heap.size 111 2 v (putF L js d R O0 i).length (cl2 (putF L js d R O0 i))) ∧ Below w2.heap.size w2 wi) (fun _ i9 _ => R.length - (intOf i9).toNat)
      case atStart => exact ⟨0, Nat.zero_le _, rfl, ⟨av0, cv0, by rw [HP0.out]⟩, Lib.hid (by rw [HP0.out]; exact HRow2.out), Below.refl _ _⟩
      case round =>
        obtain ⟨i, hir, rfl, ⟨av1, cv1, rfl⟩, HRow1, hbi⟩ := hrel
        obtain ⟨wi, rfl⟩ : ∃ wi : World, wi = wr := ⟨_, rfl⟩
        have hbwi := HB.out.trans ((HBw2.out.trans (hbi.mono HBw2.out.size)).mono HB.out.size)
        have l0 := cell_below L2.out hbi
        have l1 := cell_below L3.out hbi
        by_cases hilt : i < R.length
        · obtain rfl := HRA.out (by omega)
          obtain ⟨⟨n0c, -⟩, -⟩ := HRC.out i hilt
          have n0c := cell_below n0c hbi
          have HCi := Lib.hid (HCx.out (some ⟨rblk, roff, none⟩) rc i wi hilt hbwi (HS.out.below hbi))
          have hpl := HPl.out i
          have HOei := Lib.hid (HOe.out i)
          have hig : (i : Int) < (R.length : Int) := by omega
          clear HRC HRA HCx HPl HOe HS HP0
          obtain ⟨O1, hO1⟩ : ∃ O1, putF L js d R O0 i = O1 := ⟨_, rfl⟩
          rw [hO1] at HRow1 hpl HOei ⊢
          clear hO1
          obtain ⟨CD, hCD⟩ : ∃ CD, codS L js d R i = CD := ⟨_, rfl⟩
          rw [hCD] at HCi HOei
          clear hCD
          obtain ⟨nn, hnn⟩ : ∃ nn, (gs R i).n = nn := ⟨_, rfl⟩
          rw [hnn] at n0c HOei
          clear hnn
          go_wp2_with (go_at_call 69; refine HCi.out.mono ?_; rintro e w3 ⟨cb, cc, rfl, hcI, hb3⟩)
          have n0c := cell_below n0c hb3
          have HRow3 := Lib.hid (owns_belowI HRow1.out hb3)
          have HBi3 := Lib.hid (hbi.trans (hb3.mono hbi.size))
          obtain ⟨-, -, cblk, coff, hca, hcc⟩ := hcI
          have HN0 := Lib.hid n0c
          have HOL : Hid (∀ x, x < (cdL CD).length → x = 0 ∧ (cdL CD).length = 1 ∧ cb = some ⟨cblk, coff, none⟩ ∧ w3.cell? ⟨cblk, coff, none⟩ = some (.int .i64 CD)) := Lib.hid fun x hx => by
            have hne : CD ≠ 0 := by rintro rfl; exact absurd hx (by simp [cdL])
            have e : cdL CD = [CD] := by unfold cdL; rw [if_neg hne]
            have h1 := hcc 0 (by rw [e]; simp)
            rw [Nat.add_zero] at h1
            rw [e] at hx h1 hca
            have hx : x < 1 := hx
            exact ⟨by omega, by rw [e]; rfl, hca (by simp), h1⟩
          have HOn : Hid (insF (nn, CD) O1 = O1.take (plcF nn O1 O1.length) ++ (nn, CD) :: O1.drop (plcF nn O1 O1.length)) := Lib.hid rfl
          have HO0 : Hid (ooF (nn, CD) O1 0 = O1) := Lib.hid rfl
          have HO1 : Hid (ooF (nn, CD) O1 1 = insF (nn, CD) O1) := Lib.hid rfl
          have hO1l : O1.length ≤ 10000 := by omega
          have HNxt : Hid (putF L js d R O0 (i + 1) = ooF (nn, CD) O1 (cdL CD).length) := Lib.hid HOei.out.symm
          clear hb3 hca hcc l0 l1 HCi hpl HOei n0c HRow1 hbi hbwi
          go_loopw [7, 12] (fun v n9 wj => ∃ y : Nat, y ≤ (cdL CD).length ∧ n9 = .int .i64 y ∧ (∃ a c, v = .slice a (ooF (nn, CD) O1 y).length c) ∧ Hid (wj.ownsRow wo.heap.size 111 2 v (ooF (nn, CD) O1 y).length (cl2 (ooF (nn, CD) O1 y))) ∧ Below w3.heap.size w3 wj) (fun _ n9 _ => (cdL CD).length - (intOf n9).toNat)
          case atStart => exact ⟨0, Nat.zero_le _, rfl, ⟨av1, cv1, by rw [HO0.out]⟩, Lib.hid (by rw [HO0.out]; exact HRow3.out), Below.refl _ _⟩
          case round =>
            obtain ⟨y, hyr, rfl, ⟨av, cv, rfl⟩, HRow4, hbj⟩ := hrel
            obtain ⟨wj, rfl⟩ : ∃ wj : World, wj = wr := ⟨_, rfl⟩
            by_cases hylt : y < (cdL CD).length
            · obtain ⟨hy0, hy1, hy2, hy3⟩ := HOL.out y hylt
              subst hy0
              subst hy2
              rw [HO0.out] at HRow4 ⊢
              obtain ⟨E1, hE1⟩ : ∃ X, ooF (nn, CD) O1 1 = X := ⟨_, rfl⟩
              have HE1 := Lib.hid hE1
              have HN3 : Hid (E1 = O1.take (plcF nn O1 O1.length) ++ (nn, CD) :: O1.drop (plcF nn O1 O1.length)) := Lib.hid (by rw [← hE1, HO1.out, HOn.out])
              have HCc := Lib.hid hy3
              have hylt2 : (0 : Int) < ((cdL CD).length : Int) := by omega
              have HY1 := Lib.hid hy1
              clear hy1 hy3 hE1 HOL
              go_wp2_with fail
              go_loopw [13] (fun k9 wk => ∃ j : Nat, j ≤ O1.length ∧ k9 = .int .i64 j ∧ Hid (plcF nn O1 O1.length = plcF nn O1 j) ∧ Below wj.heap.size wj wk) (fun k9 _ => (intOf k9).toNat)
              case atStart => exact ⟨O1.length, Nat.le_refl _, rfl, Lib.hid rfl, Below.refl _ _⟩
              case round =>
                obtain ⟨j, hj, rfl, HPj, hbk⟩ := hrel
                obtain ⟨wk, rfl⟩ : ∃ wk : World, wk = wr := ⟨_, rfl⟩
                have hb3k := hbj.trans (hbk.mono hbj.size)
                have n0c := cell_below HN0.out hb3k
                have HRowk := Lib.hid (owns_belowI HRow4.out hbk)
                go_upto_region 14 with (fail)
                go_cut [56] (fun v wx => v = .bool (cndF nn O1 j) ∧ Below wk.heap.size wk wx)
                case first =>
                  by_cases hj0 : 0 < j
                  · obtain ⟨t, rfl⟩ : ∃ t, j = t + 1 := ⟨j - 1, by omega⟩
                    obtain ⟨gj, hgj⟩ : ∃ gj, av = some ⟨gj, 0, none⟩ := by
                      rcases HRowk.out.2 with ⟨h1, h2⟩ | ⟨g2, c2, cur, h1, _⟩
                      · omega
                      · exact ⟨g2, by simpa using (Value.slice.inj h1).1⟩
                    subst hgj
                    have cx := World.ownsRow.cellAt HRowk.out (t * 2) (by omega)
                    rw [(cl2_c O1 t (by omega)).1] at cx
                    have hti : ((t + 1 : Nat) : Int) - 1 = (t : Int) := by omega
                    have htw : IntKind.i64.wrap (((t + 1 : Nat) : Int) - 1) = (t : Int) := by rw [hti]; exact IntWalk.i64_in _ (by omega)
                    have htl : t < O1.length := by omega
                    have htl2 : (t : Int) < (O1.length : Int) := by omega
                    have hjj : 0 < t + 1 := by omega
                    have HCn : Hid (cndF nn O1 (t + 1) = decide (nn < (gp O1 t).1)) := Lib.hid (by unfold cndF; rw [decide_eq_true hjj, Bool.true_and]; rfl)
                    clear hti
                    generalize hJ : ((t + 1 : Nat) : Int) = J at *
                    have hJ0 : 0 < J := by omega
                    have HJ9 := Lib.hid hJ
                    clear hJ
                    by_cases hc : nn < (gp O1 t).1
                    · have d1 : decide (nn < (gp O1 t).1) = true := decide_eq_true hc
                      clear hc
                      generalize (gp O1 t).1 = pn at *
                      go_wp2_with fail
                      go_quiet (fail)
                      go_wp2_with fail
                      go_meet
                      exact ⟨by rw [HCn.out, d1], below_drewN (Below.refl _ _) _⟩
                    · have d1 : decide (nn < (gp O1 t).1) = false := decide_eq_false hc
                      clear hc
                      generalize (gp O1 t).1 = pn at *
                      go_wp2_with fail
                      go_quiet (fail)
                      go_wp2_with fail
                      go_meet
                      exact ⟨by rw [HCn.out, d1], below_drewN (Below.refl _ _) _⟩
                  · obtain rfl : j = 0 := by omega
                    go_wp2_with fail
                    go_quiet (fail)
                    go_wp2_with fail
                    go_meet
                    exact ⟨rfl, below_drewN (Below.refl _ _) _⟩
                case rest =>
                  obtain ⟨rfl, hbc⟩ := hcut
                  obtain ⟨ws, rfl⟩ : ∃ ws : World, ws = wc := ⟨_, rfl⟩
                  have hbks := hbk.trans (hbc.mono hbk.size)
                  have hbi4 := hbj.trans (hbks.mono hbj.size)
                  rcases Bool.eq_false_or_eq_true (cndF nn O1 j) with hcn | hcn
                  · have h1 := plcF_true hcn
                    have HPn : Hid (plcF nn O1 O1.length = plcF nn O1 (j - 1)) := Lib.hid (by rw [HPj.out, h1.2])
                    have hj1 := h1.1
                    have hji : ((j - 1 : Nat) : Int) = (j : Int) - 1 := by omega
                    have HJI := Lib.hid hji
                    clear h1 hji
                    rw [hcn]
                    go_wp2_with fail
                    go_roundw
                    case rel => exact ⟨j - 1, by omega, by rw [HJI.out], HPn, hbks⟩
                    case measure => simp [intOf]; omega
                  · have h1 := plcF_false hcn
                    have HN2 : Hid (E1 = O1.take j ++ (nn, CD) :: O1.drop j) := Lib.hid (by rw [HN3.out, HPj.out, h1])
                    have HRs := Lib.hid (owns_belowI HRowk.out hbc)
                    have n0c := cell_below n0c hbc
                    have cc0 := cell_below HCc.out hbi4
                    have hzr := block_lt n0c
                    have hzc := block_lt cc0
                    have hsB : wo.heap.size ≤ ws.heap.size := Nat.le_trans HBw2.out.size (Nat.le_trans HBi3.out.size hbi4.size)
                    clear h1 HPj HRowk HRow4
                    rw [hcn]
                    clear hcn
                    go_upto_region 16 with (fail)
                    rcases HRs.out.2 with ⟨h1, hE0⟩ | ⟨g, c2, cur, h1, hg1, hg2, hnc, hcm, _⟩
                    · obtain ⟨rfl, hc0⟩ : av = none ∧ cv = 0 := by simp at h1; exact ⟨h1.1, h1.2.2⟩
                      have HE0 := Lib.hid hE0
                      have hj0 : j = 0 := by omega
                      clear h1 hE0 hc0
                      subst hj0
                      refine wp_region_held_drew (S := fun w' => Below ws.heap.size ws w') (by kernel_rfl) ((Below.refl _ _).drew) (fun hHeld => ?_)
                      refine takeU (i := 0) (some 59) (.slice none O1.length cv) (by kernel_rfl) (by kernel_rfl) (by kernel_rfl) (by kernel_rfl) (by kernel_rfl) (fun _ => by kernel_rfl) (fun _ _ _ h => h) hHeld ?_
                      refine takeU (i := 1) (some 60) (.int .i64 0) (by kernel_rfl) (by kernel_rfl) (by kernel_rfl) (by kernel_rfl) (by kernel_rfl) (fun _ => by kernel_rfl) (fun _ _ _ h => h) hHeld ?_
                      refine takeU (i := 2) (some 61) (.int .i64 0) (by kernel_rfl) (by kernel_rfl) (by kernel_rfl) (by kernel_rfl) (by kernel_rfl) (fun _ => by kernel_rfl) (fun _ _ _ h => h) hHeld ?_
                      refine wpAnyH_take (i := 3) (oi := { dst := some 62, op := Go.Op.slice 54 (Go.Operand.tmp 59) none (some (Go.Operand.tmp 60)) (some (Go.Operand.tmp 61)), type := 54, pos := "ref.go:321", after := #[{ on := 0, ground := Go.Ground.data }, { on := 1, ground := Go.Ground.data }, { on := 2, ground := Go.Ground.data }], guard := none }) (v := .slice none 0 0) rfl (by kernel_rfl) (by kernel_rfl) (by kernel_rfl) (fun _ _ _ h => h) (.inl ⟨by kernel_rfl, fun w9 h9 => by
                        clear hHeld h9
                        go_simp <;> (intro hcj; exfalso; omega)⟩) hHeld ?_
                      refine takeU (i := 4) (some 63) (.slice (some ⟨rblk, roff, none⟩) R.length rc) (by kernel_rfl) (by kernel_rfl) (by kernel_rfl) (by kernel_rfl) (by kernel_rfl) (fun _ => by kernel_rfl) (fun _ _ _ h => h) hHeld ?_
                      refine takeU (i := 5) (some 64) (.int .i64 i) (by kernel_rfl) (by kernel_rfl) (by kernel_rfl) (by kernel_rfl) (by kernel_rfl) (fun _ => by kernel_rfl) (fun _ _ _ h => h) hHeld ?_
                      refine wpAnyH_take (i := 6) (oi := { dst := some 65, op := Go.Op.indexAddr 25 (Go.Operand.tmp 63) (Go.Operand.tmp 64), type := 0, pos := "ref.go:321", after := #[{ on := 4, ground := Go.Ground.data }, { on := 5, ground := Go.Ground.data }], guard := none }) (v := .pointer (some ⟨rblk, roff + i * 9, none⟩)) rfl (by kernel_rfl) (by kernel_rfl) (by kernel_rfl) (fun _ _ _ h => h) (.inl ⟨by kernel_rfl, fun w9 h9 => by
                        clear hHeld h9
                        go_simp⟩) hHeld ?_
                      refine takeU (i := 7) (some 66) (.pointer (some ⟨rblk, roff + i * 9, none⟩)) (by kernel_rfl) (by kernel_rfl) (by kernel_rfl) (by kernel_rfl) (by kernel_rfl) (fun _ => by kernel_rfl) (fun _ _ _ h => h) hHeld ?_
                      refine wpAnyH_take (i := 8) (oi := { dst := some 67, op := Go.Op.load 3 (Go.Operand.tmp 66), type := 3, pos := "ref.go:321", after := #[{ on := 7, ground := Go.Ground.data }], guard := none }) (v := .int .i64 nn) rfl (by kernel_rfl) (by kernel_rfl) (by kernel_rfl) (fun _ _ _ h => h) (.inl ⟨by kernel_rfl, fun w9 h9 => by
                        clear hHeld
                        have d0 := (h9.cell (p := ⟨rblk, roff + i * 9, none⟩) hzr).trans n0c
                        clear h9
                        go_simp⟩) hHeld ?_
                      refine takeU (i := 9) (some 68) (.slice (some ⟨cblk, coff, none⟩) (cdL CD).length cc) (by kernel_rfl) (by kernel_rfl) (by kernel_rfl) (by kernel_rfl) (by kernel_rfl) (fun _ => by kernel_rfl) (fun _ _ _ h => h) hHeld ?_
                      refine takeU (i := 10) (some 69) (.int .i64 0) (by kernel_rfl) (by kernel_rfl) (by kernel_rfl) (by kernel_rfl) (by kernel_rfl) (fun _ => by kernel_rfl) (fun _ _ _ h => h) hHeld ?_
                      refine wpAnyH_take (i := 11) (oi := { dst := some 70, op := Go.Op.indexAddr 22 (Go.Operand.tmp 68) (Go.Operand.tmp 69), type := 0, pos := "ref.go:321", after := #[{ on := 9, ground := Go.Ground.data }, { on := 10, ground := Go.Ground.data }], guard := none }) (v := .pointer (some ⟨cblk, coff, none⟩)) rfl (by kernel_rfl) (by kernel_rfl) (by kernel_rfl) (fun _ _ _ h => h) (.inl ⟨by kernel_rfl, fun w9 h9 => by
                        clear hHeld h9
                        go_simp⟩) hHeld ?_
                      refine wpAnyH_take (i := 12) (oi := { dst := some 71, op := Go.Op.load 3 (Go.Operand.tmp 70), type := 3, pos := "ref.go:321", after := #[{ on := 11, ground := Go.Ground.data }], guard := none }) (v := .int .i64 CD) rfl (by kernel_rfl) (by kernel_rfl) (by kernel_rfl) (fun _ _ _ h => h) (.inl ⟨by kernel_rfl, fun w9 h9 => by
                        clear hHeld
                        have d0 := (h9.cell (p := ⟨cblk, coff, none⟩) hzc).trans cc0
                        clear h9
                        go_simp⟩) hHeld ?_
                      refine takeU (i := 13) (some 72) (.agg #[.int .i64 nn, .int .i64 CD]) (by kernel_rfl) (by kernel_rfl) (by kernel_rfl) (by kernel_rfl) (by kernel_rfl) (fun _ => by kernel_rfl) (fun _ _ _ h => h) hHeld ?_
                      refine takeU (i := 15) (some 74) (.slice none O1.length cv) (by kernel_rfl) (by kernel_rfl) (by kernel_rfl) (by kernel_rfl) (by kernel_rfl) (fun _ => by kernel_rfl) (fun _ _ _ h => h) hHeld ?_
                      refine takeU (i := 16) (some 75) (.int .i64 0) (by kernel_rfl) (by kernel_rfl) (by kernel_rfl) (by kernel_rfl) (by kernel_rfl) (fun _ => by kernel_rfl) (fun _ _ _ h => h) hHeld ?_
                      refine wpAnyH_take (i := 17) (oi := { dst := some 76, op := Go.Op.slice 54 (Go.Operand.tmp 74) (some (Go.Operand.tmp 75)) none none, type := 54, pos := "ref.go:321", after := #[{ on := 15, ground := Go.Ground.data }, { on := 16, ground := Go.Ground.data }], guard := none }) (v := .slice none O1.length cv) rfl (by kernel_rfl) (by kernel_rfl) (by kernel_rfl) (fun _ _ _ h => h) (.inl ⟨by kernel_rfl, fun w9 h9 => by
                        clear hHeld h9
                        go_simp <;> (intro hcj; exfalso; omega)⟩) hHeld ?_
                      try simp only [Act.put, List.setIfInBounds_toArray, List.set_cons_zero, List.set_cons_succ]
                      refine wpAnyH_ready (rs := [14]) (by kernel_rfl) (by simp) ?_
                      refine AllReadyH.cons (o := { dst := some 73, op := Go.Op.buildSlice 54 1 #[(0, Go.Operand.tmp 72)], type := 54, pos := "ref.go:321", after := #[{ on := 13, ground := Go.Ground.data }], guard := none }) rfl (fun K hK => ?_) AllReadyH.nil
                      go_simp
                      refine hK.out _ _ (hHeld.alloc (Nat.le_refl _) _) (fun hHeld => ?_)
                      clear hK K
                      try simp only [Act.put, List.setIfInBounds_toArray, List.set_cons_zero, List.set_cons_succ]
                      try simp only [Act.put, List.setIfInBounds_toArray, List.set_cons_zero, List.set_cons_succ]
                      refine wpAnyH_ready (rs := [18]) (by kernel_rfl) (by simp) ?_
                      refine AllReadyH.cons (o := { dst := some 77, op := Go.Op.call { callee := Go.Callee.builtin Go.Builtin.append, args := #[Go.Operand.tmp 73, Go.Operand.tmp 76], argTypes := #[54, 54] }, type := 54, pos := "ref.go:321", after := #[{ on := 14, ground := Go.Ground.data }, { on := 17, ground := Go.Ground.data }], guard := none }) rfl (fun K hK => ?_) AllReadyH.nil
                      have hown0 : (ws.drew.alloc (.cells #[.int .i64 nn, .int .i64 CD] 111)).ownsRow ws.heap.size 111 2 (.slice (some ⟨ws.heap.size, 0, none⟩) 1 1) 1 [.int .i64 nn, .int .i64 CD] := ⟨rfl, .inr ⟨ws.heap.size, 1, #[.int .i64 nn, .int .i64 CD], rfl, Nat.le_refl _, heap_alloc_new _ _, Nat.le_refl 1, by decide, rfl, rfl⟩⟩
                      refine stepZ (by rfl) _ _ 54 (by rfl) ws.heap.size 111 n0 2 Tryz.underlying54 hi (.slice (some ⟨ws.heap.size, 0, none⟩) 1 1) 1 [.int .i64 nn, .int .i64 CD] (by rfl) hown0 none O1.length cv (by rfl) (by have := HE0.out; omega) ?_
                      refine hK.out _ _ hHeld (fun hHeld => ?_)
                      clear hK K
                      try simp only [Act.put, List.setIfInBounds_toArray, List.set_cons_zero, List.set_cons_succ]
                      try simp only [Act.put, List.setIfInBounds_toArray, List.set_cons_zero, List.set_cons_succ]
                      refine wpAnyH_ready (rs := [19]) (by kernel_rfl) (by simp) ?_
                      refine AllReadyH.cons (o := { dst := some 78, op := Go.Op.call { callee := Go.Callee.builtin Go.Builtin.append, args := #[Go.Operand.tmp 62, Go.Operand.tmp 77], argTypes := #[54, 54] }, type := 54, pos := "ref.go:321", after := #[{ on := 3, ground := Go.Ground.data }, { on := 18, ground := Go.Ground.data }, { on := 18, ground := Go.Ground.chain }], guard := none }) rfl (fun K hK => ?_) AllReadyH.nil
                      refine step_append_grows (by rfl) _ _ 54 (by rfl) 111 n0 _ 2 16 Tryz.underlying54 hi hz0 hz1 hz2 rfl (by decide) none 0 0 (cl2 (O1.take 0)) (by rfl) (fun _ => ⟨rfl, rfl⟩) (by rw [cl2_len, List.length_take]; omega) (fun b hb => by cases hb) ⟨ws.heap.size, 0, none⟩ 1 1 [.int .i64 nn, .int .i64 CD] (by rfl) hown0.1 (fun j9 u hu => by
                        have hjl : j9 < 1 * 2 := by rw [← hown0.1]; exact (List.getElem?_eq_some_iff.1 hu).1
                        rw [Addr.add_lit, Nat.zero_add]; exact (World.ownsRow.cellAt hown0 j9 hjl).trans hu) (by exact cl2_one [(nn, CD)]) (by omega) (by unfold maxLen; omega) (by omega) ?_
                      intro v7 w7 hown7 hgrow7
                      obtain ⟨g7, c7, rfl, hg7, hl7⟩ := World.ownsRow.form hown7 (by omega)
                      have HO7 := Lib.hid (owns_baseI hown7 (base' := wo.heap.size) (Nat.le_trans hsB hHeld.size))
                      refine hK.out _ _ (hHeld.grown hgrow7 hHeld.size (fun z hz => by cases hz)) (fun hHeld => ?_)
                      clear hK K hown7 hgrow7
                      try simp only [Act.put, List.setIfInBounds_toArray, List.set_cons_zero, List.set_cons_succ]
                      refine takeU (i := 20) (some 7) (.slice (some ⟨g7, 0, none⟩) (0 + 1) c7) (by kernel_rfl) (by kernel_rfl) (by kernel_rfl) (by kernel_rfl) (by kernel_rfl) (fun _ => by kernel_rfl) (fun _ _ _ h => h) hHeld ?_
                      refine wpAnyH_done (by kernel_rfl) ?_ _
                      try simp only [Act.put, List.setIfInBounds_toArray, List.set_cons_zero, List.set_cons_succ]
                      have HL7 : Hid (0 + 1 = E1.length) := Lib.hid (by have := HE0.out; rw [HN2.out, List.length_append, List.length_cons, List.length_take, List.length_drop]; omega)
                      have HC7 : Hid (cl2 (O1.take 0) ++ [.int .i64 nn, .int .i64 CD] = cl2 E1) := Lib.hid (by have := HE0.out; rw [HN2.out, cl2_app, List.drop_of_length_le (by omega)]; rfl)
                      rw [HL7.out, HC7.out] at HO7
                      have hbz := hbi4.trans (hHeld.mono hbi4.size)
                      go_wp2_with fail
                      go_roundw
                      case rel => exact ⟨1, by omega, by go_num, ⟨some ⟨g7, 0, none⟩, c7, by rw [HE1.out, HL7.out]⟩, Lib.hid (by rw [HE1.out]; first | exact HO7.out | (rw [HL7.out]; exact HO7.out)), hbz⟩
                      case measure => simp [intOf]; omega
                    · obtain ⟨rfl, rfl⟩ : av = some ⟨g, 0, none⟩ ∧ cv = c2 := by simpa using h1
                      have hgz : g < ws.heap.size := (Array.getElem?_eq_some_iff.1 hg2).1
                      have hcc : O1.length ≤ cv ∧ cv ≤ 9223372036854775807 := by
                        rcases HRs.out.2 with ⟨h1, h2⟩ | ⟨g2, c2, cur, h1, hg1, hg2, hnc, hcm, _⟩
                        · cases h1
                        · obtain ⟨rfl, rfl⟩ : g = g2 ∧ cv = c2 := by simpa using h1
                          unfold maxLen at hcm; omega
                      clear h1 hg1 hg2 hnc hcm
                      by_cases hj0 : j = 0
                      · subst hj0
                        by_cases hE0 : O1.length = 0
                        · have HE0 := Lib.hid hE0
                          clear hE0
                          refine wp_region_held_drew (S := fun w' => Below ws.heap.size ws w') (by kernel_rfl) ((Below.refl _ _).drew) (fun hHeld => ?_)
                          refine takeU (i := 0) (some 59) (.slice (some ⟨g, 0, none⟩) O1.length cv) (by kernel_rfl) (by kernel_rfl) (by kernel_rfl) (by kernel_rfl) (by kernel_rfl) (fun _ => by kernel_rfl) (fun _ _ _ h => h) hHeld ?_
                          refine takeU (i := 1) (some 60) (.int .i64 0) (by kernel_rfl) (by kernel_rfl) (by kernel_rfl) (by kernel_rfl) (by kernel_rfl) (fun _ => by kernel_rfl) (fun _ _ _ h => h) hHeld ?_
                          refine takeU (i := 2) (some 61) (.int .i64 0) (by kernel_rfl) (by kernel_rfl) (by kernel_rfl) (by kernel_rfl) (by kernel_rfl) (fun _ => by kernel_rfl) (fun _ _ _ h => h) hHeld ?_
                          refine wpAnyH_take (i := 3) (oi := { dst := some 62, op := Go.Op.slice 54 (Go.Operand.tmp 59) none (some (Go.Operand.tmp 60)) (some (Go.Operand.tmp 61)), type := 54, pos := "ref.go:321", after := #[{ on := 0, ground := Go.Ground.data }, { on := 1, ground := Go.Ground.data }, { on := 2, ground := Go.Ground.data }], guard := none }) (v := .slice (some ⟨g, 0, none⟩) 0 0) rfl (by kernel_rfl) (by kernel_rfl) (by kernel_rfl) (fun _ _ _ h => h) (.inl ⟨by kernel_rfl, fun w9 h9 => by
                            clear hHeld h9
                            go_simp <;> (intro hcj; exfalso; omega)⟩) hHeld ?_
                          refine takeU (i := 4) (some 63) (.slice (some ⟨rblk, roff, none⟩) R.length rc) (by kernel_rfl) (by kernel_rfl) (by kernel_rfl) (by kernel_rfl) (by kernel_rfl) (fun _ => by kernel_rfl) (fun _ _ _ h => h) hHeld ?_
                          refine takeU (i := 5) (some 64) (.int .i64 i) (by kernel_rfl) (by kernel_rfl) (by kernel_rfl) (by kernel_rfl) (by kernel_rfl) (fun _ => by kernel_rfl) (fun _ _ _ h => h) hHeld ?_
                          refine wpAnyH_take (i := 6) (oi := { dst := some 65, op := Go.Op.indexAddr 25 (Go.Operand.tmp 63) (Go.Operand.tmp 64), type := 0, pos := "ref.go:321", after := #[{ on := 4, ground := Go.Ground.data }, { on := 5, ground := Go.Ground.data }], guard := none }) (v := .pointer (some ⟨rblk, roff + i * 9, none⟩)) rfl (by kernel_rfl) (by kernel_rfl) (by kernel_rfl) (fun _ _ _ h => h) (.inl ⟨by kernel_rfl, fun w9 h9 => by
                            clear hHeld h9
                            go_simp⟩) hHeld ?_
                          refine takeU (i := 7) (some 66) (.pointer (some ⟨rblk, roff + i * 9, none⟩)) (by kernel_rfl) (by kernel_rfl) (by kernel_rfl) (by kernel_rfl) (by kernel_rfl) (fun _ => by kernel_rfl) (fun _ _ _ h => h) hHeld ?_
                          refine wpAnyH_take (i := 8) (oi := { dst := some 67, op := Go.Op.load 3 (Go.Operand.tmp 66), type := 3, pos := "ref.go:321", after := #[{ on := 7, ground := Go.Ground.data }], guard := none }) (v := .int .i64 nn) rfl (by kernel_rfl) (by kernel_rfl) (by kernel_rfl) (fun _ _ _ h => h) (.inl ⟨by kernel_rfl, fun w9 h9 => by
                            clear hHeld
                            have d0 := (h9.cell (p := ⟨rblk, roff + i * 9, none⟩) hzr).trans n0c
                            clear h9
                            go_simp⟩) hHeld ?_
                          refine takeU (i := 9) (some 68) (.slice (some ⟨cblk, coff, none⟩) (cdL CD).length cc) (by kernel_rfl) (by kernel_rfl) (by kernel_rfl) (by kernel_rfl) (by kernel_rfl) (fun _ => by kernel_rfl) (fun _ _ _ h => h) hHeld ?_
                          refine takeU (i := 10) (some 69) (.int .i64 0) (by kernel_rfl) (by kernel_rfl) (by kernel_rfl) (by kernel_rfl) (by kernel_rfl) (fun _ => by kernel_rfl) (fun _ _ _ h => h) hHeld ?_
                          refine wpAnyH_take (i := 11) (oi := { dst := some 70, op := Go.Op.indexAddr 22 (Go.Operand.tmp 68) (Go.Operand.tmp 69), type := 0, pos := "ref.go:321", after := #[{ on := 9, ground := Go.Ground.data }, { on := 10, ground := Go.Ground.data }], guard := none }) (v := .pointer (some ⟨cblk, coff, none⟩)) rfl (by kernel_rfl) (by kernel_rfl) (by kernel_rfl) (fun _ _ _ h => h) (.inl ⟨by kernel_rfl, fun w9 h9 => by
                            clear hHeld h9
                            go_simp⟩) hHeld ?_
                          refine wpAnyH_take (i := 12) (oi := { dst := some 71, op := Go.Op.load 3 (Go.Operand.tmp 70), type := 3, pos := "ref.go:321", after := #[{ on := 11, ground := Go.Ground.data }], guard := none }) (v := .int .i64 CD) rfl (by kernel_rfl) (by kernel_rfl) (by kernel_rfl) (fun _ _ _ h => h) (.inl ⟨by kernel_rfl, fun w9 h9 => by
                            clear hHeld
                            have d0 := (h9.cell (p := ⟨cblk, coff, none⟩) hzc).trans cc0
                            clear h9
                            go_simp⟩) hHeld ?_
                          refine takeU (i := 13) (some 72) (.agg #[.int .i64 nn, .int .i64 CD]) (by kernel_rfl) (by kernel_rfl) (by kernel_rfl) (by kernel_rfl) (by kernel_rfl) (fun _ => by kernel_rfl) (fun _ _ _ h => h) hHeld ?_
                          refine takeU (i := 15) (some 74) (.slice (some ⟨g, 0, none⟩) O1.length cv) (by kernel_rfl) (by kernel_rfl) (by kernel_rfl) (by kernel_rfl) (by kernel_rfl) (fun _ => by kernel_rfl) (fun _ _ _ h => h) hHeld ?_
                          refine takeU (i := 16) (some 75) (.int .i64 0) (by kernel_rfl) (by kernel_rfl) (by kernel_rfl) (by kernel_rfl) (by kernel_rfl) (fun _ => by kernel_rfl) (fun _ _ _ h => h) hHeld ?_
                          refine wpAnyH_take (i := 17) (oi := { dst := some 76, op := Go.Op.slice 54 (Go.Operand.tmp 74) (some (Go.Operand.tmp 75)) none none, type := 54, pos := "ref.go:321", after := #[{ on := 15, ground := Go.Ground.data }, { on := 16, ground := Go.Ground.data }], guard := none }) (v := .slice (some ⟨g, 0, none⟩) O1.length cv) rfl (by kernel_rfl) (by kernel_rfl) (by kernel_rfl) (fun _ _ _ h => h) (.inl ⟨by kernel_rfl, fun w9 h9 => by
                            clear hHeld h9
                            go_simp <;> (intro hcj; exfalso; omega)⟩) hHeld ?_
                          try simp only [Act.put, List.setIfInBounds_toArray, List.set_cons_zero, List.set_cons_succ]
                          refine wpAnyH_ready (rs := [14]) (by kernel_rfl) (by simp) ?_
                          refine AllReadyH.cons (o := { dst := some 73, op := Go.Op.buildSlice 54 1 #[(0, Go.Operand.tmp 72)], type := 54, pos := "ref.go:321", after := #[{ on := 13, ground := Go.Ground.data }], guard := none }) rfl (fun K hK => ?_) AllReadyH.nil
                          go_simp
                          refine hK.out _ _ (hHeld.alloc (Nat.le_refl _) _) (fun hHeld => ?_)
                          clear hK K
                          try simp only [Act.put, List.setIfInBounds_toArray, List.set_cons_zero, List.set_cons_succ]
                          try simp only [Act.put, List.setIfInBounds_toArray, List.set_cons_zero, List.set_cons_succ]
                          refine wpAnyH_ready (rs := [18]) (by kernel_rfl) (by simp) ?_
                          refine AllReadyH.cons (o := { dst := some 77, op := Go.Op.call { callee := Go.Callee.builtin Go.Builtin.append, args := #[Go.Operand.tmp 73, Go.Operand.tmp 76], argTypes := #[54, 54] }, type := 54, pos := "ref.go:321", after := #[{ on := 14, ground := Go.Ground.data }, { on := 17, ground := Go.Ground.data }], guard := none }) rfl (fun K hK => ?_) AllReadyH.nil
                          have hown0 : (ws.drew.alloc (.cells #[.int .i64 nn, .int .i64 CD] 111)).ownsRow ws.heap.size 111 2 (.slice (some ⟨ws.heap.size, 0, none⟩) 1 1) 1 [.int .i64 nn, .int .i64 CD] := ⟨rfl, .inr ⟨ws.heap.size, 1, #[.int .i64 nn, .int .i64 CD], rfl, Nat.le_refl _, heap_alloc_new _ _, Nat.le_refl 1, by decide, rfl, rfl⟩⟩
                          refine stepZ (by rfl) _ _ 54 (by rfl) ws.heap.size 111 n0 2 Tryz.underlying54 hi (.slice (some ⟨ws.heap.size, 0, none⟩) 1 1) 1 [.int .i64 nn, .int .i64 CD] (by rfl) hown0 (some ⟨g, 0, none⟩) O1.length cv (by rfl) (by have := HE0.out; omega) ?_
                          refine hK.out _ _ hHeld (fun hHeld => ?_)
                          clear hK K
                          try simp only [Act.put, List.setIfInBounds_toArray, List.set_cons_zero, List.set_cons_succ]
                          try simp only [Act.put, List.setIfInBounds_toArray, List.set_cons_zero, List.set_cons_succ]
                          refine wpAnyH_ready (rs := [19]) (by kernel_rfl) (by simp) ?_
                          refine AllReadyH.cons (o := { dst := some 78, op := Go.Op.call { callee := Go.Callee.builtin Go.Builtin.append, args := #[Go.Operand.tmp 62, Go.Operand.tmp 77], argTypes := #[54, 54] }, type := 54, pos := "ref.go:321", after := #[{ on := 3, ground := Go.Ground.data }, { on := 18, ground := Go.Ground.data }, { on := 18, ground := Go.Ground.chain }], guard := none }) rfl (fun K hK => ?_) AllReadyH.nil
                          refine step_append_grows (by rfl) _ _ 54 (by rfl) 111 n0 _ 2 16 Tryz.underlying54 hi hz0 hz1 hz2 rfl (by decide) (some ⟨g, 0, none⟩) 0 0 (cl2 (O1.take 0)) (by rfl) (fun e => by cases e) (by rw [cl2_len, List.length_take]; omega) (fun b hb j9 u hu => by simp [cl2] at hu) ⟨ws.heap.size, 0, none⟩ 1 1 [.int .i64 nn, .int .i64 CD] (by rfl) hown0.1 (fun j9 u hu => by
                            have hjl : j9 < 1 * 2 := by rw [← hown0.1]; exact (List.getElem?_eq_some_iff.1 hu).1
                            rw [Addr.add_lit, Nat.zero_add]; exact (World.ownsRow.cellAt hown0 j9 hjl).trans hu) (by exact cl2_one [(nn, CD)]) (by omega) (by unfold maxLen; omega) (by omega) ?_
                          intro v7 w7 hown7 hgrow7
                          obtain ⟨g7, c7, rfl, hg7, hl7⟩ := World.ownsRow.form hown7 (by omega)
                          have HO7 := Lib.hid (owns_baseI hown7 (base' := wo.heap.size) (Nat.le_trans hsB hHeld.size))
                          refine hK.out _ _ (hHeld.grown hgrow7 hHeld.size (fun z hz => by cases hz)) (fun hHeld => ?_)
                          clear hK K hown7 hgrow7
                          try simp only [Act.put, List.setIfInBounds_toArray, List.set_cons_zero, List.set_cons_succ]
                          refine takeU (i := 20) (some 7) (.slice (some ⟨g7, 0, none⟩) (0 + 1) c7) (by kernel_rfl) (by kernel_rfl) (by kernel_rfl) (by kernel_rfl) (by kernel_rfl) (fun _ => by kernel_rfl) (fun _ _ _ h => h) hHeld ?_
                          refine wpAnyH_done (by kernel_rfl) ?_ _
                          try simp only [Act.put, List.setIfInBounds_toArray, List.set_cons_zero, List.set_cons_succ]
                          have HL7 : Hid (0 + 1 = E1.length) := Lib.hid (by have := HE0.out; rw [HN2.out, List.length_append, List.length_cons, List.length_take, List.length_drop]; omega)
                          have HC7 : Hid (cl2 (O1.take 0) ++ [.int .i64 nn, .int .i64 CD] = cl2 E1) := Lib.hid (by have := HE0.out; rw [HN2.out, cl2_app, List.drop_of_length_le (by omega)]; rfl)
                          rw [HL7.out, HC7.out] at HO7
                          have hbz := hbi4.trans (hHeld.mono hbi4.size)
                          go_wp2_with fail
                          go_roundw
                          case rel => exact ⟨1, by omega, by go_num, ⟨some ⟨g7, 0, none⟩, c7, by rw [HE1.out, HL7.out]⟩, Lib.hid (by rw [HE1.out]; first | exact HO7.out | (rw [HL7.out]; exact HO7.out)), hbz⟩
                          case measure => simp [intOf]; omega
                        · have HE0 := Lib.hid hE0
                          clear hE0
                          refine wp_region_held_drew (S := fun w' => Below ws.heap.size ws w') (by kernel_rfl) ((Below.refl _ _).drew) (fun hHeld => ?_)
                          refine takeU (i := 0) (some 59) (.slice (some ⟨g, 0, none⟩) O1.length cv) (by kernel_rfl) (by kernel_rfl) (by kernel_rfl) (by kernel_rfl) (by kernel_rfl) (fun _ => by kernel_rfl) (fun _ _ _ h => h) hHeld ?_
                          refine takeU (i := 1) (some 60) (.int .i64 0) (by kernel_rfl) (by kernel_rfl) (by kernel_rfl) (by kernel_rfl) (by kernel_rfl) (fun _ => by kernel_rfl) (fun _ _ _ h => h) hHeld ?_
                          refine takeU (i := 2) (some 61) (.int .i64 0) (by kernel_rfl) (by kernel_rfl) (by kernel_rfl) (by kernel_rfl) (by kernel_rfl) (fun _ => by kernel_rfl) (fun _ _ _ h => h) hHeld ?_
                          refine wpAnyH_take (i := 3) (oi := { dst := some 62, op := Go.Op.slice 54 (Go.Operand.tmp 59) none (some (Go.Operand.tmp 60)) (some (Go.Operand.tmp 61)), type := 54, pos := "ref.go:321", after := #[{ on := 0, ground := Go.Ground.data }, { on := 1, ground := Go.Ground.data }, { on := 2, ground := Go.Ground.data }], guard := none }) (v := .slice (some ⟨g, 0, none⟩) 0 0) rfl (by kernel_rfl) (by kernel_rfl) (by kernel_rfl) (fun _ _ _ h => h) (.inl ⟨by kernel_rfl, fun w9 h9 => by
                            clear hHeld h9
                            go_simp <;> (intro hcj; exfalso; omega)⟩) hHeld ?_
                          refine takeU (i := 4) (some 63) (.slice (some ⟨rblk, roff, none⟩) R.length rc) (by kernel_rfl) (by kernel_rfl) (by kernel_rfl) (by kernel_rfl) (by kernel_rfl) (fun _ => by kernel_rfl) (fun _ _ _ h => h) hHeld ?_
                          refine takeU (i := 5) (some 64) (.int .i64 i) (by kernel_rfl) (by kernel_rfl) (by kernel_rfl) (by kernel_rfl) (by kernel_rfl) (fun _ => by kernel_rfl) (fun _ _ _ h => h) hHeld ?_
                          refine wpAnyH_take (i := 6) (oi := { dst := some 65, op := Go.Op.indexAddr 25 (Go.Operand.tmp 63) (Go.Operand.tmp 64), type := 0, pos := "ref.go:321", after := #[{ on := 4, ground := Go.Ground.data }, { on := 5, ground := Go.Ground.data }], guard := none }) (v := .pointer (some ⟨rblk, roff + i * 9, none⟩)) rfl (by kernel_rfl) (by kernel_rfl) (by kernel_rfl) (fun _ _ _ h => h) (.inl ⟨by kernel_rfl, fun w9 h9 => by
                            clear hHeld h9
                            go_simp⟩) hHeld ?_
                          refine takeU (i := 7) (some 66) (.pointer (some ⟨rblk, roff + i * 9, none⟩)) (by kernel_rfl) (by kernel_rfl) (by kernel_rfl) (by kernel_rfl) (by kernel_rfl) (fun _ => by kernel_rfl) (fun _ _ _ h => h) hHeld ?_
                          refine wpAnyH_take (i := 8) (oi := { dst := some 67, op := Go.Op.load 3 (Go.Operand.tmp 66), type := 3, pos := "ref.go:321", after := #[{ on := 7, ground := Go.Ground.data }], guard := none }) (v := .int .i64 nn) rfl (by kernel_rfl) (by kernel_rfl) (by kernel_rfl) (fun _ _ _ h => h) (.inl ⟨by kernel_rfl, fun w9 h9 => by
                            clear hHeld
                            have d0 := (h9.cell (p := ⟨rblk, roff + i * 9, none⟩) hzr).trans n0c
                            clear h9
                            go_simp⟩) hHeld ?_
                          refine takeU (i := 9) (some 68) (.slice (some ⟨cblk, coff, none⟩) (cdL CD).length cc) (by kernel_rfl) (by kernel_rfl) (by kernel_rfl) (by kernel_rfl) (by kernel_rfl) (fun _ => by kernel_rfl) (fun _ _ _ h => h) hHeld ?_
                          refine takeU (i := 10) (some 69) (.int .i64 0) (by kernel_rfl) (by kernel_rfl) (by kernel_rfl) (by kernel_rfl) (by kernel_rfl) (fun _ => by kernel_rfl) (fun _ _ _ h => h) hHeld ?_
                          refine wpAnyH_take (i := 11) (oi := { dst := some 70, op := Go.Op.indexAddr 22 (Go.Operand.tmp 68) (Go.Operand.tmp 69), type := 0, pos := "ref.go:321", after := #[{ on := 9, ground := Go.Ground.data }, { on := 10, ground := Go.Ground.data }], guard := none }) (v := .pointer (some ⟨cblk, coff, none⟩)) rfl (by kernel_rfl) (by kernel_rfl) (by kernel_rfl) (fun _ _ _ h => h) (.inl ⟨by kernel_rfl, fun w9 h9 => by
                            clear hHeld h9
                            go_simp⟩) hHeld ?_
                          refine wpAnyH_take (i := 12) (oi := { dst := some 71, op := Go.Op.load 3 (Go.Operand.tmp 70), type := 3, pos := "ref.go:321", after := #[{ on := 11, ground := Go.Ground.data }], guard := none }) (v := .int .i64 CD) rfl (by kernel_rfl) (by kernel_rfl) (by kernel_rfl) (fun _ _ _ h => h) (.inl ⟨by kernel_rfl, fun w9 h9 => by
                            clear hHeld
                            have d0 := (h9.cell (p := ⟨cblk, coff, none⟩) hzc).trans cc0
                            clear h9
                            go_simp⟩) hHeld ?_
                          refine takeU (i := 13) (some 72) (.agg #[.int .i64 nn, .int .i64 CD]) (by kernel_rfl) (by kernel_rfl) (by kernel_rfl) (by kernel_rfl) (by kernel_rfl) (fun _ => by kernel_rfl) (fun _ _ _ h => h) hHeld ?_
                          refine takeU (i := 15) (some 74) (.slice (some ⟨g, 0, none⟩) O1.length cv) (by kernel_rfl) (by kernel_rfl) (by kernel_rfl) (by kernel_rfl) (by kernel_rfl) (fun _ => by kernel_rfl) (fun _ _ _ h => h) hHeld ?_
                          refine takeU (i := 16) (some 75) (.int .i64 0) (by kernel_rfl) (by kernel_rfl) (by kernel_rfl) (by kernel_rfl) (by kernel_rfl) (fun _ => by kernel_rfl) (fun _ _ _ h => h) hHeld ?_
                          refine wpAnyH_take (i := 17) (oi := { dst := some 76, op := Go.Op.slice 54 (Go.Operand.tmp 74) (some (Go.Operand.tmp 75)) none none, type := 54, pos := "ref.go:321", after := #[{ on := 15, ground := Go.Ground.data }, { on := 16, ground := Go.Ground.data }], guard := none }) (v := .slice (some ⟨g, 0, none⟩) O1.length cv) rfl (by kernel_rfl) (by kernel_rfl) (by kernel_rfl) (fun _ _ _ h => h) (.inl ⟨by kernel_rfl, fun w9 h9 => by
                            clear hHeld h9
                            go_simp <;> (intro hcj; exfalso; omega)⟩) hHeld ?_
                          try simp only [Act.put, List.setIfInBounds_toArray, List.set_cons_zero, List.set_cons_succ]
                          refine wpAnyH_ready (rs := [14]) (by kernel_rfl) (by simp) ?_
                          refine AllReadyH.cons (o := { dst := some 73, op := Go.Op.buildSlice 54 1 #[(0, Go.Operand.tmp 72)], type := 54, pos := "ref.go:321", after := #[{ on := 13, ground := Go.Ground.data }], guard := none }) rfl (fun K hK => ?_) AllReadyH.nil
                          go_simp
                          refine hK.out _ _ (hHeld.alloc (Nat.le_refl _) _) (fun hHeld => ?_)
                          clear hK K
                          try simp only [Act.put, List.setIfInBounds_toArray, List.set_cons_zero, List.set_cons_succ]
                          try simp only [Act.put, List.setIfInBounds_toArray, List.set_cons_zero, List.set_cons_succ]
                          refine wpAnyH_ready (rs := [18]) (by kernel_rfl) (by simp) ?_
                          refine AllReadyH.cons (o := { dst := some 77, op := Go.Op.call { callee := Go.Callee.builtin Go.Builtin.append, args := #[Go.Operand.tmp 73, Go.Operand.tmp 76], argTypes := #[54, 54] }, type := 54, pos := "ref.go:321", after := #[{ on := 14, ground := Go.Ground.data }, { on := 17, ground := Go.Ground.data }], guard := none }) rfl (fun K hK => ?_) AllReadyH.nil
                          have hown0 : (ws.drew.alloc (.cells #[.int .i64 nn, .int .i64 CD] 111)).ownsRow ws.heap.size 111 2 (.slice (some ⟨ws.heap.size, 0, none⟩) 1 1) 1 [.int .i64 nn, .int .i64 CD] := ⟨rfl, .inr ⟨ws.heap.size, 1, #[.int .i64 nn, .int .i64 CD], rfl, Nat.le_refl _, heap_alloc_new _ _, Nat.le_refl 1, by decide, rfl, rfl⟩⟩
                          have hnw : ∀ (j9 : Nat) (u : Value), (cl2 (O1.drop 0))[j9]? = some u → (ws.drew.alloc (.cells #[.int .i64 nn, .int .i64 CD] 111)).cell? ((⟨g, 0, none⟩ : Addr).add j9) = some u := fun j9 u hu => by
                            have hjl : j9 < (O1.length - 0) * 2 := by
                              have := (List.getElem?_eq_some_iff.1 hu).1
                              rw [cl2_len, List.length_drop] at this
                              exact this
                            rw [← cl2_drop, List.getElem?_drop] at hu
                            rw [Addr.add_lit]
                            refine (hHeld.cell (p := ⟨g, 0 + j9, none⟩) hgz).trans ?_
                            have h9 := World.ownsRow.cellAt HRs.out (0 * 2 + j9) (by have := HE0.out; omega)
                            rw [Nat.zero_mul] at h9 hu
                            exact h9.trans hu
                          refine step_append_lies _ (by rfl) _ _ _ (by rfl) ws.heap.size 111 n0 _ 2 16 Tryz.underlying54 hi hz0 hz1 hz2 rfl (by decide) (.slice (some ⟨ws.heap.size, 0, none⟩) 1 1) 1 [.int .i64 nn, .int .i64 CD] (by rfl) hown0 ⟨g, 0, none⟩ O1.length cv (cl2 (O1.drop 0)) (by rfl) (by rw [cl2_len, List.length_drop] <;> rfl) hnw (cl2_one _) (by have := HE0.out; omega) (by unfold maxLen; omega) (by omega) (by simp) _ rfl ?_
                          intro g6 c6 w6 hown6 hgrow6 hat6 hlt6
                          refine hK.out _ _ (hHeld.grown hgrow6 (by simp) (fun z hz => owns_blockI hown0 hz)) (fun hHeld => ?_)
                          clear hK K hgrow6 hat6 hlt6 hnw
                          try simp only [Act.put, List.setIfInBounds_toArray, List.set_cons_zero, List.set_cons_succ]
                          try simp only [Act.put, List.setIfInBounds_toArray, List.set_cons_zero, List.set_cons_succ]
                          refine wpAnyH_ready (rs := [19]) (by kernel_rfl) (by simp) ?_
                          refine AllReadyH.cons (o := { dst := some 78, op := Go.Op.call { callee := Go.Callee.builtin Go.Builtin.append, args := #[Go.Operand.tmp 62, Go.Operand.tmp 77], argTypes := #[54, 54] }, type := 54, pos := "ref.go:321", after := #[{ on := 3, ground := Go.Ground.data }, { on := 18, ground := Go.Ground.data }, { on := 18, ground := Go.Ground.chain }], guard := none }) rfl (fun K hK => ?_) AllReadyH.nil
                          refine step_append_grows (by rfl) _ _ 54 (by rfl) 111 n0 _ 2 16 Tryz.underlying54 hi hz0 hz1 hz2 rfl (by decide) (some ⟨g, 0, none⟩) 0 0 (cl2 (O1.take 0)) (by rfl) (fun e => by cases e) (by rw [cl2_len, List.length_take]; omega) (fun b hb j9 u hu => by simp [cl2] at hu) ⟨g6, 0, none⟩ (1 + O1.length) c6 ([.int .i64 nn, .int .i64 CD] ++ cl2 (O1.drop 0)) (by rfl) hown6.1 (fun j9 u hu => by
                            have hjl : j9 < (1 + O1.length) * 2 := by rw [← hown6.1]; exact (List.getElem?_eq_some_iff.1 hu).1
                            rw [Addr.add_lit, Nat.zero_add]; exact (World.ownsRow.cellAt hown6 j9 hjl).trans hu) (by exact cl2_one ((nn, CD) :: O1.drop 0)) (by omega) (by unfold maxLen; omega) (by omega) ?_
                          intro v7 w7 hown7 hgrow7
                          obtain ⟨g7, c7, rfl, hg7, hl7⟩ := World.ownsRow.form hown7 (by omega)
                          have HO7 := Lib.hid (owns_baseI hown7 (base' := wo.heap.size) (Nat.le_trans hsB hHeld.size))
                          refine hK.out _ _ (hHeld.grown hgrow7 hHeld.size (fun z hz => by cases hz)) (fun hHeld => ?_)
                          clear hK K hown7 hgrow7
                          try simp only [Act.put, List.setIfInBounds_toArray, List.set_cons_zero, List.set_cons_succ]
                          refine takeU (i := 20) (some 7) (.slice (some ⟨g7, 0, none⟩) (0 + (1 + O1.length)) c7) (by kernel_rfl) (by kernel_rfl) (by kernel_rfl) (by kernel_rfl) (by kernel_rfl) (fun _ => by kernel_rfl) (fun _ _ _ h => h) hHeld ?_
                          refine wpAnyH_done (by kernel_rfl) ?_ _
                          try simp only [Act.put, List.setIfInBounds_toArray, List.set_cons_zero, List.set_cons_succ]
                          have HL7 : Hid (0 + (1 + O1.length) = E1.length) := Lib.hid (by have := HE0.out; rw [HN2.out, List.length_append, List.length_cons, List.length_take, List.length_drop]; omega)
                          have HC7 : Hid (cl2 (O1.take 0) ++ ([.int .i64 nn, .int .i64 CD] ++ cl2 (O1.drop 0)) = cl2 E1) := Lib.hid (by rw [HN2.out, cl2_app]; rfl)
                          rw [HL7.out, HC7.out] at HO7
                          have hbz := hbi4.trans (hHeld.mono hbi4.size)
                          go_wp2_with fail
                          go_roundw
                          case rel => exact ⟨1, by omega, by go_num, ⟨some ⟨g7, 0, none⟩, c7, by rw [HE1.out, HL7.out]⟩, Lib.hid (by rw [HE1.out]; first | exact HO7.out | (rw [HL7.out]; exact HO7.out)), hbz⟩
                          case measure => simp [intOf]; omega
                      · by_cases hE0 : O1.length - j = 0
                        · have HE0 := Lib.hid hE0
                          clear hE0
                          refine wp_region_held_drew (S := fun w' => Below ws.heap.size ws w') (by kernel_rfl) ((Below.refl _ _).drew) (fun hHeld => ?_)
                          refine takeU (i := 0) (some 59) (.slice (some ⟨g, 0, none⟩) O1.length cv) (by kernel_rfl) (by kernel_rfl) (by kernel_rfl) (by kernel_rfl) (by kernel_rfl) (fun _ => by kernel_rfl) (fun _ _ _ h => h) hHeld ?_
                          refine takeU (i := 1) (some 60) (.int .i64 j) (by kernel_rfl) (by kernel_rfl) (by kernel_rfl) (by kernel_rfl) (by kernel_rfl) (fun _ => by kernel_rfl) (fun _ _ _ h => h) hHeld ?_
                          refine takeU (i := 2) (some 61) (.int .i64 j) (by kernel_rfl) (by kernel_rfl) (by kernel_rfl) (by kernel_rfl) (by kernel_rfl) (fun _ => by kernel_rfl) (fun _ _ _ h => h) hHeld ?_
                          refine wpAnyH_take (i := 3) (oi := { dst := some 62, op := Go.Op.slice 54 (Go.Operand.tmp 59) none (some (Go.Operand.tmp 60)) (some (Go.Operand.tmp 61)), type := 54, pos := "ref.go:321", after := #[{ on := 0, ground := Go.Ground.data }, { on := 1, ground := Go.Ground.data }, { on := 2, ground := Go.Ground.data }], guard := none }) (v := .slice (some ⟨g, 0, none⟩) j j) rfl (by kernel_rfl) (by kernel_rfl) (by kernel_rfl) (fun _ _ _ h => h) (.inl ⟨by kernel_rfl, fun w9 h9 => by
                            clear hHeld h9
                            go_simp <;> (intro hcj; exfalso; omega)⟩) hHeld ?_
                          refine takeU (i := 4) (some 63) (.slice (some ⟨rblk, roff, none⟩) R.length rc) (by kernel_rfl) (by kernel_rfl) (by kernel_rfl) (by kernel_rfl) (by kernel_rfl) (fun _ => by kernel_rfl) (fun _ _ _ h => h) hHeld ?_
                          refine takeU (i := 5) (some 64) (.int .i64 i) (by kernel_rfl) (by kernel_rfl) (by kernel_rfl) (by kernel_rfl) (by kernel_rfl) (fun _ => by kernel_rfl) (fun _ _ _ h => h) hHeld ?_
                          refine wpAnyH_take (i := 6) (oi := { dst := some 65, op := Go.Op.indexAddr 25 (Go.Operand.tmp 63) (Go.Operand.tmp 64), type := 0, pos := "ref.go:321", after := #[{ on := 4, ground := Go.Ground.data }, { on := 5, ground := Go.Ground.data }], guard := none }) (v := .pointer (some ⟨rblk, roff + i * 9, none⟩)) rfl (by kernel_rfl) (by kernel_rfl) (by kernel_rfl) (fun _ _ _ h => h) (.inl ⟨by kernel_rfl, fun w9 h9 => by
                            clear hHeld h9
                            go_simp⟩) hHeld ?_
                          refine takeU (i := 7) (some 66) (.pointer (some ⟨rblk, roff + i * 9, none⟩)) (by kernel_rfl) (by kernel_rfl) (by kernel_rfl) (by kernel_rfl) (by kernel_rfl) (fun _ => by kernel_rfl) (fun _ _ _ h => h) hHeld ?_
                          refine wpAnyH_take (i := 8) (oi := { dst := some 67, op := Go.Op.load 3 (Go.Operand.tmp 66), type := 3, pos := "ref.go:321", after := #[{ on := 7, ground := Go.Ground.data }], guard := none }) (v := .int .i64 nn) rfl (by kernel_rfl) (by kernel_rfl) (by kernel_rfl) (fun _ _ _ h => h) (.inl ⟨by kernel_rfl, fun w9 h9 => by
                            clear hHeld
                            have d0 := (h9.cell (p := ⟨rblk, roff + i * 9, none⟩) hzr).trans n0c
                            clear h9
                            go_simp⟩) hHeld ?_
                          refine takeU (i := 9) (some 68) (.slice (some ⟨cblk, coff, none⟩) (cdL CD).length cc) (by kernel_rfl) (by kernel_rfl) (by kernel_rfl) (by kernel_rfl) (by kernel_rfl) (fun _ => by kernel_rfl) (fun _ _ _ h => h) hHeld ?_
                          refine takeU (i := 10) (some 69) (.int .i64 0) (by kernel_rfl) (by kernel_rfl) (by kernel_rfl) (by kernel_rfl) (by kernel_rfl) (fun _ => by kernel_rfl) (fun _ _ _ h => h) hHeld ?_
                          refine wpAnyH_take (i := 11) (oi := { dst := some 70, op := Go.Op.indexAddr 22 (Go.Operand.tmp 68) (Go.Operand.tmp 69), type := 0, pos := "ref.go:321", after := #[{ on := 9, ground := Go.Ground.data }, { on := 10, ground := Go.Ground.data }], guard := none }) (v := .pointer (some ⟨cblk, coff, none⟩)) rfl (by kernel_rfl) (by kernel_rfl) (by kernel_rfl) (fun _ _ _ h => h) (.inl ⟨by kernel_rfl, fun w9 h9 => by
                            clear hHeld h9
                            go_simp⟩) hHeld ?_
                          refine wpAnyH_take (i := 12) (oi := { dst := some 71, op := Go.Op.load 3 (Go.Operand.tmp 70), type := 3, pos := "ref.go:321", after := #[{ on := 11, ground := Go.Ground.data }], guard := none }) (v := .int .i64 CD) rfl (by kernel_rfl) (by kernel_rfl) (by kernel_rfl) (fun _ _ _ h => h) (.inl ⟨by kernel_rfl, fun w9 h9 => by
                            clear hHeld
                            have d0 := (h9.cell (p := ⟨cblk, coff, none⟩) hzc).trans cc0
                            clear h9
                            go_simp⟩) hHeld ?_
                          refine takeU (i := 13) (some 72) (.agg #[.int .i64 nn, .int .i64 CD]) (by kernel_rfl) (by kernel_rfl) (by kernel_rfl) (by kernel_rfl) (by kernel_rfl) (fun _ => by kernel_rfl) (fun _ _ _ h => h) hHeld ?_
                          refine takeU (i := 15) (some 74) (.slice (some ⟨g, 0, none⟩) O1.length cv) (by kernel_rfl) (by kernel_rfl) (by kernel_rfl) (by kernel_rfl) (by kernel_rfl) (fun _ => by kernel_rfl) (fun _ _ _ h => h) hHeld ?_
                          refine takeU (i := 16) (some 75) (.int .i64 j) (by kernel_rfl) (by kernel_rfl) (by kernel_rfl) (by kernel_rfl) (by kernel_rfl) (fun _ => by kernel_rfl) (fun _ _ _ h => h) hHeld ?_
                          refine wpAnyH_take (i := 17) (oi := { dst := some 76, op := Go.Op.slice 54 (Go.Operand.tmp 74) (some (Go.Operand.tmp 75)) none none, type := 54, pos := "ref.go:321", after := #[{ on := 15, ground := Go.Ground.data }, { on := 16, ground := Go.Ground.data }], guard := none }) (v := .slice (if cv = j then some ⟨g, 0, none⟩ else some ⟨g, j * 2, none⟩) (O1.length - j) (cv - j)) rfl (by kernel_rfl) (by kernel_rfl) (by kernel_rfl) (fun _ _ _ h => h) (.inl ⟨by kernel_rfl, fun w9 h9 => by
                            clear hHeld h9
                            go_simp <;> (intro hcj; exfalso; omega)⟩) hHeld ?_
                          try simp only [Act.put, List.setIfInBounds_toArray, List.set_cons_zero, List.set_cons_succ]
                          refine wpAnyH_ready (rs := [14]) (by kernel_rfl) (by simp) ?_
                          refine AllReadyH.cons (o := { dst := some 73, op := Go.Op.buildSlice 54 1 #[(0, Go.Operand.tmp 72)], type := 54, pos := "ref.go:321", after := #[{ on := 13, ground := Go.Ground.data }], guard := none }) rfl (fun K hK => ?_) AllReadyH.nil
                          go_simp
                          refine hK.out _ _ (hHeld.alloc (Nat.le_refl _) _) (fun hHeld => ?_)
                          clear hK K
                          try simp only [Act.put, List.setIfInBounds_toArray, List.set_cons_zero, List.set_cons_succ]
                          try simp only [Act.put, List.setIfInBounds_toArray, List.set_cons_zero, List.set_cons_succ]
                          refine wpAnyH_ready (rs := [18]) (by kernel_rfl) (by simp) ?_
                          refine AllReadyH.cons (o := { dst := some 77, op := Go.Op.call { callee := Go.Callee.builtin Go.Builtin.append, args := #[Go.Operand.tmp 73, Go.Operand.tmp 76], argTypes := #[54, 54] }, type := 54, pos := "ref.go:321", after := #[{ on := 14, ground := Go.Ground.data }, { on := 17, ground := Go.Ground.data }], guard := none }) rfl (fun K hK => ?_) AllReadyH.nil
                          have hown0 : (ws.drew.alloc (.cells #[.int .i64 nn, .int .i64 CD] 111)).ownsRow ws.heap.size 111 2 (.slice (some ⟨ws.heap.size, 0, none⟩) 1 1) 1 [.int .i64 nn, .int .i64 CD] := ⟨rfl, .inr ⟨ws.heap.size, 1, #[.int .i64 nn, .int .i64 CD], rfl, Nat.le_refl _, heap_alloc_new _ _, Nat.le_refl 1, by decide, rfl, rfl⟩⟩
                          refine stepZ (by rfl) _ _ 54 (by rfl) ws.heap.size 111 n0 2 Tryz.underlying54 hi (.slice (some ⟨ws.heap.size, 0, none⟩) 1 1) 1 [.int .i64 nn, .int .i64 CD] (by rfl) hown0 (if cv = j then some ⟨g, 0, none⟩ else some ⟨g, j * 2, none⟩) (O1.length - j) (cv - j) (by rfl) (by have := HE0.out; omega) ?_
                          refine hK.out _ _ hHeld (fun hHeld => ?_)
                          clear hK K
                          try simp only [Act.put, List.setIfInBounds_toArray, List.set_cons_zero, List.set_cons_succ]
                          try simp only [Act.put, List.setIfInBounds_toArray, List.set_cons_zero, List.set_cons_succ]
                          refine wpAnyH_ready (rs := [19]) (by kernel_rfl) (by simp) ?_
                          refine AllReadyH.cons (o := { dst := some 78, op := Go.Op.call { callee := Go.Callee.builtin Go.Builtin.append, args := #[Go.Operand.tmp 62, Go.Operand.tmp 77], argTypes := #[54, 54] }, type := 54, pos := "ref.go:321", after := #[{ on := 3, ground := Go.Ground.data }, { on := 18, ground := Go.Ground.data }, { on := 18, ground := Go.Ground.chain }], guard := none }) rfl (fun K hK => ?_) AllReadyH.nil
                          refine step_append_grows (by rfl) _ _ 54 (by rfl) 111 n0 _ 2 16 Tryz.underlying54 hi hz0 hz1 hz2 rfl (by decide) (some ⟨g, 0, none⟩) j j (cl2 (O1.take j)) (by rfl) (fun e => by cases e) (by rw [cl2_len, List.length_take]; omega) (fun b hb j9 u hu => by
                            cases hb
                            rw [← cl2_take, List.getElem?_take] at hu
                            split at hu
                            · rw [Addr.add_lit, Nat.zero_add]
                              exact ((hHeld.cell (p := ⟨g, j9, none⟩) hgz).trans (World.ownsRow.cellAt HRs.out j9 (by omega))).trans hu
                            · cases hu) ⟨ws.heap.size, 0, none⟩ 1 1 [.int .i64 nn, .int .i64 CD] (by rfl) hown0.1 (fun j9 u hu => by
                            have hjl : j9 < 1 * 2 := by rw [← hown0.1]; exact (List.getElem?_eq_some_iff.1 hu).1
                            rw [Addr.add_lit, Nat.zero_add]; exact (World.ownsRow.cellAt hown0 j9 hjl).trans hu) (by exact cl2_one [(nn, CD)]) (by omega) (by unfold maxLen; omega) (by omega) ?_
                          intro v7 w7 hown7 hgrow7
                          obtain ⟨g7, c7, rfl, hg7, hl7⟩ := World.ownsRow.form hown7 (by omega)
                          have HO7 := Lib.hid (owns_baseI hown7 (base' := wo.heap.size) (Nat.le_trans hsB hHeld.size))
                          refine hK.out _ _ (hHeld.grown hgrow7 hHeld.size (fun z hz => by cases hz)) (fun hHeld => ?_)
                          clear hK K hown7 hgrow7
                          try simp only [Act.put, List.setIfInBounds_toArray, List.set_cons_zero, List.set_cons_succ]
                          refine takeU (i := 20) (some 7) (.slice (some ⟨g7, 0, none⟩) (j + 1) c7) (by kernel_rfl) (by kernel_rfl) (by kernel_rfl) (by kernel_rfl) (by kernel_rfl) (fun _ => by kernel_rfl) (fun _ _ _ h => h) hHeld ?_
                          refine wpAnyH_done (by kernel_rfl) ?_ _
                          try simp only [Act.put, List.setIfInBounds_toArray, List.set_cons_zero, List.set_cons_succ]
                          have HL7 : Hid (j + 1 = E1.length) := Lib.hid (by have := HE0.out; rw [HN2.out, List.length_append, List.length_cons, List.length_take, List.length_drop]; omega)
                          have HC7 : Hid (cl2 (O1.take j) ++ [.int .i64 nn, .int .i64 CD] = cl2 E1) := Lib.hid (by have := HE0.out; rw [HN2.out, cl2_app, List.drop_of_length_le (by omega)]; rfl)
                          rw [HL7.out, HC7.out] at HO7
                          have hbz := hbi4.trans (hHeld.mono hbi4.size)
                          go_wp2_with fail
                          go_roundw
                          case rel => exact ⟨1, by omega, by go_num, ⟨some ⟨g7, 0, none⟩, c7, by rw [HE1.out, HL7.out]⟩, Lib.hid (by rw [HE1.out]; first | exact HO7.out | (rw [HL7.out]; exact HO7.out)), hbz⟩
                          case measure => simp [intOf]; omega
                        · have hcp : ¬ cv = j := by omega
                          have HE0 := Lib.hid hE0
                          clear hE0
                          refine wp_region_held_drew (S := fun w' => Below ws.heap.size ws w') (by kernel_rfl) ((Below.refl _ _).drew) (fun hHeld => ?_)
                          refine takeU (i := 0) (some 59) (.slice (some ⟨g, 0, none⟩) O1.length cv) (by kernel_rfl) (by kernel_rfl) (by kernel_rfl) (by kernel_rfl) (by kernel_rfl) (fun _ => by kernel_rfl) (fun _ _ _ h => h) hHeld ?_
                          refine takeU (i := 1) (some 60) (.int .i64 j) (by kernel_rfl) (by kernel_rfl) (by kernel_rfl) (by kernel_rfl) (by kernel_rfl) (fun _ => by kernel_rfl) (fun _ _ _ h => h) hHeld ?_
                          refine takeU (i := 2) (some 61) (.int .i64 j) (by kernel_rfl) (by kernel_rfl) (by kernel_rfl) (by kernel_rfl) (by kernel_rfl) (fun _ => by kernel_rfl) (fun _ _ _ h => h) hHeld ?_
                          refine wpAnyH_take (i := 3) (oi := { dst := some 62, op := Go.Op.slice 54 (Go.Operand.tmp 59) none (some (Go.Operand.tmp 60)) (some (Go.Operand.tmp 61)), type := 54, pos := "ref.go:321", after := #[{ on := 0, ground := Go.Ground.data }, { on := 1, ground := Go.Ground.data }, { on := 2, ground := Go.Ground.data }], guard := none }) (v := .slice (some ⟨g, 0, none⟩) j j) rfl (by kernel_rfl) (by kernel_rfl) (by kernel_rfl) (fun _ _ _ h => h) (.inl ⟨by kernel_rfl, fun w9 h9 => by
                            clear hHeld h9
                            go_simp <;> (intro hcj; exfalso; omega)⟩) hHeld ?_
                          refine takeU (i := 4) (some 63) (.slice (some ⟨rblk, roff, none⟩) R.length rc) (by kernel_rfl) (by kernel_rfl) (by kernel_rfl) (by kernel_rfl) (by kernel_rfl) (fun _ => by kernel_rfl) (fun _ _ _ h => h) hHeld ?_
                          refine takeU (i := 5) (some 64) (.int .i64 i) (by kernel_rfl) (by kernel_rfl) (by kernel_rfl) (by kernel_rfl) (by kernel_rfl) (fun _ => by kernel_rfl) (fun _ _ _ h => h) hHeld ?_
                          refine wpAnyH_take (i := 6) (oi := { dst := some 65, op := Go.Op.indexAddr 25 (Go.Operand.tmp 63) (Go.Operand.tmp 64), type := 0, pos := "ref.go:321", after := #[{ on := 4, ground := Go.Ground.data }, { on := 5, ground := Go.Ground.data }], guard := none }) (v := .pointer (some ⟨rblk, roff + i * 9, none⟩)) rfl (by kernel_rfl) (by kernel_rfl) (by kernel_rfl) (fun _ _ _ h => h) (.inl ⟨by kernel_rfl, fun w9 h9 => by
                            clear hHeld h9
                            go_simp⟩) hHeld ?_
                          refine takeU (i := 7) (some 66) (.pointer (some ⟨rblk, roff + i * 9, none⟩)) (by kernel_rfl) (by kernel_rfl) (by kernel_rfl) (by kernel_rfl) (by kernel_rfl) (fun _ => by kernel_rfl) (fun _ _ _ h => h) hHeld ?_
                          refine wpAnyH_take (i := 8) (oi := { dst := some 67, op := Go.Op.load 3 (Go.Operand.tmp 66), type := 3, pos := "ref.go:321", after := #[{ on := 7, ground := Go.Ground.data }], guard := none }) (v := .int .i64 nn) rfl (by kernel_rfl) (by kernel_rfl) (by kernel_rfl) (fun _ _ _ h => h) (.inl ⟨by kernel_rfl, fun w9 h9 => by
                            clear hHeld
                            have d0 := (h9.cell (p := ⟨rblk, roff + i * 9, none⟩) hzr).trans n0c
                            clear h9
                            go_simp⟩) hHeld ?_
                          refine takeU (i := 9) (some 68) (.slice (some ⟨cblk, coff, none⟩) (cdL CD).length cc) (by kernel_rfl) (by kernel_rfl) (by kernel_rfl) (by kernel_rfl) (by kernel_rfl) (fun _ => by kernel_rfl) (fun _ _ _ h => h) hHeld ?_
                          refine takeU (i := 10) (some 69) (.int .i64 0) (by kernel_rfl) (by kernel_rfl) (by kernel_rfl) (by kernel_rfl) (by kernel_rfl) (fun _ => by kernel_rfl) (fun _ _ _ h => h) hHeld ?_
                          refine wpAnyH_take (i := 11) (oi := { dst := some 70, op := Go.Op.indexAddr 22 (Go.Operand.tmp 68) (Go.Operand.tmp 69), type := 0, pos := "ref.go:321", after := #[{ on := 9, ground := Go.Ground.data }, { on := 10, ground := Go.Ground.data }], guard := none }) (v := .pointer (some ⟨cblk, coff, none⟩)) rfl (by kernel_rfl) (by kernel_rfl) (by kernel_rfl) (fun _ _ _ h => h) (.inl ⟨by kernel_rfl, fun w9 h9 => by
                            clear hHeld h9
                            go_simp⟩) hHeld ?_
                          refine wpAnyH_take (i := 12) (oi := { dst := some 71, op := Go.Op.load 3 (Go.Operand.tmp 70), type := 3, pos := "ref.go:321", after := #[{ on := 11, ground := Go.Ground.data }], guard := none }) (v := .int .i64 CD) rfl (by kernel_rfl) (by kernel_rfl) (by kernel_rfl) (fun _ _ _ h => h) (.inl ⟨by kernel_rfl, fun w9 h9 => by
                            clear hHeld
                            have d0 := (h9.cell (p := ⟨cblk, coff, none⟩) hzc).trans cc0
                            clear h9
                            go_simp⟩) hHeld ?_
                          refine takeU (i := 13) (some 72) (.agg #[.int .i64 nn, .int .i64 CD]) (by kernel_rfl) (by kernel_rfl) (by kernel_rfl) (by kernel_rfl) (by kernel_rfl) (fun _ => by kernel_rfl) (fun _ _ _ h => h) hHeld ?_
                          refine takeU (i := 15) (some 74) (.slice (some ⟨g, 0, none⟩) O1.length cv) (by kernel_rfl) (by kernel_rfl) (by kernel_rfl) (by kernel_rfl) (by kernel_rfl) (fun _ => by kernel_rfl) (fun _ _ _ h => h) hHeld ?_
                          refine takeU (i := 16) (some 75) (.int .i64 j) (by kernel_rfl) (by kernel_rfl) (by kernel_rfl) (by kernel_rfl) (by kernel_rfl) (fun _ => by kernel_rfl) (fun _ _ _ h => h) hHeld ?_
                          refine wpAnyH_take (i := 17) (oi := { dst := some 76, op := Go.Op.slice 54 (Go.Operand.tmp 74) (some (Go.Operand.tmp 75)) none none, type := 54, pos := "ref.go:321", after := #[{ on := 15, ground := Go.Ground.data }, { on := 16, ground := Go.Ground.data }], guard := none }) (v := .slice (some ⟨g, j * 2, none⟩) (O1.length - j) (cv - j)) rfl (by kernel_rfl) (by kernel_rfl) (by kernel_rfl) (fun _ _ _ h => h) (.inl ⟨by kernel_rfl, fun w9 h9 => by
                            clear hHeld h9
                            go_simp <;> (intro hcj; exfalso; omega)⟩) hHeld ?_
                          try simp only [Act.put, List.setIfInBounds_toArray, List.set_cons_zero, List.set_cons_succ]
                          refine wpAnyH_ready (rs := [14]) (by kernel_rfl) (by simp) ?_
                          refine AllReadyH.cons (o := { dst := some 73, op := Go.Op.buildSlice 54 1 #[(0, Go.Operand.tmp 72)], type := 54, pos := "ref.go:321", after := #[{ on := 13, ground := Go.Ground.data }], guard := none }) rfl (fun K hK => ?_) AllReadyH.nil
                          go_simp
                          refine hK.out _ _ (hHeld.alloc (Nat.le_refl _) _) (fun hHeld => ?_)
                          clear hK K
                          try simp only [Act.put, List.setIfInBounds_toArray, List.set_cons_zero, List.set_cons_succ]
                          try simp only [Act.put, List.setIfInBounds_toArray, List.set_cons_zero, List.set_cons_succ]
                          refine wpAnyH_ready (rs := [18]) (by kernel_rfl) (by simp) ?_
                          refine AllReadyH.cons (o := { dst := some 77, op := Go.Op.call { callee := Go.Callee.builtin Go.Builtin.append, args := #[Go.Operand.tmp 73, Go.Operand.tmp 76], argTypes := #[54, 54] }, type := 54, pos := "ref.go:321", after := #[{ on := 14, ground := Go.Ground.data }, { on := 17, ground := Go.Ground.data }], guard := none }) rfl (fun K hK => ?_) AllReadyH.nil
                          have hown0 : (ws.drew.alloc (.cells #[.int .i64 nn, .int .i64 CD] 111)).ownsRow ws.heap.size 111 2 (.slice (some ⟨ws.heap.size, 0, none⟩) 1 1) 1 [.int .i64 nn, .int .i64 CD] := ⟨rfl, .inr ⟨ws.heap.size, 1, #[.int .i64 nn, .int .i64 CD], rfl, Nat.le_refl _, heap_alloc_new _ _, Nat.le_refl 1, by decide, rfl, rfl⟩⟩
                          have hnw : ∀ (j9 : Nat) (u : Value), (cl2 (O1.drop j))[j9]? = some u → (ws.drew.alloc (.cells #[.int .i64 nn, .int .i64 CD] 111)).cell? ((⟨g, j * 2, none⟩ : Addr).add j9) = some u := fun j9 u hu => by
                            have hjl : j9 < (O1.length - j) * 2 := by
                              have := (List.getElem?_eq_some_iff.1 hu).1
                              rw [cl2_len, List.length_drop] at this
                              exact this
                            rw [← cl2_drop, List.getElem?_drop] at hu
                            rw [Addr.add_lit]
                            refine (hHeld.cell (p := ⟨g, j * 2 + j9, none⟩) hgz).trans ?_
                            have h9 := World.ownsRow.cellAt HRs.out (j * 2 + j9) (by have := HE0.out; omega)
                            skip
                            exact h9.trans hu
                          refine step_append_lies _ (by rfl) _ _ _ (by rfl) ws.heap.size 111 n0 _ 2 16 Tryz.underlying54 hi hz0 hz1 hz2 rfl (by decide) (.slice (some ⟨ws.heap.size, 0, none⟩) 1 1) 1 [.int .i64 nn, .int .i64 CD] (by rfl) hown0 ⟨g, j * 2, none⟩ (O1.length - j) (cv - j) (cl2 (O1.drop j)) (by rfl) (by rw [cl2_len, List.length_drop] <;> rfl) hnw (cl2_one _) (by have := HE0.out; omega) (by unfold maxLen; omega) (by omega) (by simp) _ rfl ?_
                          intro g6 c6 w6 hown6 hgrow6 hat6 hlt6
                          refine hK.out _ _ (hHeld.grown hgrow6 (by simp) (fun z hz => owns_blockI hown0 hz)) (fun hHeld => ?_)
                          clear hK K hgrow6 hat6 hlt6 hnw
                          try simp only [Act.put, List.setIfInBounds_toArray, List.set_cons_zero, List.set_cons_succ]
                          try simp only [Act.put, List.setIfInBounds_toArray, List.set_cons_zero, List.set_cons_succ]
                          refine wpAnyH_ready (rs := [19]) (by kernel_rfl) (by simp) ?_
                          refine AllReadyH.cons (o := { dst := some 78, op := Go.Op.call { callee := Go.Callee.builtin Go.Builtin.append, args := #[Go.Operand.tmp 62, Go.Operand.tmp 77], argTypes := #[54, 54] }, type := 54, pos := "ref.go:321", after := #[{ on := 3, ground := Go.Ground.data }, { on := 18, ground := Go.Ground.data }, { on := 18, ground := Go.Ground.chain }], guard := none }) rfl (fun K hK => ?_) AllReadyH.nil
                          refine step_append_grows (by rfl) _ _ 54 (by rfl) 111 n0 _ 2 16 Tryz.underlying54 hi hz0 hz1 hz2 rfl (by decide) (some ⟨g, 0, none⟩) j j (cl2 (O1.take j)) (by rfl) (fun e => by cases e) (by rw [cl2_len, List.length_take]; omega) (fun b hb j9 u hu => by
                            cases hb
                            rw [← cl2_take, List.getElem?_take] at hu
                            split at hu
                            · rw [Addr.add_lit, Nat.zero_add]
                              exact ((hHeld.cell (p := ⟨g, j9, none⟩) hgz).trans (World.ownsRow.cellAt HRs.out j9 (by omega))).trans hu
                            · cases hu) ⟨g6, 0, none⟩ (1 + (O1.length - j)) c6 ([.int .i64 nn, .int .i64 CD] ++ cl2 (O1.drop j)) (by rfl) hown6.1 (fun j9 u hu => by
                            have hjl : j9 < (1 + (O1.length - j)) * 2 := by rw [← hown6.1]; exact (List.getElem?_eq_some_iff.1 hu).1
                            rw [Addr.add_lit, Nat.zero_add]; exact (World.ownsRow.cellAt hown6 j9 hjl).trans hu) (by exact cl2_one ((nn, CD) :: O1.drop j)) (by omega) (by unfold maxLen; omega) (by omega) ?_
                          intro v7 w7 hown7 hgrow7
                          obtain ⟨g7, c7, rfl, hg7, hl7⟩ := World.ownsRow.form hown7 (by omega)
                          have HO7 := Lib.hid (owns_baseI hown7 (base' := wo.heap.size) (Nat.le_trans hsB hHeld.size))
                          refine hK.out _ _ (hHeld.grown hgrow7 hHeld.size (fun z hz => by cases hz)) (fun hHeld => ?_)
                          clear hK K hown7 hgrow7
                          try simp only [Act.put, List.setIfInBounds_toArray, List.set_cons_zero, List.set_cons_succ]
                          refine takeU (i := 20) (some 7) (.slice (some ⟨g7, 0, none⟩) (j + (1 + (O1.length - j))) c7) (by kernel_rfl) (by kernel_rfl) (by kernel_rfl) (by kernel_rfl) (by kernel_rfl) (fun _ => by kernel_rfl) (fun _ _ _ h => h) hHeld ?_
                          refine wpAnyH_done (by kernel_rfl) ?_ _
                          try simp only [Act.put, List.setIfInBounds_toArray, List.set_cons_zero, List.set_cons_succ]
                          have HL7 : Hid (j + (1 + (O1.length - j)) = E1.length) := Lib.hid (by have := HE0.out; rw [HN2.out, List.length_append, List.length_cons, List.length_take, List.length_drop]; omega)
                          have HC7 : Hid (cl2 (O1.take j) ++ ([.int .i64 nn, .int .i64 CD] ++ cl2 (O1.drop j)) = cl2 E1) := Lib.hid (by rw [HN2.out, cl2_app]; rfl)
                          rw [HL7.out, HC7.out] at HO7
                          have hbz := hbi4.trans (hHeld.mono hbi4.size)
                          go_wp2_with fail
                          go_roundw
                          case rel => exact ⟨1, by omega, by go_num, ⟨some ⟨g7, 0, none⟩, c7, by rw [HE1.out, HL7.out]⟩, Lib.hid (by rw [HE1.out]; first | exact HO7.out | (rw [HL7.out]; exact HO7.out)), hbz⟩
                          case measure => simp [intOf]; omega
            · obtain rfl : y = (cdL CD).length := by omega
              have hbz := HBi3.out.trans (hbj.mono HBi3.out.size)
              clear HRow3 HN0 HOL
              go_wp2_with fail
              go_roundw
              case rel => exact ⟨i + 1, by omega, by go_num, ⟨av, cv, by rw [HNxt.out]⟩, Lib.hid (by rw [HNxt.out]; exact HRow4.out), hbz⟩
              case measure => simp [intOf]; omega
        · obtain rfl : i = R.length := by omega
          have hbz := HBw2.out.trans (hbi.mono HBw2.out.size)
          have hplr := HPl.out R.length
          clear HRC HRA HCx HPl HOe HS HP0
          go_wp2_with fail
          go_roundw
          case rel => exact ⟨z + 1, by omega, by rw [HDs.out], ⟨av1, cv1, by rw [HNx.out]⟩, Lib.hid (by rw [HNx.out]; exact HRow1.out), by rw [HNx.out]; omega, hbz⟩
          case measure => simp [intOf]; omega
    · obtain rfl : z = 2 := by omega
      have HEnd : Hid (FauR (refF L js h l) w (.returned (.slice av0 (dirF L js h l 2).length cv0)) wr) := Lib.hid ⟨av0, cv0, rfl, pairs_own2 HRow0.out (show (dirF L js h l 2).length ≤ _ by omega) (fun j hj => by
        have hj : j < (refF L js h l).length := hj
        have hm : gp (refF L js h l) j ∈ refF L js h l := by unfold gp; rw [List.getD_eq_getElem?_getD, List.getElem?_eq_getElem hj]; exact List.getElem_mem hj
        have := HBd.out _ hm
        unfold I64
        exact ⟨by have := this.1; constructor <;> omega, by have := this.2; constructor <;> omega⟩), hbw0⟩
      clear HRow0 HR HCd HRl HBd
      go_wp2_with fail
      go_ret
      exact HEnd.out
end Go.Proofs.YtiagflackfkmnaaGreat

namespace Go.Proofs.YtiagflackfkmnaaGreat
set_option linter.unusedVariables false
set_option linter.unusedSimpArgs false
open Go.RowKit

set_option maxRecDepth 100000 in
set_option maxHeartbeats 1000000 in
theorem topic_r (n : Int) (w : World) : Calls Tryz.prog 23 #[.int .i64 n] w fun e w' => e = .returned (.bool (topB n)) ∧ w = w' := by
  by_cases h1 : n = 1
  · subst h1
    go_enter Tryz.func23, Tryz.ntmps23
    go_wp2_with fail
    go_ret
    exact ⟨rfl, rfl⟩
  · have d1 : (n == 1) = false := beq_false_of_ne h1
    have hr : Hid (topB n = (n == 2)) := Lib.hid (by unfold topB; rw [d1, Bool.false_or])
    clear h1
    go_enter Tryz.func23, Tryz.ntmps23
    go_wp2_with fail
    go_ret
    exact ⟨by rw [hr.out] <;> rfl, rfl⟩
set_option linter.unnecessarySimpa false
set_option maxRecDepth 100000 in
set_option maxHeartbeats 4000000 in
theorem ruleHolds_any (L : Int) (a : Option Addr) (js : List Int) (ca : Nat) (aa : Option Addr) (l : List Sgn) (cl : Nat) (ae : Option Addr) (q : List Edc) (cq : Nat) (q0 q1 q2 q3 : Int) (w : World) (hI : IntsS w a js) (hA : SgnS w aa l) (hE : EdS w ae q) : Calls Tryz.prog 4 #[.agg #[.int .i64 L, .slice a js.length ca, .slice aa l.length cl, .slice ae q.length cq, .int .i64 q0, .int .i64 q1, .int .i64 q2, .int .i64 q3]] w fun e w' => e = .returned (.bool true) ∧ Below w.heap.size w w' := by
  have HH := Lib.hid (fun W (hW : Below w.heap.size w W) => Heavy_any L a js ca aa l cl ae q cq q0 q1 q2 q3 W (hI.below hW) (hA.below hW) (hE.below hW))
  have hrr : (btw q0 0 10000000 && dirB q1 && topB q2 && btw q3 0 (L - 1)) = (btw q0 0 10000000 && dirB q1 && topB q2 && decide (0 ≤ q3) && decide (q3 < L)) := by
    have : btw q3 0 (L - 1) = (decide (0 ≤ q3) && decide (q3 < L)) := by
      unfold btw
      have : decide (q3 ≤ L - 1) = decide (q3 < L) := by rw [Bool.eq_iff_iff, decide_eq_true_eq, decide_eq_true_eq]; omega
      rw [this]
    rw [this, Bool.and_assoc (btw q0 0 10000000 && dirB q1 && topB q2)]
  obtain ⟨r, hr⟩ : ∃ r, r = (btw q0 0 10000000 && dirB q1 && topB q2 && btw q3 0 (L - 1)) := ⟨_, rfl⟩
  have HP := Lib.hid (fun W (hW : Below w.heap.size w W) => Holds_any L a js ca aa l cl q0 q1 q2 q3 (edcsB L js q) r hr W (hI.below hW) (hA.below hW))
  have HM := Lib.hid (fun W (hW : Below w.heap.size w W) => Must_any L a js ca ae q cq q0 q1 q2 q3 (sgnsB L js l) r hr W (hI.below hW) (hE.below hW))
  have HW1 := Lib.hid (fun W (hW : Below w.heap.size w W) => why_r L a js ca aa l cl ae q cq q0 q1 q2 q3 true false r W (hI.below hW) (hA.below hW) (hE.below hW))
  have HW2 := Lib.hid (fun W (hW : Below w.heap.size w W) => why_r L a js ca aa l cl ae q cq q0 q1 q2 q3 false true r W (hI.below hW) (hA.below hW) (hE.below hW))
  have HE1 : Hid (whyK (lineB L js) true (sgnsB L js l) false (edcsB L js q) r = 0 → ∀ W, Below w.heap.size w W → Calls Tryz.prog 24 #[.agg #[.int .i64 L, .slice a js.length ca], .slice aa l.length cl, .int .i64 q0, .int .i64 q1, .int .i64 q2, .int .i64 q3] W fun e w' => e = .returned (.int .i64 (hldV L js l q0 q1 q2 q3)) ∧ Below W.heap.size W w') := Lib.hid fun h W hW => by
    by_cases hV : lstE L js l [] = 0
    · rw [(lst_s L js l true _ _).2 hV] at h
      cases hx : r with
      | false => rw [hx, if_pos rfl] at h; cases h
      | true =>
        rw [hx] at hr
        have hr := hr.symm
        simp only [Bool.and_eq_true] at hr
        exact refHolds_r L a js ca aa l cl q0 q1 q2 q3 hV hr.1.2 hr.2 W (hI.below hW) (hA.below hW)
    · rw [(lst_s L js l true _ _).1 hV] at h; exact absurd h hV
  have HRM := Lib.hid (fun W (hW : Below w.heap.size w W) => refMust_r ae q cq q0 q2 q1 q3 W (hE.below hW))
  have HRr := Lib.hid (hr.trans hrr)
  generalize hldV L js l q0 q1 q2 q3 = VH at *
  generalize mustV q q0 q2 q1 q3 = VM at *
  clear hr hrr
  generalize whyK (lineB L js) true (sgnsB L js l) false (edcsB L js q) r = E1 at *
  generalize whyK (lineB L js) false (sgnsB L js l) true (edcsB L js q) r = E2 at *
  obtain ⟨V1, hV1⟩ : ∃ V1, (if E1 = 0 then VH else 0) = V1 := ⟨_, rfl⟩
  obtain ⟨V2, hV2⟩ : ∃ V2, (if E2 = 0 then VM else 0) = V2 := ⟨_, rfl⟩
  rw [hV1] at HP
  rw [hV2] at HM
  have HV1 := Lib.hid hV1
  have HV2 := Lib.hid hV2
  clear hV1 hV2
  clear hI hA hE
  go_enter Tryz.func4, Tryz.ntmps4
  go_wp2_with fail
  obtain ⟨wB, hwB⟩ : ∃ wB, w.alloc (.cells #[.int .i64 L, .slice a js.length ca, .slice aa l.length cl, .slice ae q.length cq, .int .i64 q0, .int .i64 q1, .int .i64 q2, .int .i64 q3] 28) = wB := ⟨_, rfl⟩
  have hb : Below w.heap.size w wB := by rw [← hwB]; exact (Below.refl _ _).alloc (Nat.le_refl _) _
  have p0 : wB.cell? ⟨w.heap.size, 0, none⟩ = some (.int .i64 L) := by rw [← hwB]; simp [go_sem]
  have p1 : wB.cell? ⟨w.heap.size, 1, none⟩ = some (.slice a js.length ca) := by rw [← hwB]; simp [go_sem]
  have p2 : wB.cell? ⟨w.heap.size, 2, none⟩ = some (.slice aa l.length cl) := by rw [← hwB]; simp [go_sem]
  have p3 : wB.cell? ⟨w.heap.size, 3, none⟩ = some (.slice ae q.length cq) := by rw [← hwB]; simp [go_sem]
  have p4 : wB.cell? ⟨w.heap.size, 4, none⟩ = some (.int .i64 q0) := by rw [← hwB]; simp [go_sem]
  have p5 : wB.cell? ⟨w.heap.size, 5, none⟩ = some (.int .i64 q1) := by rw [← hwB]; simp [go_sem]
  have p6 : wB.cell? ⟨w.heap.size, 6, none⟩ = some (.int .i64 q2) := by rw [← hwB]; simp [go_sem]
  have p7 : wB.cell? ⟨w.heap.size, 7, none⟩ = some (.int .i64 q3) := by rw [← hwB]; simp [go_sem]
  rw [hwB]
  clear hwB
  refine (HH.out _ hb).mono ?_
  rintro e wX ⟨bv, hHv, rfl, hb1⟩
  replace p0 := cell_below p0 hb1
  replace p1 := cell_below p1 hb1
  replace p2 := cell_below p2 hb1
  replace p3 := cell_below p3 hb1
  replace p4 := cell_below p4 hb1
  replace p5 := cell_below p5 hb1
  replace p6 := cell_below p6 hb1
  replace p7 := cell_below p7 hb1
  have hbw := hb.trans (hb1.mono hb.size)
  clear HH hb1
  cases bv with
  | true =>
    clear HP HM HW1 HW2 HE1 HRM HRr HV1 HV2 V1 V2 hHv
    go_wp2_with (go_at_call 12; refine (first_any _).mono ?_; rintro e w9 ⟨rfl, hb9⟩)
    go_ret
    exact ⟨rfl, hbw.trans (hb9.mono hbw.size)⟩
  | false =>
    have HHv := Lib.hid (hHv rfl)
    have hz := block_lt p0
    have Z0 := Lib.hid p0
    have Z1 := Lib.hid p1
    have Z2 := Lib.hid p2
    have Z3 := Lib.hid p3
    have Z4 := Lib.hid p4
    have Z5 := Lib.hid p5
    have Z6 := Lib.hid p6
    have Z7 := Lib.hid p7
    have HBW := Lib.hid hbw
    clear p0 p1 p2 p3 p4 p5 p6 p7 hb hbw hHv
    have hbw := HBW.out
    have p0 := Z0.out
    have p1 := Z1.out
    have p2 := Z2.out
    have p3 := Z3.out
    have p4 := Z4.out
    have p5 := Z5.out
    have p6 := Z6.out
    have p7 := Z7.out
    clear Z0 Z1 Z2 Z3 Z4 Z5 Z6 Z7
    go_upto_region 5 with (first | (go_at_call 21; refine (HP.out _ hbw).mono ?_; rintro e w9 ⟨rfl, hb9⟩; replace hbw := hbw.trans (hb9.mono hbw.size); replace p0 := cell_below p0 hb9; replace p1 := cell_below p1 hb9; replace p2 := cell_below p2 hb9; replace p3 := cell_below p3 hb9; replace p4 := cell_below p4 hb9; replace p5 := cell_below p5 hb9; replace p6 := cell_below p6 hb9; replace p7 := cell_below p7 hb9; clear hb9) | (go_at_call 22; refine (HM.out _ hbw).mono ?_; rintro e w9 ⟨rfl, hb9⟩; replace hbw := hbw.trans (hb9.mono hbw.size); replace p0 := cell_below p0 hb9; replace p1 := cell_below p1 hb9; replace p2 := cell_below p2 hb9; replace p3 := cell_below p3 hb9; replace p4 := cell_below p4 hb9; replace p5 := cell_below p5 hb9; replace p6 := cell_below p6 hb9; replace p7 := cell_below p7 hb9; clear hb9))
    obtain ⟨wY, rfl⟩ : ∃ wY : World, wY = w9 := ⟨_, rfl⟩
    clear HP HM
    have K0 := Lib.hid (fun W => hour_r q0 W)
    have K1 := Lib.hid (fun W => way_r q1 W)
    have K2 := Lib.hid (fun W => topic_r q2 W)
    generalize btw q0 0 10000000 = b0 at *
    generalize dirB q1 = b1 at *
    generalize topB q2 = b2 at *
    go_cut [7] (fun v wx => wY = wx ∧ v = .bool r)
    case first =>
      cases b0 with
      | false =>
        go_wp2_with (first | (go_at_call 17; refine (K0.out _).mono ?_; rintro e w9 ⟨rfl, rfl⟩) | (go_at_call 18; refine (K1.out _).mono ?_; rintro e w9 ⟨rfl, rfl⟩) | (go_at_call 23; refine (K2.out _).mono ?_; rintro e w9 ⟨rfl, rfl⟩))
        go_meet
        exact ⟨rfl, by rw [HRr.out] <;> first | rfl | (simp only [d1, d2]; rfl) | (simp only [d1]; rfl) | simp [d1, d2] | simp [d1] | simp⟩
      | true =>
        cases b1 with
        | false =>
          go_wp2_with (first | (go_at_call 17; refine (K0.out _).mono ?_; rintro e w9 ⟨rfl, rfl⟩) | (go_at_call 18; refine (K1.out _).mono ?_; rintro e w9 ⟨rfl, rfl⟩) | (go_at_call 23; refine (K2.out _).mono ?_; rintro e w9 ⟨rfl, rfl⟩))
          go_meet
          exact ⟨rfl, by rw [HRr.out] <;> first | rfl | (simp only [d1, d2]; rfl) | (simp only [d1]; rfl) | simp [d1, d2] | simp [d1] | simp⟩
        | true =>
          cases b2 with
          | false =>
            go_wp2_with (first | (go_at_call 17; refine (K0.out _).mono ?_; rintro e w9 ⟨rfl, rfl⟩) | (go_at_call 18; refine (K1.out _).mono ?_; rintro e w9 ⟨rfl, rfl⟩) | (go_at_call 23; refine (K2.out _).mono ?_; rintro e w9 ⟨rfl, rfl⟩))
            go_meet
            exact ⟨rfl, by rw [HRr.out] <;> first | rfl | (simp only [d1, d2]; rfl) | (simp only [d1]; rfl) | simp [d1, d2] | simp [d1] | simp⟩
          | true =>
            by_cases z1 : 0 ≤ q3
            · have d1 : decide (0 ≤ q3) = true := decide_eq_true z1
              by_cases z2 : q3 < L
              · have d2 : decide (q3 < L) = true := decide_eq_true z2
                go_wp2_with (first | (go_at_call 17; refine (K0.out _).mono ?_; rintro e w9 ⟨rfl, rfl⟩) | (go_at_call 18; refine (K1.out _).mono ?_; rintro e w9 ⟨rfl, rfl⟩) | (go_at_call 23; refine (K2.out _).mono ?_; rintro e w9 ⟨rfl, rfl⟩))
                go_meet
                exact ⟨rfl, by rw [HRr.out] <;> first | rfl | (simp only [d1, d2]; rfl) | (simp only [d1]; rfl) | simp [d1, d2] | simp [d1] | simp⟩
              · have d2 : decide (q3 < L) = false := decide_eq_false z2
                go_wp2_with (first | (go_at_call 17; refine (K0.out _).mono ?_; rintro e w9 ⟨rfl, rfl⟩) | (go_at_call 18; refine (K1.out _).mono ?_; rintro e w9 ⟨rfl, rfl⟩) | (go_at_call 23; refine (K2.out _).mono ?_; rintro e w9 ⟨rfl, rfl⟩))
                go_meet
                exact ⟨rfl, by rw [HRr.out] <;> first | rfl | (simp only [d1, d2]; rfl) | (simp only [d1]; rfl) | simp [d1, d2] | simp [d1] | simp⟩
            · have d1 : decide (0 ≤ q3) = false := decide_eq_false z1
              go_wp2_with (first | (go_at_call 17; refine (K0.out _).mono ?_; rintro e w9 ⟨rfl, rfl⟩) | (go_at_call 18; refine (K1.out _).mono ?_; rintro e w9 ⟨rfl, rfl⟩) | (go_at_call 23; refine (K2.out _).mono ?_; rintro e w9 ⟨rfl, rfl⟩))
              go_meet
              exact ⟨rfl, by rw [HRr.out] <;> first | rfl | (simp only [d1, d2]; rfl) | (simp only [d1]; rfl) | simp [d1, d2] | simp [d1] | simp⟩
    case rest =>
      obtain ⟨rfl, rfl⟩ := hcut
      clear K0 K1 K2 HRr
      have hzz := block_lt p0
      have Y0 := Lib.hid p0
      have Y1 := Lib.hid p1
      have Y2 := Lib.hid p2
      have Y3 := Lib.hid p3
      have Y4 := Lib.hid p4
      have Y5 := Lib.hid p5
      have Y6 := Lib.hid p6
      have Y7 := Lib.hid p7
      have HBY := Lib.hid hbw
      have HWX := Lib.hid (fun W (hW : Below wY.heap.size wY W) => HW1.out W (HBY.out.trans (hW.mono HBY.out.size)))
      have HWX2 := Lib.hid (fun W (hW : Below wY.heap.size wY W) => HW2.out W (HBY.out.trans (hW.mono HBY.out.size)))
      clear HW1 HW2 hbw
      have hB : Below wY.heap.size wY wY := Below.refl _ _
      go_wp2_with fail
      go_region_held3 (fun w' => w'.cell? ⟨w.heap.size, 0, none⟩ = some (.int .i64 L) ∧ w'.cell? ⟨w.heap.size, 1, none⟩ = some (.slice a js.length ca) ∧ w'.cell? ⟨w.heap.size, 2, none⟩ = some (.slice aa l.length cl) ∧ w'.cell? ⟨w.heap.size, 3, none⟩ = some (.slice ae q.length cq) ∧ w'.cell? ⟨w.heap.size, 4, none⟩ = some (.int .i64 q0) ∧ w'.cell? ⟨w.heap.size, 5, none⟩ = some (.int .i64 q1) ∧ w'.cell? ⟨w.heap.size, 6, none⟩ = some (.int .i64 q2) ∧ w'.cell? ⟨w.heap.size, 7, none⟩ = some (.int .i64 q3)) (go_keep)
        (first
          | (go_at_call 16
             first | (with_reducible refine Calls.mono (HWX.out _ (show Below wY.heap.size wY _ by first | exact hB | exact hB.drew)) ?_) | (with_reducible refine Calls.mono (HWX2.out _ (show Below wY.heap.size wY _ by first | exact hB | exact hB.drew)) ?_)
             rintro e w9 ⟨rfl, hb9⟩
             replace hB : Below wY.heap.size wY w9 := (show Below wY.heap.size wY _ by first | exact hB | exact hB.drew).trans (hb9.mono (by have := hB.size; first | exact this | (simp; exact this)))
             have p0 := (hB.cell (p := ⟨w.heap.size, 0, none⟩) hzz).trans Y0.out
             have p1 := (hB.cell (p := ⟨w.heap.size, 1, none⟩) hzz).trans Y1.out
             have p2 := (hB.cell (p := ⟨w.heap.size, 2, none⟩) hzz).trans Y2.out
             have p3 := (hB.cell (p := ⟨w.heap.size, 3, none⟩) hzz).trans Y3.out
             have p4 := (hB.cell (p := ⟨w.heap.size, 4, none⟩) hzz).trans Y4.out
             have p5 := (hB.cell (p := ⟨w.heap.size, 5, none⟩) hzz).trans Y5.out
             have p6 := (hB.cell (p := ⟨w.heap.size, 6, none⟩) hzz).trans Y6.out
             have p7 := (hB.cell (p := ⟨w.heap.size, 7, none⟩) hzz).trans Y7.out
             skip))
      all_goals
        have hbw := HBY.out.trans (hB.mono HBY.out.size)
        by_cases hE1 : E1 = 0
        · by_cases hE2 : E2 = 0
          · skip
            obtain rfl : V1 = VH := by rw [← HV1.out, if_pos hE1]
            subst hE1
            obtain rfl : V2 = VM := by rw [← HV2.out, if_pos hE2]
            subst hE2
            clear HV1 HV2
            have v1 : (V1 == V1) = true := by simp
            have v2 : (V2 == V2) = true := by simp
            go_wp2_with (first | (go_at_call 24; refine (HE1.out rfl _ hbw).mono ?_; rintro e w9 ⟨rfl, hb9⟩; replace hbw := hbw.trans (hb9.mono hbw.size); replace p0 := cell_below p0 hb9; replace p1 := cell_below p1 hb9; replace p2 := cell_below p2 hb9; replace p3 := cell_below p3 hb9; replace p4 := cell_below p4 hb9; replace p5 := cell_below p5 hb9; replace p6 := cell_below p6 hb9; replace p7 := cell_below p7 hb9; clear hb9) | (go_at_call 25; refine (HRM.out _ hbw).mono ?_; rintro e w9 ⟨rfl, hb9⟩; replace hbw := hbw.trans (hb9.mono hbw.size); replace p0 := cell_below p0 hb9; replace p1 := cell_below p1 hb9; replace p2 := cell_below p2 hb9; replace p3 := cell_below p3 hb9; replace p4 := cell_below p4 hb9; replace p5 := cell_below p5 hb9; replace p6 := cell_below p6 hb9; replace p7 := cell_below p7 hb9; clear hb9) | (go_at_call 12; refine (first_any _).mono ?_; rintro e w9 ⟨rfl, hb9⟩))
            go_ret
            exact ⟨rfl, hbw.trans (hb9.mono hbw.size)⟩
          · skip
            obtain rfl : V1 = VH := by rw [← HV1.out, if_pos hE1]
            subst hE1
            obtain rfl : V2 = 0 := by rw [← HV2.out, if_neg hE2]
            have d2 : (E2 == 0) = false := beq_false_of_ne hE2
            have n2 : (E2 != E2) = false := by simp
            clear HV1 HV2
            have v1 : (V1 == V1) = true := by simp
            go_wp2_with (first | (go_at_call 24; refine (HE1.out rfl _ hbw).mono ?_; rintro e w9 ⟨rfl, hb9⟩; replace hbw := hbw.trans (hb9.mono hbw.size); replace p0 := cell_below p0 hb9; replace p1 := cell_below p1 hb9; replace p2 := cell_below p2 hb9; replace p3 := cell_below p3 hb9; replace p4 := cell_below p4 hb9; replace p5 := cell_below p5 hb9; replace p6 := cell_below p6 hb9; replace p7 := cell_below p7 hb9; clear hb9) | (go_at_call 12; refine (first_any _).mono ?_; rintro e w9 ⟨rfl, hb9⟩))
            go_ret
            exact ⟨rfl, hbw.trans (hb9.mono hbw.size)⟩
        · by_cases hE2 : E2 = 0
          · skip
            obtain rfl : V1 = 0 := by rw [← HV1.out, if_neg hE1]
            have d1 : (E1 == 0) = false := beq_false_of_ne hE1
            have n1 : (E1 != E1) = false := by simp
            obtain rfl : V2 = VM := by rw [← HV2.out, if_pos hE2]
            subst hE2
            clear HV1 HV2
            have v2 : (V2 == V2) = true := by simp
            go_wp2_with (first | (go_at_call 25; refine (HRM.out _ hbw).mono ?_; rintro e w9 ⟨rfl, hb9⟩; replace hbw := hbw.trans (hb9.mono hbw.size); replace p0 := cell_below p0 hb9; replace p1 := cell_below p1 hb9; replace p2 := cell_below p2 hb9; replace p3 := cell_below p3 hb9; replace p4 := cell_below p4 hb9; replace p5 := cell_below p5 hb9; replace p6 := cell_below p6 hb9; replace p7 := cell_below p7 hb9; clear hb9) | (go_at_call 12; refine (first_any _).mono ?_; rintro e w9 ⟨rfl, hb9⟩))
            go_ret
            exact ⟨rfl, hbw.trans (hb9.mono hbw.size)⟩
          · skip
            obtain rfl : V1 = 0 := by rw [← HV1.out, if_neg hE1]
            have d1 : (E1 == 0) = false := beq_false_of_ne hE1
            have n1 : (E1 != E1) = false := by simp
            obtain rfl : V2 = 0 := by rw [← HV2.out, if_neg hE2]
            have d2 : (E2 == 0) = false := beq_false_of_ne hE2
            have n2 : (E2 != E2) = false := by simp
            clear HV1 HV2
            go_wp2_with (first | (go_at_call 12; refine (first_any _).mono ?_; rintro e w9 ⟨rfl, hb9⟩))
            go_ret
            exact ⟨rfl, hbw.trans (hb9.mono hbw.size)⟩
end Go.Proofs.YtiagflackfkmnaaGreat

namespace Go.Proofs.YtiagflackfkmnaaGreat
set_option linter.unusedVariables false
set_option linter.unusedSimpArgs false
open Go.RowKit

set_option maxRecDepth 100000 in
set_option maxHeartbeats 1000000 in
theorem sameInts_r (a b : Option Addr) (l : List (Int)) (ca cb : Nat) (w : World) (hA : IntsS w a l) (hB : IntsS w b l) :
    Calls Tryz.prog 20 #[.slice a l.length ca, .slice b l.length cb] w fun e w' => e = .returned (.bool true) ∧ Below w.heap.size w w' := by
  obtain ⟨hlen, -, blk, off, hadr, hc⟩ := hA
  obtain ⟨-, -, blk2, off2, hadr2, hc2⟩ := hB
  have HC := Lib.hid hc
  have HC2 := Lib.hid hc2
  have HL : Hid (0 < l.length → a = some ⟨blk, off, none⟩) := Lib.hid fun h => hadr (List.ne_nil_of_length_pos h)
  have HL2 : Hid (0 < l.length → b = some ⟨blk2, off2, none⟩) := Lib.hid fun h => hadr2 (List.ne_nil_of_length_pos h)
  clear hc hc2 hadr hadr2
  have n4 : ((l.length : Int) != l.length) = false := by simp
  go_enter Tryz.func20, Tryz.ntmps20
  go_wp2_with fail
  go_loopw [5] (fun i wr => ∃ k : Nat, k ≤ l.length ∧ i = .int .i64 k ∧ Below w.heap.size w wr) (fun i _ => l.length - (intOf i).toNat)
  case atStart => exact ⟨0, Nat.zero_le _, rfl, Below.refl _ _⟩
  case round =>
    obtain ⟨k, hk, rfl, hb⟩ := hrel
    by_cases hlt : k < l.length
    · obtain rfl := HL.out (by omega)
      obtain rfl := HL2.out (by omega)
      have x0 := cell_below (HC.out k hlt) hb
      have y0 := cell_below (HC2.out k hlt) hb
      clear HC HC2 HL HL2
      generalize (gi l k) = z0 at *
      have e0 : (z0 != z0) = false := by simp
      have e0b : (z0 == z0) = true := by simp
      have g0 : (0 : Int) ≤ (k : Int) := by omega
      have g1 : (k : Int) < l.length := by omega
      go_wp2_with fail
      go_quiet (fail)
      go_wp2_with fail
      go_roundw
      case rel => exact ⟨k + 1, by omega, by go_num, below_drewN hb _⟩
      case measure => simp [intOf]; omega
    · go_wp2_with fail
      go_ret
      exact ⟨rfl, hb⟩
def TriS (w : World) (a : Option Addr) (l : List (Int × Int × Int)) : Prop :=
  l.length ≤ 9223372036854775807 ∧ ∃ blk off, (l ≠ [] → a = some ⟨blk, off, none⟩) ∧ ∀ i, i < l.length → w.cell? ⟨blk, off + i * 3, none⟩ = some (.int .i64 (gt3 l i).1) ∧ w.cell? ⟨blk, off + i * 3 + 1, none⟩ = some (.int .i64 (gt3 l i).2.1) ∧ w.cell? ⟨blk, off + i * 3 + 2, none⟩ = some (.int .i64 (gt3 l i).2.2)
theorem TriS.below {w w' : World} {a : Option Addr} {l : List (Int × Int × Int)} (h : TriS w a l) (hb : Below w.heap.size w w') : TriS w' a l := by
  obtain ⟨h0, blk, off, h2, h3⟩ := h
  exact ⟨h0, blk, off, h2, fun i hi => by
    have hx := h3 i hi
    exact ⟨cell_below hx.1 hb, cell_below hx.2.1 hb, cell_below hx.2.2 hb⟩⟩
theorem tri_own {w : World} {base c : Nat} {a : Option Addr} {zs : List Tri} {T : TypeId} (h : w.ownsRow base T 3 (.slice a zs.length c) zs.length (cl3 zs)) (hn : zs.length ≤ 9223372036854775807) : TriS w a zs := by
  refine ⟨hn, ?_⟩
  rcases h.2 with ⟨h1, h2⟩ | ⟨g2, c2, cur, h1, _⟩
  · exact ⟨0, 0, (fun hne => absurd (List.eq_nil_of_length_eq_zero h2) hne), fun i hi => by omega⟩
  · obtain ⟨rfl, rfl⟩ : a = some ⟨g2, 0, none⟩ ∧ c = c2 := by simpa using h1
    refine ⟨g2, 0, fun _ => rfl, fun i hi => ?_⟩
    obtain ⟨c0, c1, c2⟩ := cl3_c zs i hi
    rw [Nat.zero_add]
    exact ⟨by rw [World.ownsRow.cellAt h (i * 3) (by omega)]; exact c0, by rw [World.ownsRow.cellAt h (i * 3 + 1) (by omega)]; exact c1, by rw [World.ownsRow.cellAt h (i * 3 + 2) (by omega)]; exact c2⟩
theorem tri_nil (w : World) : TriS w none [] := ⟨by decide, 0, 0, fun h => (h rfl).elim, fun i hi => absurd hi (Nat.not_lt_zero i)⟩
set_option maxRecDepth 100000 in
set_option maxHeartbeats 1000000 in
theorem sameHeld_r (a b : Option Addr) (l : List (Int × Int × Int)) (ca cb : Nat) (w : World) (hA : TriS w a l) (hB : TriS w b l) :
    Calls Tryz.prog 30 #[.slice a l.length ca, .slice b l.length cb] w fun e w' => e = .returned (.bool true) ∧ Below w.heap.size w w' := by
  obtain ⟨hlen, blk, off, hadr, hc⟩ := hA
  obtain ⟨-, blk2, off2, hadr2, hc2⟩ := hB
  have HC := Lib.hid hc
  have HC2 := Lib.hid hc2
  have HL : Hid (0 < l.length → a = some ⟨blk, off, none⟩) := Lib.hid fun h => hadr (List.ne_nil_of_length_pos h)
  have HL2 : Hid (0 < l.length → b = some ⟨blk2, off2, none⟩) := Lib.hid fun h => hadr2 (List.ne_nil_of_length_pos h)
  clear hc hc2 hadr hadr2
  have n4 : ((l.length : Int) != l.length) = false := by simp
  go_enter Tryz.func30, Tryz.ntmps30
  go_wp2_with fail
  go_loopw [5] (fun i wr => ∃ k : Nat, k ≤ l.length ∧ i = .int .i64 k ∧ Below w.heap.size w wr) (fun i _ => l.length - (intOf i).toNat)
  case atStart => exact ⟨0, Nat.zero_le _, rfl, Below.refl _ _⟩
  case round =>
    obtain ⟨k, hk, rfl, hb⟩ := hrel
    by_cases hlt : k < l.length
    · obtain rfl := HL.out (by omega)
      obtain rfl := HL2.out (by omega)
      obtain ⟨x0, x1, x2⟩ := HC.out k hlt
      have x0 := cell_below x0 hb
      have x1 := cell_below x1 hb
      have x2 := cell_below x2 hb
      obtain ⟨y0, y1, y2⟩ := HC2.out k hlt
      have y0 := cell_below y0 hb
      have y1 := cell_below y1 hb
      have y2 := cell_below y2 hb
      clear HC HC2 HL HL2
      generalize (gt3 l k).1 = z0 at *
      generalize (gt3 l k).2.1 = z1 at *
      generalize (gt3 l k).2.2 = z2 at *
      have e0 : (z0 != z0) = false := by simp
      have e0b : (z0 == z0) = true := by simp
      have e1 : (z1 != z1) = false := by simp
      have e1b : (z1 == z1) = true := by simp
      have e2 : (z2 != z2) = false := by simp
      have e2b : (z2 == z2) = true := by simp
      have g0 : (0 : Int) ≤ (k : Int) := by omega
      have g1 : (k : Int) < l.length := by omega
      go_wp2_with fail
      go_quiet (fail)
      go_wp2_with fail
      go_roundw
      case rel => exact ⟨k + 1, by omega, by go_num, below_drewN hb _⟩
      case measure => simp [intOf]; omega
    · go_wp2_with fail
      go_ret
      exact ⟨rfl, hb⟩
set_option maxRecDepth 100000 in
set_option maxHeartbeats 1000000 in
theorem sameTold_r (a b : Option Addr) (l : List (Int × Int × Int)) (ca cb : Nat) (w : World) (hA : TriS w a l) (hB : TriS w b l) :
    Calls Tryz.prog 38 #[.slice a l.length ca, .slice b l.length cb] w fun e w' => e = .returned (.bool true) ∧ Below w.heap.size w w' := by
  obtain ⟨hlen, blk, off, hadr, hc⟩ := hA
  obtain ⟨-, blk2, off2, hadr2, hc2⟩ := hB
  have HC := Lib.hid hc
  have HC2 := Lib.hid hc2
  have HL : Hid (0 < l.length → a = some ⟨blk, off, none⟩) := Lib.hid fun h => hadr (List.ne_nil_of_length_pos h)
  have HL2 : Hid (0 < l.length → b = some ⟨blk2, off2, none⟩) := Lib.hid fun h => hadr2 (List.ne_nil_of_length_pos h)
  clear hc hc2 hadr hadr2
  have n4 : ((l.length : Int) != l.length) = false := by simp
  go_enter Tryz.func38, Tryz.ntmps38
  go_wp2_with fail
  go_loopw [5] (fun i wr => ∃ k : Nat, k ≤ l.length ∧ i = .int .i64 k ∧ Below w.heap.size w wr) (fun i _ => l.length - (intOf i).toNat)
  case atStart => exact ⟨0, Nat.zero_le _, rfl, Below.refl _ _⟩
  case round =>
    obtain ⟨k, hk, rfl, hb⟩ := hrel
    by_cases hlt : k < l.length
    · obtain rfl := HL.out (by omega)
      obtain rfl := HL2.out (by omega)
      obtain ⟨x0, x1, x2⟩ := HC.out k hlt
      have x0 := cell_below x0 hb
      have x1 := cell_below x1 hb
      have x2 := cell_below x2 hb
      obtain ⟨y0, y1, y2⟩ := HC2.out k hlt
      have y0 := cell_below y0 hb
      have y1 := cell_below y1 hb
      have y2 := cell_below y2 hb
      clear HC HC2 HL HL2
      generalize (gt3 l k).1 = z0 at *
      generalize (gt3 l k).2.1 = z1 at *
      generalize (gt3 l k).2.2 = z2 at *
      have e0 : (z0 != z0) = false := by simp
      have e0b : (z0 == z0) = true := by simp
      have e1 : (z1 != z1) = false := by simp
      have e1b : (z1 == z1) = true := by simp
      have e2 : (z2 != z2) = false := by simp
      have e2b : (z2 == z2) = true := by simp
      have g0 : (0 : Int) ≤ (k : Int) := by omega
      have g1 : (k : Int) < l.length := by omega
      go_wp2_with fail
      go_quiet (fail)
      go_wp2_with fail
      go_roundw
      case rel => exact ⟨k + 1, by omega, by go_num, below_drewN hb _⟩
      case measure => simp [intOf]; omega
    · go_wp2_with fail
      go_ret
      exact ⟨rfl, hb⟩
set_option maxRecDepth 100000 in
set_option maxHeartbeats 1000000 in
theorem sameFaults_r (a b : Option Addr) (l : List (Int × Int)) (ca cb : Nat) (w : World) (hA : PairsS w a l) (hB : PairsS w b l) :
    Calls Tryz.prog 32 #[.slice a l.length ca, .slice b l.length cb] w fun e w' => e = .returned (.bool true) ∧ Below w.heap.size w w' := by
  obtain ⟨hlen, -, blk, off, hadr, hc⟩ := hA
  obtain ⟨-, -, blk2, off2, hadr2, hc2⟩ := hB
  have HC := Lib.hid hc
  have HC2 := Lib.hid hc2
  have HL : Hid (0 < l.length → a = some ⟨blk, off, none⟩) := Lib.hid fun h => hadr (List.ne_nil_of_length_pos h)
  have HL2 : Hid (0 < l.length → b = some ⟨blk2, off2, none⟩) := Lib.hid fun h => hadr2 (List.ne_nil_of_length_pos h)
  clear hc hc2 hadr hadr2
  have n4 : ((l.length : Int) != l.length) = false := by simp
  go_enter Tryz.func32, Tryz.ntmps32
  go_wp2_with fail
  go_loopw [5] (fun i wr => ∃ k : Nat, k ≤ l.length ∧ i = .int .i64 k ∧ Below w.heap.size w wr) (fun i _ => l.length - (intOf i).toNat)
  case atStart => exact ⟨0, Nat.zero_le _, rfl, Below.refl _ _⟩
  case round =>
    obtain ⟨k, hk, rfl, hb⟩ := hrel
    by_cases hlt : k < l.length
    · obtain rfl := HL.out (by omega)
      obtain rfl := HL2.out (by omega)
      obtain ⟨x0, x1⟩ := HC.out k hlt
      have x0 := cell_below x0 hb
      have x1 := cell_below x1 hb
      obtain ⟨y0, y1⟩ := HC2.out k hlt
      have y0 := cell_below y0 hb
      have y1 := cell_below y1 hb
      clear HC HC2 HL HL2
      generalize (gp l k).1 = z0 at *
      generalize (gp l k).2 = z1 at *
      have e0 : (z0 != z0) = false := by simp
      have e0b : (z0 == z0) = true := by simp
      have e1 : (z1 != z1) = false := by simp
      have e1b : (z1 == z1) = true := by simp
      have g0 : (0 : Int) ≤ (k : Int) := by omega
      have g1 : (k : Int) < l.length := by omega
      go_wp2_with fail
      go_quiet (fail)
      go_wp2_with fail
      go_roundw
      case rel => exact ⟨k + 1, by omega, by go_num, below_drewN hb _⟩
      case measure => simp [intOf]; omega
    · go_wp2_with fail
      go_ret
      exact ⟨rfl, hb⟩
end Go.Proofs.YtiagflackfkmnaaGreat

namespace Go.Proofs.YtiagflackfkmnaaGreat
set_option linter.unusedVariables false
set_option linter.unusedSimpArgs false
open Go.RowKit

set_option maxRecDepth 100000 in
set_option maxHeartbeats 1000000 in
theorem Faults_bad (L : Int) (a : Option Addr) (js : List Int) (ca : Nat) (aa : Option Addr) (l : List Sgn) (cl : Nat) (h : Int) (hV : lstE L js l [] ≠ 0) (w : World) (hI : IntsS w a js) (hA : SgnS w aa l) :
    Calls Tryz.prog 31 #[.agg #[.int .i64 L, .slice a js.length ca], .slice aa l.length cl, .int .i64 h] w fun e w' => e = .returned (.tuple #[.slice none 0 0, .int .i64 (lstE L js l [])]) ∧ Below w.heap.size w w' := by
  have H1 := Lib.hid (fun W (hW : Below w.heap.size w W) => listsError_r L a js ca aa l cl none [] 0 W (hI.below hW) (hA.below hW) (ed_nilR W))
  clear hI hA
  generalize lstE L js l [] = E at *
  have d1 : (E != 0) = true := by simp [hV]
  clear hV
  go_enter Tryz.func31, Tryz.ntmps31
  go_wp2_with fail
  obtain ⟨wB, hwB⟩ : ∃ wB, w.alloc (.cells #[.int .i64 L, .slice a js.length ca] 24) = wB := ⟨_, rfl⟩
  have hb : Below w.heap.size w wB := by rw [← hwB]; exact (Below.refl _ _).alloc (Nat.le_refl _) _
  have l0 : wB.cell? ⟨w.heap.size, 0, none⟩ = some (.int .i64 L) := by rw [← hwB]; simp [go_sem]
  have l1 : wB.cell? ⟨w.heap.size, 1, none⟩ = some (.slice a js.length ca) := by rw [← hwB]; simp [go_sem]
  rw [hwB]
  clear hwB
  go_wp2_with (go_at_call 44; refine (H1.out _ hb).mono ?_; rintro e w1 ⟨rfl, hb1⟩)
  go_ret2
  exact ⟨rfl, hb.trans (hb1.mono hb.size)⟩
set_option maxRecDepth 100000 in
set_option maxHeartbeats 1000000 in
theorem Faults_arg (L : Int) (a : Option Addr) (js : List Int) (ca : Nat) (aa : Option Addr) (l : List Sgn) (cl : Nat) (h : Int) (hV : lstE L js l [] = 0) (hx : ((btw h 0 10000000)) = false) (w : World) (hI : IntsS w a js) (hA : SgnS w aa l) :
    Calls Tryz.prog 31 #[.agg #[.int .i64 L, .slice a js.length ca], .slice aa l.length cl, .int .i64 h] w fun e w' => e = .returned (.tuple #[.slice none 0 0, .int .i64 2]) ∧ Below w.heap.size w w' := by
  have hLb := (lst_good hV).1
  have H1 := Lib.hid (fun W (hW : Below w.heap.size w W) => by
    have := listsError_r L a js ca aa l cl none [] 0 W (hI.below hW) (hA.below hW) (ed_nilR W)
    rw [hV] at this
    exact this)
  have K0 := Lib.hid (fun W => isHour_r h W)
  clear hI hA hV hLb
  generalize btw h 0 10000000 = b0 at *
  cases b0 with
  | false =>
    clear hx
    go_enter Tryz.func31, Tryz.ntmps31
    go_wp2_with fail
    obtain ⟨wB, hwB⟩ : ∃ wB, w.alloc (.cells #[.int .i64 L, .slice a js.length ca] 24) = wB := ⟨_, rfl⟩
    have hb : Below w.heap.size w wB := by rw [← hwB]; exact (Below.refl _ _).alloc (Nat.le_refl _) _
    have l0 : wB.cell? ⟨w.heap.size, 0, none⟩ = some (.int .i64 L) := by rw [← hwB]; simp [go_sem]
    have l1 : wB.cell? ⟨w.heap.size, 1, none⟩ = some (.slice a js.length ca) := by rw [← hwB]; simp [go_sem]
    rw [hwB]
    clear hwB
    go_wp2_with (first | (go_at_call 44; refine (H1.out _ hb).mono ?_; rintro e w1 ⟨rfl, hb1⟩; replace hb := hb.trans (hb1.mono hb.size); replace l0 := cell_below l0 hb1; replace l1 := cell_below l1 hb1; clear hb1) | (go_at_call 45; refine (K0.out _).mono ?_; rintro e w2 ⟨rfl, rfl⟩))
    go_ret2
    exact ⟨rfl, hb⟩
  | true =>
    cases hx
/-- Faults with an error. -/
def FltA (X : List Flt) (E : Int) (w : World) (e : Ending) (w' : World) : Prop := ∃ b c, e = .returned (.tuple #[.slice b X.length c, .int .i64 E]) ∧ PairsS w' b X ∧ Below w.heap.size w w'
theorem pairs_nil0 (w : World) : PairsS w none [] := ⟨by decide, fun i hi => absurd hi (Nat.not_lt_zero i), 0, 0, fun h => (h rfl).elim, fun i hi => absurd hi (Nat.not_lt_zero i)⟩
theorem Faults_any (L : Int) (a : Option Addr) (js : List Int) (ca : Nat) (aa : Option Addr) (l : List Sgn) (cl : Nat) (h : Int) (b9 : Bool) (w : World) (hI : IntsS w a js) (hA : SgnS w aa l) :
    Calls Tryz.prog 31 #[.agg #[.int .i64 L, .slice a js.length ca], .slice aa l.length cl, .int .i64 h] w (FltA (if whyK (lineB L js) true (sgnsB L js l) false b9 (btw h 0 10000000) = 0 then refF L js h l else []) (whyK (lineB L js) true (sgnsB L js l) false b9 (btw h 0 10000000)) w) := by
  obtain ⟨k1, k2⟩ := lst_s L js l true b9 (btw h 0 10000000)
  by_cases hV : lstE L js l [] = 0
  · rw [k2 hV]
    cases hx : btw h 0 10000000 with
    | false =>
      rw [if_pos rfl, if_neg (by decide)]
      refine (Faults_arg L a js ca aa l cl h hV hx w hI hA).mono ?_
      rintro e w' ⟨rfl, hb⟩
      exact ⟨none, 0, rfl, pairs_nil0 _, hb⟩
    | true =>
      rw [if_neg (show ¬ (true = false) by decide), if_pos rfl]
      refine (Faults_good L a js ca aa l cl h hV hx w hI hA).mono ?_
      rintro e w' ⟨M, S, b, c, hM, hp, hs, rfl, hS, hb⟩
      have := fault_eq hV hM hp hs
      subst this
      exact ⟨b, c, rfl, hS, hb⟩
  · rw [k1 hV, if_neg hV]
    refine (Faults_bad L a js ca aa l cl h hV w hI hA).mono ?_
    rintro e w' ⟨rfl, hb⟩
    exact ⟨none, 0, rfl, pairs_nil0 _, hb⟩
set_option linter.unnecessarySimpa false
set_option maxRecDepth 100000 in
set_option maxHeartbeats 4000000 in
theorem ruleFaults_any (L : Int) (a : Option Addr) (js : List Int) (ca : Nat) (aa : Option Addr) (l : List Sgn) (cl : Nat) (ae : Option Addr) (q : List Edc) (cq : Nat) (q0 q1 q2 q3 : Int) (w : World) (hI : IntsS w a js) (hA : SgnS w aa l) (hE : EdS w ae q) : Calls Tryz.prog 6 #[.agg #[.int .i64 L, .slice a js.length ca, .slice aa l.length cl, .slice ae q.length cq, .int .i64 q0, .int .i64 q1, .int .i64 q2, .int .i64 q3]] w fun e w' => e = .returned (.bool true) ∧ Below w.heap.size w w' := by
  have HH := Lib.hid (fun W (hW : Below w.heap.size w W) => Heavy_any L a js ca aa l cl ae q cq q0 q1 q2 q3 W (hI.below hW) (hA.below hW) (hE.below hW))
  have HP := Lib.hid (fun W (hW : Below w.heap.size w W) => Faults_any L a js ca aa l cl q0 (edcsB L js q) W (hI.below hW) (hA.below hW))
  have HW := Lib.hid (fun W (hW : Below w.heap.size w W) r => why_r L a js ca aa l cl ae q cq q0 q1 q2 q3 true false r W (hI.below hW) (hA.below hW) (hE.below hW))
  have HR : Hid (whyK (lineB L js) true (sgnsB L js l) false (edcsB L js q) (btw q0 0 10000000) = 0 → ∀ W, Below w.heap.size w W → Calls Tryz.prog 33 #[.agg #[.int .i64 L, .slice a js.length ca], .slice aa l.length cl, .int .i64 q0] W (FauR (refF L js q0 l) W)) := Lib.hid fun h W hW => by
    by_cases hV : lstE L js l [] = 0
    · exact refFaults_r L a js ca aa l cl q0 hV W (hI.below hW) (hA.below hW)
    · rw [(lst_s L js l true _ _).1 hV] at h; exact absurd h hV
  have HH1 := Lib.hid (fun W => hour_r q0 W)
  generalize btw q0 0 10000000 = bh at *
  have HW2 := Lib.hid (fun W (hW : Below w.heap.size w W) => HW.out W hW bh)
  clear HW
  generalize whyK (lineB L js) true (sgnsB L js l) false (edcsB L js q) bh = E at *
  generalize refF L js q0 l = VR at *
  obtain ⟨X, hX⟩ : ∃ X, (if E = 0 then VR else []) = X := ⟨_, rfl⟩
  rw [hX] at HP
  have HX := Lib.hid hX
  clear hX
  clear hI hA hE
  go_enter Tryz.func6, Tryz.ntmps6
  go_wp2_with fail
  obtain ⟨wB, hwB⟩ : ∃ wB, w.alloc (.cells #[.int .i64 L, .slice a js.length ca, .slice aa l.length cl, .slice ae q.length cq, .int .i64 q0, .int .i64 q1, .int .i64 q2, .int .i64 q3] 28) = wB := ⟨_, rfl⟩
  have hb : Below w.heap.size w wB := by rw [← hwB]; exact (Below.refl _ _).alloc (Nat.le_refl _) _
  have p0 : wB.cell? ⟨w.heap.size, 0, none⟩ = some (.int .i64 L) := by rw [← hwB]; simp [go_sem]
  have p1 : wB.cell? ⟨w.heap.size, 1, none⟩ = some (.slice a js.length ca) := by rw [← hwB]; simp [go_sem]
  have p2 : wB.cell? ⟨w.heap.size, 2, none⟩ = some (.slice aa l.length cl) := by rw [← hwB]; simp [go_sem]
  have p3 : wB.cell? ⟨w.heap.size, 3, none⟩ = some (.slice ae q.length cq) := by rw [← hwB]; simp [go_sem]
  have p4 : wB.cell? ⟨w.heap.size, 4, none⟩ = some (.int .i64 q0) := by rw [← hwB]; simp [go_sem]
  have p5 : wB.cell? ⟨w.heap.size, 5, none⟩ = some (.int .i64 q1) := by rw [← hwB]; simp [go_sem]
  have p6 : wB.cell? ⟨w.heap.size, 6, none⟩ = some (.int .i64 q2) := by rw [← hwB]; simp [go_sem]
  have p7 : wB.cell? ⟨w.heap.size, 7, none⟩ = some (.int .i64 q3) := by rw [← hwB]; simp [go_sem]
  rw [hwB]
  clear hwB
  refine (HH.out _ hb).mono ?_
  rintro e wX ⟨bv, hHv, rfl, hb1⟩
  replace p0 := cell_below p0 hb1
  replace p1 := cell_below p1 hb1
  replace p2 := cell_below p2 hb1
  replace p3 := cell_below p3 hb1
  replace p4 := cell_below p4 hb1
  replace p5 := cell_below p5 hb1
  replace p6 := cell_below p6 hb1
  replace p7 := cell_below p7 hb1
  have hbw := hb.trans (hb1.mono hb.size)
  clear HH hb1
  cases bv with
  | true =>
    clear HP HW2 HR HH1 HX X hHv
    go_wp2_with (go_at_call 12; refine (first_any _).mono ?_; rintro e w9 ⟨rfl, hb9⟩)
    go_ret
    exact ⟨rfl, hbw.trans (hb9.mono hbw.size)⟩
  | false =>
    have HHv := Lib.hid (hHv rfl)
    have hz := block_lt p0
    have Z0 := Lib.hid p0
    have Z1 := Lib.hid p1
    have Z2 := Lib.hid p2
    have Z3 := Lib.hid p3
    have Z4 := Lib.hid p4
    have Z5 := Lib.hid p5
    have Z6 := Lib.hid p6
    have Z7 := Lib.hid p7
    have HBW := Lib.hid hbw
    clear p0 p1 p2 p3 p4 p5 p6 p7 hb hbw hHv
    have hbw := HBW.out
    have p0 := Z0.out
    have p1 := Z1.out
    have p2 := Z2.out
    have p3 := Z3.out
    have p4 := Z4.out
    have p5 := Z5.out
    have p6 := Z6.out
    have p7 := Z7.out
    clear Z0 Z1 Z2 Z3 Z4 Z5 Z6 Z7
    go_upto_region 4 with (go_at_call 31; refine (HP.out _ hbw).mono ?_; rintro e w9 ⟨b1, c1, rfl, hT1, hb9⟩; have HT1 := Lib.hid hT1; clear hT1; replace hbw := hbw.trans (hb9.mono hbw.size); replace p0 := cell_below p0 hb9; replace p1 := cell_below p1 hb9; replace p2 := cell_below p2 hb9; replace p3 := cell_below p3 hb9; replace p4 := cell_below p4 hb9; replace p5 := cell_below p5 hb9; replace p6 := cell_below p6 hb9; replace p7 := cell_below p7 hb9; clear hb9)
    obtain ⟨wY, rfl⟩ : ∃ wY : World, wY = w9 := ⟨_, rfl⟩
    clear HP
    have hzz := block_lt p0
    have Y0 := Lib.hid p0
    have Y1 := Lib.hid p1
    have Y2 := Lib.hid p2
    have Y3 := Lib.hid p3
    have Y4 := Lib.hid p4
    have Y5 := Lib.hid p5
    have Y6 := Lib.hid p6
    have Y7 := Lib.hid p7
    have HBY := Lib.hid hbw
    have HWX := Lib.hid (fun W (hW : Below wY.heap.size wY W) => HW2.out W (HBY.out.trans (hW.mono HBY.out.size)))
    clear HW2 hbw
    have hB : Below wY.heap.size wY wY := Below.refl _ _
    go_region_held3 (fun w' => w'.cell? ⟨w.heap.size, 0, none⟩ = some (.int .i64 L) ∧ w'.cell? ⟨w.heap.size, 1, none⟩ = some (.slice a js.length ca) ∧ w'.cell? ⟨w.heap.size, 2, none⟩ = some (.slice aa l.length cl) ∧ w'.cell? ⟨w.heap.size, 3, none⟩ = some (.slice ae q.length cq) ∧ w'.cell? ⟨w.heap.size, 4, none⟩ = some (.int .i64 q0) ∧ w'.cell? ⟨w.heap.size, 5, none⟩ = some (.int .i64 q1) ∧ w'.cell? ⟨w.heap.size, 6, none⟩ = some (.int .i64 q2) ∧ w'.cell? ⟨w.heap.size, 7, none⟩ = some (.int .i64 q3)) (go_keep)
      (first
        | (go_at_call 17
           refine (HH1.out _).mono ?_
           rintro e w9 ⟨rfl, rfl⟩
           skip)
        | (go_at_call 16
           refine (HWX.out _ (show Below wY.heap.size wY _ by first | exact hB | exact hB.drew)).mono ?_
           rintro e w9 ⟨rfl, hb9⟩
           replace hB : Below wY.heap.size wY w9 := (show Below wY.heap.size wY _ by first | exact hB | exact hB.drew).trans (hb9.mono (by have := hB.size; first | exact this | (simp; exact this)))
           have p0 := (hB.cell (p := ⟨w.heap.size, 0, none⟩) hzz).trans Y0.out
           have p1 := (hB.cell (p := ⟨w.heap.size, 1, none⟩) hzz).trans Y1.out
           have p2 := (hB.cell (p := ⟨w.heap.size, 2, none⟩) hzz).trans Y2.out
           have p3 := (hB.cell (p := ⟨w.heap.size, 3, none⟩) hzz).trans Y3.out
           have p4 := (hB.cell (p := ⟨w.heap.size, 4, none⟩) hzz).trans Y4.out
           have p5 := (hB.cell (p := ⟨w.heap.size, 5, none⟩) hzz).trans Y5.out
           have p6 := (hB.cell (p := ⟨w.heap.size, 6, none⟩) hzz).trans Y6.out
           have p7 := (hB.cell (p := ⟨w.heap.size, 7, none⟩) hzz).trans Y7.out
           skip))
    all_goals
      have hbw := HBY.out.trans (hB.mono HBY.out.size)
      replace HT1 := Lib.hid (HT1.out.below hB)
      by_cases hE : E = 0
      · obtain rfl : X = VR := by rw [← HX.out, if_pos hE]
        subst hE
        clear HX
        go_wp2_with (first | (go_at_call 33; refine (HR.out (by trivial) _ hbw).mono ?_; rintro e w9 ⟨b3, c3, rfl, hT3, hb9⟩; have HT3 := Lib.hid hT3; clear hT3; replace hbw := hbw.trans (hb9.mono hbw.size); replace HT1 := Lib.hid (HT1.out.below hb9); clear hb9) | (go_at_call 32; refine (sameFaults_r _ _ _ _ _ _ HT1.out HT3.out).mono ?_; rintro e w9 ⟨rfl, hb9⟩; replace hbw := hbw.trans (hb9.mono hbw.size); clear hb9) | (go_at_call 12; refine (first_any _).mono ?_; rintro e w9 ⟨rfl, hb9⟩))
        go_ret
        exact ⟨rfl, hbw.trans (hb9.mono hbw.size)⟩
      · obtain rfl : X = [] := by rw [← HX.out, if_neg hE]
        have d1 : (E != 0) = true := by simp [hE]
        have d2 : (E == E) = true := by simp
        clear HX hE HT1
        go_wp2_with (go_at_call 12; refine (first_any _).mono ?_; rintro e w9 ⟨rfl, hb9⟩)
        go_ret
        exact ⟨rfl, hbw.trans (hb9.mono hbw.size)⟩
end Go.Proofs.YtiagflackfkmnaaGreat
