/-
  needed. By an AI agent.; The sanity check of the laws of package rule. By an AI agent.; Heavy of package rule's laws. By an AI agent.; The program's Propose. By an AI agent.; The law RuleHolds. By an AI agent.
-/
import Derived.Test.YtneafbhiencjlaaGreatDoorMgRuleProposed1
import Derived.Test.YtneafbhiencjlaaGreatDoorMgRuleProposed2
import Derived.Test.YtneafbhiencjlaaGreatDoorMgRuleProposed8
import Derived.Test.YtneafbhiencjlaaGreatDoorMgRuleProposed9
import Derived.Test.YtneafbhiencjlaaGreatDoorMgRuleProposed11
import Derived.Test.YtneafbhiencjlaaGreatDoorMgRuleProposed12
import Derived.Deep.RegionHeld3
import Derived.Deep.DeepCutAuto
import Derived.BigQuiet
import Derived.BigRegion
import Derived.StillTailTactics
import Derived.Deep.AppendLies

namespace Go.Proofs.YtneafbhiencjlaaGreatDoor
set_option linter.unusedVariables false
set_option linter.unusedSimpArgs false
open Go.RowKit

theorem signInfo : (Tryz.prog.info? 51).map (fun i => (i.zero, i.size, i.bytes)) = some (some (.agg #[.int .i64 0, .int .i64 0, .int .i64 0, .int .i64 0, .int .i64 0, .int .i64 0, .int .i64 0, .int .i64 0, .slice none 0 0]), 9, 88) := by kernel_rfl
/-- The state behind the first k looks. -/
def stK (L : Int) (js : List Int) (q : List Edc) (h T D : Int) (K : List Int) (k : Nat) : Int × List (Int × Int) := (K.take k).foldl (stpN L js q h T D) (0, [])
theorem stK_succ {L : Int} {js : List Int} {q : List Edc} {h T D : Int} {K : List Int} {k : Nat} (hk : k < K.length) : stK L js q h T D K (k + 1) = stpN L js q h T D (stK L js q h T D K k) (gi K k) := by
  unfold stK
  rw [List.take_add_one, List.getElem?_eq_getElem hk, Option.toList_some, List.foldl_append, gi_at _ hk]
  rfl
theorem stK_len {L : Int} {js : List Int} {q : List Edc} {h T D : Int} {K : List Int} : ∀ k, k ≤ K.length → (stK L js q h T D K k).2.length ≤ k
  | 0, _ => by unfold stK; simp
  | k + 1, hk => by
    rw [stK_succ (by omega)]
    have h1 := stpN_len L js q h T D (stK L js q h T D K k) (gi K k)
    have h2 := stK_len (L := L) (js := js) (q := q) (h := h) (T := T) (D := D) (K := K) k (by omega)
    omega
set_option maxRecDepth 100000 in
set_option maxHeartbeats 4000000 in
theorem needed_r (L : Int) (a : Option Addr) (js : List Int) (ca : Nat) (ae : Option Addr) (q : List Edc) (cq : Nat) (h T D : Int) (hV : lstE L js [] q = 0) (hh : btw h 0 10000000 = true) (hT : T = 1 ∨ T = 2) (hD : dirB D = true) (w : World) (hI : IntsS w a js) (hE : EdS w ae q) :
    Calls Tryz.prog 26 #[.agg #[.int .i64 L, .slice a js.length ca], .slice ae q.length cq, .int .i64 h, .agg #[.int .i64 T, .int .i64 D]] w fun e w' => ∃ b c, e = .returned (.slice b (wayN L js q h T D).length c) ∧ w'.ownsRow w.heap.size 51 9 (.slice b (wayN L js q h T D).length c) (wayN L js q h T D).length (cl9 (wayN L js q h T D)) ∧ Below w.heap.size w w' := by
  obtain ⟨hl, hL1, hL2⟩ := lst_line hV
  have hjm := ((line_iff L js).1 hl).2.2.1
  have hql := edcs_len (lst_edcs hV)
  have hhb := btw_ge hh
  obtain ⟨-, -, hcm⟩ := want_cuts hV
  have hqb : ∀ j, j < q.length → -1000000 ≤ (ge q j).fr ∧ (ge q j).fr ≤ 1000000 ∧ -1000000 ≤ (ge q j).tt ∧ (ge q j).tt ≤ 1000000 := fun j hj => by
    have := edc_bd (edc_in (lst_edcs hV) j hj)
    omega
  have hin : ∀ k, k ∈ looksK L js q D → 0 ≤ k ∧ k < L := fun k hk => by
    obtain ⟨h1, c, hc, e⟩ := looks_mem.1 hk
    refine ⟨?_, h1⟩
    have hcb : 0 ≤ c ∧ c ≤ L := by
      rcases List.mem_append.1 hc with hc | hc
      · exact hcm c hc
      · have := hjm c hc; omega
    rw [← e]
    exact (dst_in hD hcb.1 hcb.2).1
  have hFin := looks_all (js := js) (q := q) (h := h) (T := T) hL1 hD hcm hjm
  have HWa := Lib.hid (fun W (hW : Below w.heap.size w W) => wanted_r L a js.length ca ae q cq h T D (by omega) hqb (by omega) W (hE.below hW))
  have HLo := Lib.hid (fun F0 aq c1 W (hW : Below w.heap.size w W) (hQ : IntsS W aq (cutsW L q q.length)) => looks_r L a js ca D q F0 aq c1 hV hD W (hI.below hW) hQ)
  have HEw := Lib.hid (fun W (hW : Below w.heap.size w W) => hE.below hW)
  have HIw := Lib.hid (fun W (hW : Below w.heap.size w W) => hI.below hW)
  have HDs0 := Lib.hid (fun (x : Int) W (hx : 0 ≤ x ∧ x < L) => distance_r L a js.length ca D x (by omega) hL2 (by omega) (by omega) W)
  have HMa0 := Lib.hid (fun (x : Int) W (hx : 0 ≤ x ∧ x < L) => metreAt_r L a js.length ca D x (by omega) hL2 (by omega) (by omega) W)
  have HCo0 := Lib.hid (fun (x : Int) W (hW : Below w.heap.size w W) => contains_r L D a js ca x W (hI.below hW))
  have HCh0 := Lib.hid (fun v c W => changing_r T D v c h hT hhb W)
  obtain ⟨K, hK⟩ : ∃ K, looksK L js q D = K := ⟨_, rfl⟩
  rw [hK] at HLo hin hFin
  have hKl : K.length ≤ 100000 := by
    rw [← hK]
    have h1 := cmp_len (srt (allK L js q D))
    rw [srt_len] at h1
    have h2 : (allK L js q D).length ≤ (cutsW L q q.length ++ js).length := by unfold allK; refine Nat.le_trans (List.length_filter_le _ _) ?_; rw [List.length_map]; exact Nat.le_refl _
    rw [List.length_append, cutsW_len] at h2
    have h3 := ((line_iff L js).1 hl).2.1
    have h4 : (looksK L js q D).length = (Lib.compact (srt (allK L js q D))).length := rfl
    omega
  have HIn : Hid (∀ k, k < K.length → 0 ≤ gi K k ∧ gi K k < L) := Lib.hid fun k hk => hin _ (gi_mem hk)
  have HFin : Hid (((stK L js q h T D K K.length).2.map (sgC T D h 0)) = wayN L js q h T D) := Lib.hid (by unfold stK wayN; rw [List.take_length, hFin])
  have HFl : Hid ((stK L js q h T D K K.length).2.length = (wayN L js q h T D).length) := Lib.hid (by rw [← HFin.out, List.length_map])
  obtain ⟨n0, hi, hz0, hz1, hz2⟩ := info_parts signInfo
  clear hI hE hV hh hqb hin hFin hK hjm hcm hql hl
  go_enter Tryz.func26, Tryz.ntmps26
  go_upto_region 2 with (fail)
  obtain ⟨wB, hwB⟩ : ∃ wB, (w.alloc (.cells #[.int .i64 L, .slice a js.length ca] 24)).alloc (.cells #[.int .i64 T, .int .i64 D] 59) = wB := ⟨_, rfl⟩
  have hb : Below w.heap.size w wB := by rw [← hwB]; exact ((Below.refl _ _).alloc (Nat.le_refl _) _).alloc (by simp) _
  have l0 : wB.cell? ⟨w.heap.size, 0, none⟩ = some (.int .i64 L) := by rw [← hwB]; simp [go_sem]
  have l1 : wB.cell? ⟨w.heap.size, 1, none⟩ = some (.slice a js.length ca) := by rw [← hwB]; simp [go_sem]
  have n0w : wB.cell? ⟨w.heap.size + 1, 0, none⟩ = some (.int .i64 T) := by rw [← hwB]; simp [go_sem]
  have n1w : wB.cell? ⟨w.heap.size + 1, 1, none⟩ = some (.int .i64 D) := by rw [← hwB]; simp [go_sem]
  rw [hwB]
  clear hwB
  obtain ⟨bw, hbwx⟩ : ∃ bw, w.heap.size + 1 = bw := ⟨_, rfl⟩
  rw [hbwx] at n0w n1w ⊢
  clear hbwx
  go_upto_region 4 with (go_at_call 32; refine (HWa.out _ hb).mono ?_; rintro e w3 ⟨eb, hb8, wb8, aq, cq2, k1, k2, k3, k4, rfl, hQ, hb3⟩)
  obtain ⟨wz, hwz⟩ : ∃ wz, w3.alloc (.cells #[.func (.func 68) #[] #[.pointer (some ⟨eb, 0, none⟩), .pointer (some ⟨hb8, 0, none⟩), .pointer (some ⟨wb8, 0, none⟩)], .slice aq (cutsW L q q.length).length cq2] 67) = wz := ⟨_, rfl⟩
  have hal : Below w3.heap.size w3 wz := by rw [← hwz]; exact (Below.refl _ _).alloc (Nat.le_refl _) _
  have m0 : wz.cell? ⟨w3.heap.size, 0, none⟩ = some (.func (.func 68) #[] #[.pointer (some ⟨eb, 0, none⟩), .pointer (some ⟨hb8, 0, none⟩), .pointer (some ⟨wb8, 0, none⟩)]) := by rw [← hwz]; simp [go_sem]
  have m1 : wz.cell? ⟨w3.heap.size, 1, none⟩ = some (.slice aq (cutsW L q q.length).length cq2) := by rw [← hwz]; simp [go_sem]
  rw [hwz]
  clear hwz
  have hal2 := hb3.trans (hal.mono hb3.size)
  replace l0 := cell_below l0 hal2
  replace l1 := cell_below l1 hal2
  replace n0w := cell_below n0w hal2
  replace n1w := cell_below n1w hal2
  replace k1 := cell_below k1 hal
  replace k2 := cell_below k2 hal
  replace k3 := cell_below k3 hal
  replace k4 := cell_below k4 hal
  have HQ := Lib.hid (hQ.below hal)
  have hb := hb.trans (hal2.mono hb.size)
  obtain ⟨bc, hbc⟩ : ∃ bc, w3.heap.size = bc := ⟨_, rfl⟩
  rw [hbc] at m0 m1 ⊢
  clear hbc hal hal2 hb3 hQ HWa
  go_wp2_with (go_at_call 60; refine (HLo.out _ aq cq2 _ hb HQ.out).mono ?_; rintro e w9 ⟨b9, c9, rfl, hK9, hb9⟩)
  have L0 := Lib.hid (cell_below l0 hb9)
  have L1 := Lib.hid (cell_below l1 hb9)
  have NW0 := Lib.hid (cell_below n0w hb9)
  have NW1 := Lib.hid (cell_below n1w hb9)
  have M0 := Lib.hid (cell_below m0 hb9)
  have HW0 := Lib.hid (fun m W (hW : Below w9.heap.size w9 W) (hw2 : Below w.heap.size w W) => show Calls Tryz.prog 68 #[.int .i64 m, .pointer (some ⟨eb, 0, none⟩), .pointer (some ⟨hb8, 0, none⟩), .pointer (some ⟨wb8, 0, none⟩)] W (fun e w' => e = .returned (.int .i64 (mustV q h T D m)) ∧ Below W.heap.size W w') from wanted1_r ae q cq eb hb8 wb8 h T D m W (HEw.out W hw2) (cell_below (cell_below k1 hb9) hW) (cell_below (cell_below k2 hb9) hW) (cell_below (cell_below k3 hb9) hW) (cell_below (cell_below k4 hb9) hW))
  have HB := Lib.hid (hb.trans (hb9.mono hb.size))
  obtain ⟨-, -, blk, off, hadr, hck⟩ := hK9
  have HC := Lib.hid hck
  have HLa : Hid (0 < K.length → b9 = some ⟨blk, off, none⟩) := Lib.hid fun h => hadr (List.ne_nil_of_length_pos h)
  clear l0 l1 n0w n1w m0 m1 k1 k2 k3 k4 hadr hck HQ HLo hb hb9 HEw
  go_loopw [9, 11, 27] (fun sv nv i wr => ∃ (k : Nat) (av : Option Addr) (cv : Nat), k ≤ K.length ∧ i = .int .i64 k ∧ sv = .slice av (stK L js q h T D K k).2.length cv ∧ nv = .int .i64 (stK L js q h T D K k).1 ∧ Hid (wr.ownsRow w9.heap.size 51 9 (.slice av (stK L js q h T D K k).2.length cv) (stK L js q h T D K k).2.length (cl9 ((stK L js q h T D K k).2.map (sgC T D h 0)))) ∧ Below w9.heap.size w9 wr) (fun _ _ i _ => K.length - (intOf i).toNat)
  case atStart => exact ⟨0, none, 0, Nat.zero_le _, rfl, rfl, rfl, Lib.hid (World.ownsRow_nil _ _ _ _), Below.refl _ _⟩
  case round =>
    obtain ⟨k, av, cv, hk, rfl, rfl, rfl, HRow, hbr⟩ := hrel
    have hbw := HB.out.trans (hbr.mono HB.out.size)
    by_cases hlt : k < K.length
    · obtain rfl := HLa.out (by omega)
      have l0 := cell_below L0.out hbr
      have l1 := cell_below L1.out hbr
      have m0 := cell_below M0.out hbr
      have n0w := cell_below NW0.out hbr
      have n1w := cell_below NW1.out hbr
      have x0 := cell_below (HC.out k hlt) hbr
      have hx := HIn.out k hlt
      have HDs := Lib.hid (fun W => HDs0.out (gi K k) W hx)
      have HMa := Lib.hid (fun W => HMa0.out (gi K k) W hx)
      have HCo := Lib.hid (fun W (hW : Below w.heap.size w W) => HCo0.out (gi K k) W hW)
      have HW1 := Lib.hid (fun W (hW : Below w9.heap.size w9 W) => show Calls Tryz.prog 68 #[.int .i64 (begK L D (gi K k)), .pointer (some ⟨eb, 0, none⟩), .pointer (some ⟨hb8, 0, none⟩), .pointer (some ⟨wb8, 0, none⟩)] W (fun e w' => e = .returned (.int .i64 (vK L q h T D (gi K k))) ∧ Below W.heap.size W w') from HW0.out (begK L D (gi K k)) W hW (HB.out.trans (hW.mono HB.out.size)))
      have HNx := Lib.hid (stK_succ (L := L) (js := js) (q := q) (h := h) (T := T) (D := D) hlt)
      have hsl := stK_len (L := L) (js := js) (q := q) (h := h) (T := T) (D := D) k hk
      obtain ⟨N0, OUT, hst⟩ : ∃ N0 OUT, (stK L js q h T D K k) = (N0, OUT) := ⟨_, _, rfl⟩
      have HNx : Hid ((stK L js q h T D K (k + 1)) = if vK L q h T D (gi K k) = (if jnB L D js (gi K k) = true then 0 else N0) then ((if jnB L D js (gi K k) = true then 0 else N0), OUT) else (vK L q h T D (gi K k), OUT ++ [(dstK L D (gi K k), vK L q h T D (gi K k))])) := Lib.hid (by rw [HNx.out, hst]; rfl)
      rw [hst] at HRow hsl ⊢
      have HRow : Hid (wr.ownsRow w9.heap.size 51 9 (.slice av OUT.length cv) OUT.length (cl9 (OUT.map (sgC T D h 0)))) := HRow
      replace hsl : OUT.length ≤ k := hsl
      have k0 : (0 : Int) ≤ (k : Int) := by omega
      have k1 : (k : Int) < (K.length : Int) := by omega
      clear hst HC HLa HDs0 HMa0 HCo0 HIn HW0 L0 L1 M0 NW0 NW1
      generalize vK L q h T D (gi K k) = v at *
      generalize begK L D (gi K k) = bk at *
      generalize dstK L D (gi K k) = c at *
      obtain ⟨kn, hkn⟩ : ∃ kn, kndK T v = kn := ⟨_, rfl⟩
      obtain ⟨vv, hvv⟩ : ∃ vv, (if T = 1 then v else 0) = vv := ⟨_, rfl⟩
      have HKv : Hid (kndK T v = kn ∧ (if T = 1 then v else 0) = vv) := Lib.hid ⟨hkn, hvv⟩
      have HCh := Lib.hid (fun W => show Calls Tryz.prog 64 #[.agg #[.int .i64 T, .int .i64 D], .int .i64 v, .int .i64 c, .int .i64 h] W (fun e w' => e = .returned (.agg #[.int .i64 0, .int .i64 kn, .int .i64 vv, .int .i64 c, .int .i64 D, .int .i64 T, .int .i64 h, .int .i64 (h + 1), .slice none 0 0]) ∧ Below W.heap.size W w') by
        have := HCh0.out v c W
        unfold sg9 sgC at this
        rw [hkn, hvv] at this
        exact this)
      clear hkn hvv HCh0
      obtain ⟨J, hJ⟩ : ∃ J, jnB L D js (gi K k) = J := ⟨_, rfl⟩
      generalize gi K k = x at *
      cases J with
      | true =>
        · have HNx : Hid ((stK L js q h T D K (k + 1)) = if v = 0 then (0, OUT) else (v, OUT ++ [(c, v)])) := Lib.hid (by rw [HNx.out, hJ]; rfl)
          have HCo := Lib.hid (fun W (hW : Below w.heap.size w W) => by have := HCo.out W hW; rw [hJ] at this; exact this)
          clear hJ
          go_upto_region 10 with (first | (go_at_call 61; refine (HDs.out _).mono ?_; rintro e w3 ⟨rfl, hb3⟩; replace hbw := hbw.trans (hb3.mono hbw.size); replace l0 := cell_below l0 hb3; replace l1 := cell_below l1 hb3; replace m0 := cell_below m0 hb3; replace n0w := cell_below n0w hb3; replace n1w := cell_below n1w hb3; have hbx := hb3) | (go_at_call 62; refine (HCo.out _ hbw).mono ?_; rintro e w4 ⟨rfl, hb4⟩; replace hbw := hbw.trans (hb4.mono hbw.size); replace l0 := cell_below l0 hb4; replace l1 := cell_below l1 hb4; replace m0 := cell_below m0 hb4; replace n0w := cell_below n0w hb4; replace n1w := cell_below n1w hb4; replace hbx := hbx.trans (hb4.mono hbx.size)))
          have hbr := hbr.trans (hbx.mono hbr.size)
          have HRow := Lib.hid (owns_belowI HRow.out hbx)
          have HW1 := Lib.hid (fun W (hW : Below w4.heap.size w4 W) => HW1.out W (hbr.trans (hW.mono hbr.size)))
          obtain ⟨wr, rfl⟩ : ∃ wx : World, wx = w4 := ⟨_, rfl⟩
          have hzl := block_lt l0
          have hzm := block_lt m0
          have hzn := block_lt n0w
          clear hbx HDs HCo hb3 hb4
          refine wp_region_held_drew (S := fun w' => Below wr.heap.size wr w') (by kernel_rfl) ((Below.refl _ _).drew) (fun hHeld => ?_)
          refine takeU (i := 0) (some 40) (.pointer (some ⟨bc, 0, none⟩)) (by kernel_rfl) (by kernel_rfl) (by kernel_rfl) (by kernel_rfl) (by kernel_rfl) (fun _ => by kernel_rfl) (fun _ _ _ h => h) hHeld ?_
          refine wpAnyH_take (i := 1) (oi := { dst := some 41, op := Go.Op.load 65 (Go.Operand.tmp 40), type := 65, pos := "propose.go:40", after := #[{ on := 0, ground := Go.Ground.data }], guard := none }) (v := .func (.func 68) #[] #[.pointer (some ⟨eb, 0, none⟩), .pointer (some ⟨hb8, 0, none⟩), .pointer (some ⟨wb8, 0, none⟩)]) rfl (by kernel_rfl) (by kernel_rfl) (by kernel_rfl) (fun _ _ _ h => h) (.inl ⟨by kernel_rfl, fun w9 h9 => by
            clear hHeld
            have d0 := (h9.cell (p := ⟨bc, 0, none⟩) hzm).trans m0
            clear h9
            go_simp⟩) hHeld ?_
          refine wpAnyH_take (i := 2) (oi := { dst := some 42, op := Go.Op.load 24 (Go.Operand.tmp 4), type := 24, pos := "propose.go:40", after := #[], guard := none }) (v := .agg #[.int .i64 L, .slice a js.length ca]) rfl (by kernel_rfl) (by kernel_rfl) (by kernel_rfl) (fun _ _ _ h => h) (.inl ⟨by kernel_rfl, fun w9 h9 => by
            clear hHeld
            have d0 := (h9.cell (p := ⟨w.heap.size, 0, none⟩) hzl).trans l0
            have d1 := (h9.cell (p := ⟨w.heap.size, 1, none⟩) hzl).trans l1
            clear h9
            go_simp⟩) hHeld ?_
          refine takeU (i := 3) (some 43) (.pointer (some ⟨bw, 1, none⟩)) (by kernel_rfl) (by kernel_rfl) (by kernel_rfl) (by kernel_rfl) (by kernel_rfl) (fun _ => by kernel_rfl) (fun _ _ _ h => h) hHeld ?_
          refine wpAnyH_take (i := 4) (oi := { dst := some 44, op := Go.Op.load 3 (Go.Operand.tmp 43), type := 3, pos := "propose.go:40", after := #[{ on := 3, ground := Go.Ground.data }], guard := none }) (v := .int .i64 D) rfl (by kernel_rfl) (by kernel_rfl) (by kernel_rfl) (fun _ _ _ h => h) (.inl ⟨by kernel_rfl, fun w9 h9 => by
            clear hHeld
            have d0 := (h9.cell (p := ⟨bw, 1, none⟩) hzn).trans n1w
            clear h9
            go_simp⟩) hHeld ?_
          refine takeU (i := 5) (some 45) (.int .i64 x) (by kernel_rfl) (by kernel_rfl) (by kernel_rfl) (by kernel_rfl) (by kernel_rfl) (fun _ => by kernel_rfl) (fun _ _ _ h => h) hHeld ?_
          try simp only [Act.put, List.setIfInBounds_toArray, List.set_cons_zero, List.set_cons_succ]
          refine wpAnyH_ready (rs := [6]) (by kernel_rfl) (by simp) ?_
          refine AllReadyH.cons (o := { dst := some 46, op := Go.Op.call { callee := Go.Callee.value (Go.Operand.func 63), args := #[Go.Operand.tmp 42, Go.Operand.tmp 44, Go.Operand.tmp 45], argTypes := #[24, 3, 3] }, type := 3, pos := "propose.go:40", after := #[{ on := 2, ground := Go.Ground.data }, { on := 4, ground := Go.Ground.data }, { on := 5, ground := Go.Ground.data }], guard := none }) rfl (fun K hK => ?_) AllReadyH.nil
          go_simp
          go_at_call 63
          refine (HMa.out _).mono ?_
          rintro e w69 ⟨rfl, hb69⟩
          refine hK.out _ _ (hHeld.trans (hb69.mono hHeld.size)) (fun hHeld => ?_)
          clear hK K hb69
          try simp only [Act.put, List.setIfInBounds_toArray, List.set_cons_zero, List.set_cons_succ]
          try simp only [Act.put, List.setIfInBounds_toArray, List.set_cons_zero, List.set_cons_succ]
          refine wpAnyH_ready (rs := [7]) (by kernel_rfl) (by simp) ?_
          refine AllReadyH.cons (o := { dst := some 47, op := Go.Op.call { callee := Go.Callee.value (Go.Operand.tmp 41), args := #[Go.Operand.tmp 46], argTypes := #[3] }, type := 3, pos := "propose.go:40", after := #[{ on := 1, ground := Go.Ground.data }, { on := 6, ground := Go.Ground.data }, { on := 6, ground := Go.Ground.chain }], guard := none }) rfl (fun K hK => ?_) AllReadyH.nil
          go_simp
          go_at_call 68
          refine (HW1.out _ hHeld).mono ?_
          rintro e w79 ⟨rfl, hb79⟩
          refine hK.out _ _ (hHeld.trans (hb79.mono hHeld.size)) (fun hHeld => ?_)
          clear hK K hb79
          try simp only [Act.put, List.setIfInBounds_toArray, List.set_cons_zero, List.set_cons_succ]
          refine takeU (i := 8) (some 15) (.int .i64 v) (by kernel_rfl) (by kernel_rfl) (by kernel_rfl) (by kernel_rfl) (by kernel_rfl) (fun _ => by kernel_rfl) (fun _ _ _ h => h) hHeld ?_
          refine wpAnyH_done (by kernel_rfl) ?_ _
          try simp only [Act.put, List.setIfInBounds_toArray, List.set_cons_zero, List.set_cons_succ]
          have hbr := hbr.trans (hHeld.mono hbr.size)
          have HRow := Lib.hid (owns_belowI HRow.out hHeld)
          have hbw := hbw.trans (hHeld.mono hbw.size)
          have n0w := cell_below n0w hHeld
          have n1w := cell_below n1w hHeld
          obtain ⟨wA, rfl⟩ : ∃ wx : World, wx = w79 := ⟨_, rfl⟩
          clear hHeld l0 l1 m0 hzl hzm hzn HMa HW1
          by_cases hv : v = 0
          · have e0 : (v != 0) = false := by simp [hv]
            have HNn : Hid ((stK L js q h T D K (k + 1)) = (0, OUT)) := Lib.hid (by rw [HNx.out, if_pos hv])
            clear hv HNx HCh
            go_wp2_with fail
            go_roundw
            case rel => exact ⟨k + 1, av, cv, by omega, by go_num, by rw [HNn.out], by rw [HNn.out], Lib.hid (by rw [HNn.out]; exact HRow.out), hbr⟩
            case measure => simp [intOf]; omega
          · have e0 : (v != 0) = true := by simp [hv]
            have HNn : Hid ((stK L js q h T D K (k + 1)) = (v, OUT ++ [(c, v)])) := Lib.hid (by rw [HNx.out, if_neg hv])
            have HAP : Hid (OUT.length + 1 = (stK L js q h T D K (k + 1)).2.length ∧ cl9 (OUT.map (sgC T D h 0)) ++ [.int .i64 0, .int .i64 kn, .int .i64 vv, .int .i64 c, .int .i64 D, .int .i64 T, .int .i64 h, .int .i64 (h + 1), .slice none 0 0] = cl9 ((stK L js q h T D K (k + 1)).2.map (sgC T D h 0)) ∧ (stK L js q h T D K (k + 1)).1 = v) := Lib.hid (by
              rw [HNn.out]
              refine ⟨by simp, ?_, rfl⟩
              show _ = cl9 ((OUT ++ [(c, v)]).map (sgC T D h 0))
              rw [List.map_append, List.map_cons, List.map_nil, cl9_app, ← HKv.out.1, ← HKv.out.2]
              rfl)
            clear hv HNx HNn HKv
            go_wp2_with (first | (go_at_call 64; refine (HCh.out _).mono ?_; rintro e w5 ⟨rfl, hb5⟩; have hbr5 := hbr.trans (hb5.mono hbr.size); have hown := Lib.hid ((owns_belowI HRow.out hb5).alloc (.cells #[.int .i64 0, .int .i64 kn, .int .i64 vv, .int .i64 c, .int .i64 D, .int .i64 T, .int .i64 h, .int .i64 (h + 1), .slice none 0 0] 51)); have hbs := hbr5.size; clear hb5) | (at_builtin; go_loud (refine wpList_append_lies _ rfl _ _ 25 rfl w9.heap.size 51 n0 _ 9 88 Tryz.underlying25 hi hz0 hz1 hz2 rfl (by decide) (.slice _ OUT.length cv) OUT.length _ (by rfl) hown.out ⟨w5.heap.size, 0, none⟩ 1 1 [.int .i64 0, .int .i64 kn, .int .i64 vv, .int .i64 c, .int .i64 D, .int .i64 T, .int .i64 h, .int .i64 (h + 1), .slice none 0 0] (by rfl) (by rfl) ?d1 ?d2 (by decide) ?d3 ?d4 ?d5 _ rfl ?_)))
            case d1 =>
              refine World.news_of_block (cs := #[.int .i64 0, .int .i64 kn, .int .i64 vv, .int .i64 c, .int .i64 D, .int .i64 T, .int .i64 h, .int .i64 (h + 1), .slice none 0 0]) (t := 51) (fr := (0, 0)) ?_
              exact heap_alloc_new _ _
            case d2 => simp [Value.oneCell']
            case d3 => unfold maxLen; omega
            case d4 => omega
            case d5 => first | (simp; omega) | simp | omega
            intro g6 c6 w6 hown6 hgrow6 hat6 hlt6
            have hb6 : Below w9.heap.size w9 w6 := ((hbr5.alloc hbs _).grown hgrow6 (by first | (simp; omega) | simp | omega) (fun z hz => owns_blockI hown.out hz))
            go_wp2_with fail
            go_roundw
            case rel => exact ⟨k + 1, some ⟨g6, 0, none⟩, c6, by omega, by go_num, by rw [← HAP.out.1], by rw [HAP.out.2.2], Lib.hid (by rw [← HAP.out.1, ← HAP.out.2.1]; exact hown6), hb6⟩
            case measure => simp [intOf]; omega
      | false =>
        · have HNx : Hid ((stK L js q h T D K (k + 1)) = if v = N0 then (N0, OUT) else (v, OUT ++ [(c, v)])) := Lib.hid (by rw [HNx.out, hJ]; rfl)
          have HCo := Lib.hid (fun W (hW : Below w.heap.size w W) => by have := HCo.out W hW; rw [hJ] at this; exact this)
          clear hJ
          go_upto_region 10 with (first | (go_at_call 61; refine (HDs.out _).mono ?_; rintro e w3 ⟨rfl, hb3⟩; replace hbw := hbw.trans (hb3.mono hbw.size); replace l0 := cell_below l0 hb3; replace l1 := cell_below l1 hb3; replace m0 := cell_below m0 hb3; replace n0w := cell_below n0w hb3; replace n1w := cell_below n1w hb3; have hbx := hb3) | (go_at_call 62; refine (HCo.out _ hbw).mono ?_; rintro e w4 ⟨rfl, hb4⟩; replace hbw := hbw.trans (hb4.mono hbw.size); replace l0 := cell_below l0 hb4; replace l1 := cell_below l1 hb4; replace m0 := cell_below m0 hb4; replace n0w := cell_below n0w hb4; replace n1w := cell_below n1w hb4; replace hbx := hbx.trans (hb4.mono hbx.size)))
          have hbr := hbr.trans (hbx.mono hbr.size)
          have HRow := Lib.hid (owns_belowI HRow.out hbx)
          have HW1 := Lib.hid (fun W (hW : Below w4.heap.size w4 W) => HW1.out W (hbr.trans (hW.mono hbr.size)))
          obtain ⟨wr, rfl⟩ : ∃ wx : World, wx = w4 := ⟨_, rfl⟩
          have hzl := block_lt l0
          have hzm := block_lt m0
          have hzn := block_lt n0w
          clear hbx HDs HCo hb3 hb4
          refine wp_region_held_drew (S := fun w' => Below wr.heap.size wr w') (by kernel_rfl) ((Below.refl _ _).drew) (fun hHeld => ?_)
          refine takeU (i := 0) (some 40) (.pointer (some ⟨bc, 0, none⟩)) (by kernel_rfl) (by kernel_rfl) (by kernel_rfl) (by kernel_rfl) (by kernel_rfl) (fun _ => by kernel_rfl) (fun _ _ _ h => h) hHeld ?_
          refine wpAnyH_take (i := 1) (oi := { dst := some 41, op := Go.Op.load 65 (Go.Operand.tmp 40), type := 65, pos := "propose.go:40", after := #[{ on := 0, ground := Go.Ground.data }], guard := none }) (v := .func (.func 68) #[] #[.pointer (some ⟨eb, 0, none⟩), .pointer (some ⟨hb8, 0, none⟩), .pointer (some ⟨wb8, 0, none⟩)]) rfl (by kernel_rfl) (by kernel_rfl) (by kernel_rfl) (fun _ _ _ h => h) (.inl ⟨by kernel_rfl, fun w9 h9 => by
            clear hHeld
            have d0 := (h9.cell (p := ⟨bc, 0, none⟩) hzm).trans m0
            clear h9
            go_simp⟩) hHeld ?_
          refine wpAnyH_take (i := 2) (oi := { dst := some 42, op := Go.Op.load 24 (Go.Operand.tmp 4), type := 24, pos := "propose.go:40", after := #[], guard := none }) (v := .agg #[.int .i64 L, .slice a js.length ca]) rfl (by kernel_rfl) (by kernel_rfl) (by kernel_rfl) (fun _ _ _ h => h) (.inl ⟨by kernel_rfl, fun w9 h9 => by
            clear hHeld
            have d0 := (h9.cell (p := ⟨w.heap.size, 0, none⟩) hzl).trans l0
            have d1 := (h9.cell (p := ⟨w.heap.size, 1, none⟩) hzl).trans l1
            clear h9
            go_simp⟩) hHeld ?_
          refine takeU (i := 3) (some 43) (.pointer (some ⟨bw, 1, none⟩)) (by kernel_rfl) (by kernel_rfl) (by kernel_rfl) (by kernel_rfl) (by kernel_rfl) (fun _ => by kernel_rfl) (fun _ _ _ h => h) hHeld ?_
          refine wpAnyH_take (i := 4) (oi := { dst := some 44, op := Go.Op.load 3 (Go.Operand.tmp 43), type := 3, pos := "propose.go:40", after := #[{ on := 3, ground := Go.Ground.data }], guard := none }) (v := .int .i64 D) rfl (by kernel_rfl) (by kernel_rfl) (by kernel_rfl) (fun _ _ _ h => h) (.inl ⟨by kernel_rfl, fun w9 h9 => by
            clear hHeld
            have d0 := (h9.cell (p := ⟨bw, 1, none⟩) hzn).trans n1w
            clear h9
            go_simp⟩) hHeld ?_
          refine takeU (i := 5) (some 45) (.int .i64 x) (by kernel_rfl) (by kernel_rfl) (by kernel_rfl) (by kernel_rfl) (by kernel_rfl) (fun _ => by kernel_rfl) (fun _ _ _ h => h) hHeld ?_
          try simp only [Act.put, List.setIfInBounds_toArray, List.set_cons_zero, List.set_cons_succ]
          refine wpAnyH_ready (rs := [6]) (by kernel_rfl) (by simp) ?_
          refine AllReadyH.cons (o := { dst := some 46, op := Go.Op.call { callee := Go.Callee.value (Go.Operand.func 63), args := #[Go.Operand.tmp 42, Go.Operand.tmp 44, Go.Operand.tmp 45], argTypes := #[24, 3, 3] }, type := 3, pos := "propose.go:40", after := #[{ on := 2, ground := Go.Ground.data }, { on := 4, ground := Go.Ground.data }, { on := 5, ground := Go.Ground.data }], guard := none }) rfl (fun K hK => ?_) AllReadyH.nil
          go_simp
          go_at_call 63
          refine (HMa.out _).mono ?_
          rintro e w69 ⟨rfl, hb69⟩
          refine hK.out _ _ (hHeld.trans (hb69.mono hHeld.size)) (fun hHeld => ?_)
          clear hK K hb69
          try simp only [Act.put, List.setIfInBounds_toArray, List.set_cons_zero, List.set_cons_succ]
          try simp only [Act.put, List.setIfInBounds_toArray, List.set_cons_zero, List.set_cons_succ]
          refine wpAnyH_ready (rs := [7]) (by kernel_rfl) (by simp) ?_
          refine AllReadyH.cons (o := { dst := some 47, op := Go.Op.call { callee := Go.Callee.value (Go.Operand.tmp 41), args := #[Go.Operand.tmp 46], argTypes := #[3] }, type := 3, pos := "propose.go:40", after := #[{ on := 1, ground := Go.Ground.data }, { on := 6, ground := Go.Ground.data }, { on := 6, ground := Go.Ground.chain }], guard := none }) rfl (fun K hK => ?_) AllReadyH.nil
          go_simp
          go_at_call 68
          refine (HW1.out _ hHeld).mono ?_
          rintro e w79 ⟨rfl, hb79⟩
          refine hK.out _ _ (hHeld.trans (hb79.mono hHeld.size)) (fun hHeld => ?_)
          clear hK K hb79
          try simp only [Act.put, List.setIfInBounds_toArray, List.set_cons_zero, List.set_cons_succ]
          refine takeU (i := 8) (some 15) (.int .i64 v) (by kernel_rfl) (by kernel_rfl) (by kernel_rfl) (by kernel_rfl) (by kernel_rfl) (fun _ => by kernel_rfl) (fun _ _ _ h => h) hHeld ?_
          refine wpAnyH_done (by kernel_rfl) ?_ _
          try simp only [Act.put, List.setIfInBounds_toArray, List.set_cons_zero, List.set_cons_succ]
          have hbr := hbr.trans (hHeld.mono hbr.size)
          have HRow := Lib.hid (owns_belowI HRow.out hHeld)
          have hbw := hbw.trans (hHeld.mono hbw.size)
          have n0w := cell_below n0w hHeld
          have n1w := cell_below n1w hHeld
          obtain ⟨wA, rfl⟩ : ∃ wx : World, wx = w79 := ⟨_, rfl⟩
          clear hHeld l0 l1 m0 hzl hzm hzn HMa HW1
          by_cases hv : v = N0
          · have e0 : (v != N0) = false := by simp [hv]
            have HNn : Hid ((stK L js q h T D K (k + 1)) = (N0, OUT)) := Lib.hid (by rw [HNx.out, if_pos hv])
            clear hv HNx HCh
            go_wp2_with fail
            go_roundw
            case rel => exact ⟨k + 1, av, cv, by omega, by go_num, by rw [HNn.out], by rw [HNn.out], Lib.hid (by rw [HNn.out]; exact HRow.out), hbr⟩
            case measure => simp [intOf]; omega
          · have e0 : (v != N0) = true := by simp [hv]
            have HNn : Hid ((stK L js q h T D K (k + 1)) = (v, OUT ++ [(c, v)])) := Lib.hid (by rw [HNx.out, if_neg hv])
            have HAP : Hid (OUT.length + 1 = (stK L js q h T D K (k + 1)).2.length ∧ cl9 (OUT.map (sgC T D h 0)) ++ [.int .i64 0, .int .i64 kn, .int .i64 vv, .int .i64 c, .int .i64 D, .int .i64 T, .int .i64 h, .int .i64 (h + 1), .slice none 0 0] = cl9 ((stK L js q h T D K (k + 1)).2.map (sgC T D h 0)) ∧ (stK L js q h T D K (k + 1)).1 = v) := Lib.hid (by
              rw [HNn.out]
              refine ⟨by simp, ?_, rfl⟩
              show _ = cl9 ((OUT ++ [(c, v)]).map (sgC T D h 0))
              rw [List.map_append, List.map_cons, List.map_nil, cl9_app, ← HKv.out.1, ← HKv.out.2]
              rfl)
            clear hv HNx HNn HKv
            go_wp2_with (first | (go_at_call 64; refine (HCh.out _).mono ?_; rintro e w5 ⟨rfl, hb5⟩; have hbr5 := hbr.trans (hb5.mono hbr.size); have hown := Lib.hid ((owns_belowI HRow.out hb5).alloc (.cells #[.int .i64 0, .int .i64 kn, .int .i64 vv, .int .i64 c, .int .i64 D, .int .i64 T, .int .i64 h, .int .i64 (h + 1), .slice none 0 0] 51)); have hbs := hbr5.size; clear hb5) | (at_builtin; go_loud (refine wpList_append_lies _ rfl _ _ 25 rfl w9.heap.size 51 n0 _ 9 88 Tryz.underlying25 hi hz0 hz1 hz2 rfl (by decide) (.slice _ OUT.length cv) OUT.length _ (by rfl) hown.out ⟨w5.heap.size, 0, none⟩ 1 1 [.int .i64 0, .int .i64 kn, .int .i64 vv, .int .i64 c, .int .i64 D, .int .i64 T, .int .i64 h, .int .i64 (h + 1), .slice none 0 0] (by rfl) (by rfl) ?d1 ?d2 (by decide) ?d3 ?d4 ?d5 _ rfl ?_)))
            case d1 =>
              refine World.news_of_block (cs := #[.int .i64 0, .int .i64 kn, .int .i64 vv, .int .i64 c, .int .i64 D, .int .i64 T, .int .i64 h, .int .i64 (h + 1), .slice none 0 0]) (t := 51) (fr := (0, 0)) ?_
              exact heap_alloc_new _ _
            case d2 => simp [Value.oneCell']
            case d3 => unfold maxLen; omega
            case d4 => omega
            case d5 => first | (simp; omega) | simp | omega
            intro g6 c6 w6 hown6 hgrow6 hat6 hlt6
            have hb6 : Below w9.heap.size w9 w6 := ((hbr5.alloc hbs _).grown hgrow6 (by first | (simp; omega) | simp | omega) (fun z hz => owns_blockI hown.out hz))
            go_wp2_with fail
            go_roundw
            case rel => exact ⟨k + 1, some ⟨g6, 0, none⟩, c6, by omega, by go_num, by rw [← HAP.out.1], by rw [HAP.out.2.2], Lib.hid (by rw [← HAP.out.1, ← HAP.out.2.1]; exact hown6), hb6⟩
            case measure => simp [intOf]; omega
    · obtain rfl : k = K.length := by omega
      have HEnd : Hid (∃ b c, Ending.returned (.slice av (stK L js q h T D K K.length).2.length cv) = .returned (.slice b (wayN L js q h T D).length c) ∧ wr.ownsRow w.heap.size 51 9 (.slice b (wayN L js q h T D).length c) (wayN L js q h T D).length (cl9 (wayN L js q h T D)) ∧ Below w.heap.size w wr) := Lib.hid ⟨av, cv, by rw [HFl.out], by
        have h1 := HRow.out
        rw [HFl.out, HFin.out] at h1
        exact owns_baseI h1 HB.out.size, hbw⟩
      clear HRow HC HLa HDs0 HMa0 HCo0 HIn HW0 HCh0
      go_wp2_with fail
      go_ret
      exact HEnd.out
end Go.Proofs.YtneafbhiencjlaaGreatDoor

namespace Go.Proofs.YtneafbhiencjlaaGreatDoor
set_option linter.unusedVariables false
set_option linter.unusedSimpArgs false
open Go.RowKit

def exS : Sgn := ⟨1, 1, 70, 200, 1, 1, 0, 9, []⟩
theorem ex_srt : srt [0, 1000, 200, 600] = [0, 200, 600, 1000] := by simp [srt, List.mergeSort]
theorem ex_srt1 : srt [1] = [1] := by simp [srt]
theorem ex_lst : lstE 1000 [600] [exS] [] = 0 := by
  have e1 : nosK [exS] [exS].length = [1] := rfl
  have e2 : nosE [] ([] : List Edc).length = [] := rfl
  have e3 : srt ([] : List Int) = [] := by simp [srt]
  unfold lstE sgnsB edcsB numB
  rw [e1, e2, e3, ex_srt1]
  decide
theorem ex_held (row : List Pst) (h : RowL 1000 [600] 1 3 [exS] row) : hldM 1000 1 1 row = [(200, 600, 70)] := by
  obtain ⟨ad, cp, l1, hp, -, rfl⟩ := h
  have e : rowK 1000 [600] 1 3 [exS] ad cp [exS].length = [(mkP 1000 [600] 1 exS, ad 0, cp 0)] := rfl
  rw [e] at hp
  obtain rfl := List.perm_singleton.1 hp
  have e2 : (finP [(mkP 1000 [600] 1 exS, ad 0, cp 0)] ([(mkP 1000 [600] 1 exS, ad 0, cp 0)].length - 1)).map (·.1) = [mkP 1000 [600] 1 exS] := rfl
  rw [e2]
  have e3 : cutsK 1000 1 [mkP 1000 [600] 1 exS] [mkP 1000 [600] 1 exS].length = [0, 1000, 200, 600] := by decide
  unfold hldM ascL
  rw [e3, ex_srt]
  decide
theorem pairs_nilR (w : World) : PairsS w none [] := ⟨by decide, fun i hi => absurd hi (Nat.not_lt_zero i), 0, 0, fun h => (h rfl).elim, fun i hi => absurd hi (Nat.not_lt_zero i)⟩
theorem ex_ints {w : World} {b : Nat} (h : w.cell? ⟨b, 0, none⟩ = some (.int .i64 600)) : IntsS w (some ⟨b, 0, none⟩) [600] := ⟨by decide, fun i hi => by
  have hi : i < 1 := hi
  obtain rfl : i = 0 := by omega
  exact ⟨by decide, by decide⟩, b, 0, fun _ => rfl, fun i hi => by
  have hi : i < 1 := hi
  obtain rfl : i = 0 := by omega
  exact h⟩
theorem ex_sgn {w : World} {b : Nat} (h : w.heap[b]? = some (.cells #[.int .i64 1, .int .i64 1, .int .i64 70, .int .i64 200, .int .i64 1, .int .i64 1, .int .i64 0, .int .i64 9, .slice none 0 0] 51)) : SgnS w (some ⟨b, 0, none⟩) [exS] := ⟨by decide, b, 0, fun _ => none, fun _ => 0, fun _ => rfl, fun i hi => by
  have hi : i < 1 := hi
  obtain rfl : i = 0 := by omega
  exact ⟨⟨by simp [World.cell?, h]; rfl, by simp [World.cell?, h]; rfl, by simp [World.cell?, h]; rfl, by simp [World.cell?, h]; rfl, by simp [World.cell?, h]; rfl, by simp [World.cell?, h]; rfl, by simp [World.cell?, h]; rfl, by simp [World.cell?, h]; rfl⟩, by simp [World.cell?, h]; rfl, pairs_nilR _⟩⟩
/-- The example's stretch. -/
def ExE (w : World) (e : Ending) (w' : World) : Prop := ∃ g c, e = .returned (.tuple #[.slice (some ⟨g, 0, none⟩) 1 c, .int .i64 0]) ∧ w'.cell? ⟨g, 0, none⟩ = some (.int .i64 200) ∧ w'.cell? ⟨g, 1, none⟩ = some (.int .i64 600) ∧ w'.cell? ⟨g, 2, none⟩ = some (.int .i64 70) ∧ Below w.heap.size w w'
theorem ex_call (b1 b2 : Nat) (w : World) (h1 : IntsS w (some ⟨b1, 0, none⟩) [600]) (h2 : SgnS w (some ⟨b2, 0, none⟩) [exS]) : Calls Tryz.prog 23 #[.agg #[.int .i64 1000, .slice (some ⟨b1, 0, none⟩) 1 1], .slice (some ⟨b2, 0, none⟩) 1 1, .int .i64 3, .int .i64 1, .int .i64 1] w (ExE w) := by
  refine (Held_good 1000 (some ⟨b1, 0, none⟩) [600] 1 (some ⟨b2, 0, none⟩) [exS] 1 3 1 1 ex_lst (by decide) (by decide) (by decide) w h1 h2).mono ?_
  rintro e w' ⟨row, b, c, hRL, rfl, hown, hb⟩
  rw [ex_held row hRL] at hown ⊢
  rcases hown.2 with ⟨h1, h2⟩ | ⟨g2, c2, cur, h1, _⟩
  · cases h2
  · obtain ⟨rfl, rfl⟩ : b = some ⟨g2, 0, none⟩ ∧ c = c2 := by simpa using h1
    exact ⟨g2, c, rfl, (World.ownsRow.cellAt hown 0 (by decide)).trans rfl, (World.ownsRow.cellAt hown 1 (by decide)).trans rfl, (World.ownsRow.cellAt hown 2 (by decide)).trans rfl, hb⟩
set_option maxRecDepth 100000 in
set_option maxHeartbeats 1000000 in
theorem first_any (w : World) : Calls Tryz.prog 7 #[] w fun e w' => e = .returned (.bool true) ∧ Below w.heap.size w w' := by
  go_enter Tryz.func7, Tryz.ntmps7
  go_wp2_with fail
  obtain ⟨wB, hwB⟩ : ∃ wB, ((w.alloc (.cells #[.int .i64 600] 3)).alloc (.cells #[.int .i64 1000, .slice (some ⟨w.heap.size, 0, none⟩) 1 1] 24)).alloc (.cells #[.int .i64 1, .int .i64 1, .int .i64 70, .int .i64 200, .int .i64 1, .int .i64 1, .int .i64 0, .int .i64 9, .slice none 0 0] 51) = wB := ⟨_, rfl⟩
  have hb : Below w.heap.size w wB := by rw [← hwB]; exact (((Below.refl _ _).alloc (Nat.le_refl _) _).alloc (by simp) _).alloc (by simp; omega) _
  have HI : Hid (IntsS wB (some ⟨w.heap.size, 0, none⟩) [600]) := Lib.hid (ex_ints (by rw [← hwB]; simp [go_sem]))
  have HS : Hid (SgnS wB (some ⟨w.heap.size + 1 + 1, 0, none⟩) [exS]) := Lib.hid (ex_sgn (by rw [← hwB]; have := heap_alloc_new ((w.alloc (.cells #[.int .i64 600] 3)).alloc (.cells #[.int .i64 1000, .slice (some ⟨w.heap.size, 0, none⟩) 1 1] 24)) (.cells #[.int .i64 1, .int .i64 1, .int .i64 70, .int .i64 200, .int .i64 1, .int .i64 1, .int .i64 0, .int .i64 9, .slice none 0 0] 51); simpa using this))
  rw [hwB]
  clear hwB
  refine (ex_call _ _ _ HI.out HS.out).mono ?_
  rintro e w1 ⟨g, c, rfl, c0, c1, c2, hb1⟩
  have hb := hb.trans (hb1.mono hb.size)
  clear hb1 HI HS
  go_wp2_with fail
  go_ret
  exact ⟨rfl, hb⟩
end Go.Proofs.YtneafbhiencjlaaGreatDoor

namespace Go.Proofs.YtneafbhiencjlaaGreatDoor
set_option linter.unusedVariables false
set_option linter.unusedSimpArgs false
open Go.RowKit

/-- Heavy says whether an ask is too large. -/
def HvyE (L : Int) (js : List Int) (l : List Sgn) (q : List Edc) (w : World) (e : Ending) (w' : World) : Prop :=
  ∃ b : Bool, (b = false → js.length ≤ 60 ∧ l.length ≤ 120 ∧ q.length ≤ 60 ∧ (lineB L js = true → L ≤ 500)) ∧ e = .returned (.bool b) ∧ Below w.heap.size w w'
set_option maxRecDepth 100000 in
set_option maxHeartbeats 2000000 in
theorem Heavy_any (L : Int) (a : Option Addr) (js : List Int) (ca : Nat) (aa : Option Addr) (l : List Sgn) (cl : Nat) (ae : Option Addr) (q : List Edc) (cq : Nat) (q0 q1 q2 q3 : Int) (w : World) (hI : IntsS w a js) (hA : SgnS w aa l) (hE : EdS w ae q) : Calls Tryz.prog 13 #[.agg #[.int .i64 L, .slice a js.length ca, .slice aa l.length cl, .slice ae q.length cq, .int .i64 q0, .int .i64 q1, .int .i64 q2, .int .i64 q3]] w (HvyE L js l q w) := by
  have HV := Lib.hid (fun W (hW : Below w.heap.size w W) => refValidLine_r L a js ca W (hI.below hW))
  obtain ⟨-, blk, off, ad, cp, hadr, hc⟩ := hA
  have HC : Hid (∀ i, i < l.length → w.cell? ⟨blk, off + i * 9 + 8, none⟩ = some (.slice (ad i) (gs l i).cv.length (cp i))) := Lib.hid fun i hi => (hc i hi).2.1
  have HL : Hid (0 < l.length → aa = some ⟨blk, off, none⟩) := Lib.hid fun h => hadr (List.ne_nil_of_length_pos h)
  have HCV : Hid (∀ i, i < l.length → (gs l i).cv.length ≤ 9223372036854775807) := Lib.hid fun i hi => (hc i hi).2.2.1
  have hq := hE.1
  have hj := hI.1
  clear hI hE hadr hc
  by_cases h1 : 60 < js.length
  · have h1i : (60 : Int) < (js.length : Int) := by omega
    clear HV HC HL
    go_enter Tryz.func13, Tryz.ntmps13
    go_wp2_with fail
    obtain ⟨wB, hwB⟩ : ∃ wB, w.alloc (.cells #[.int .i64 L, .slice a js.length ca, .slice aa l.length cl, .slice ae q.length cq, .int .i64 q0, .int .i64 q1, .int .i64 q2, .int .i64 q3] 28) = wB := ⟨_, rfl⟩
    have hb : Below w.heap.size w wB := by rw [← hwB]; exact (Below.refl _ _).alloc (Nat.le_refl _) _
    have p0 : wB.cell? ⟨w.heap.size, 0, none⟩ = some (.int .i64 L) := by rw [← hwB]; simp [go_sem]
    have p1 : wB.cell? ⟨w.heap.size, 1, none⟩ = some (.slice a js.length ca) := by rw [← hwB]; simp [go_sem]
    have p2 : wB.cell? ⟨w.heap.size, 2, none⟩ = some (.slice aa l.length cl) := by rw [← hwB]; simp [go_sem]
    have p3 : wB.cell? ⟨w.heap.size, 3, none⟩ = some (.slice ae q.length cq) := by rw [← hwB]; simp [go_sem]
    have p4 : wB.cell? ⟨w.heap.size, 4, none⟩ = some (.int .i64 q0) := by rw [← hwB]; simp [go_sem]
    have p5 : wB.cell? ⟨w.heap.size, 5, none⟩ = some (.int .i64 q1) := by rw [← hwB]; simp [go_sem]
    have p6 : wB.cell? ⟨w.heap.size, 6, none⟩ = some (.int .i64 q2) := by rw [← hwB]; simp [go_sem]
    have p7 : wB.cell? ⟨w.heap.size, 7, none⟩ = some (.int .i64 q3) := by rw [← hwB]; simp [go_sem]
    rw [hwB]
    clear hwB
    go_wp2_with fail
    go_ret
    exact ⟨true, (fun h => by cases h), rfl, hb⟩
  have h1i : ¬ (60 : Int) < (js.length : Int) := by omega
  by_cases h2 : 120 < l.length
  · have h2i : (120 : Int) < (l.length : Int) := by omega
    clear HV HC HL
    go_enter Tryz.func13, Tryz.ntmps13
    go_wp2_with fail
    obtain ⟨wB, hwB⟩ : ∃ wB, w.alloc (.cells #[.int .i64 L, .slice a js.length ca, .slice aa l.length cl, .slice ae q.length cq, .int .i64 q0, .int .i64 q1, .int .i64 q2, .int .i64 q3] 28) = wB := ⟨_, rfl⟩
    have hb : Below w.heap.size w wB := by rw [← hwB]; exact (Below.refl _ _).alloc (Nat.le_refl _) _
    have p0 : wB.cell? ⟨w.heap.size, 0, none⟩ = some (.int .i64 L) := by rw [← hwB]; simp [go_sem]
    have p1 : wB.cell? ⟨w.heap.size, 1, none⟩ = some (.slice a js.length ca) := by rw [← hwB]; simp [go_sem]
    have p2 : wB.cell? ⟨w.heap.size, 2, none⟩ = some (.slice aa l.length cl) := by rw [← hwB]; simp [go_sem]
    have p3 : wB.cell? ⟨w.heap.size, 3, none⟩ = some (.slice ae q.length cq) := by rw [← hwB]; simp [go_sem]
    have p4 : wB.cell? ⟨w.heap.size, 4, none⟩ = some (.int .i64 q0) := by rw [← hwB]; simp [go_sem]
    have p5 : wB.cell? ⟨w.heap.size, 5, none⟩ = some (.int .i64 q1) := by rw [← hwB]; simp [go_sem]
    have p6 : wB.cell? ⟨w.heap.size, 6, none⟩ = some (.int .i64 q2) := by rw [← hwB]; simp [go_sem]
    have p7 : wB.cell? ⟨w.heap.size, 7, none⟩ = some (.int .i64 q3) := by rw [← hwB]; simp [go_sem]
    rw [hwB]
    clear hwB
    go_wp2_with fail
    go_ret
    exact ⟨true, (fun h => by cases h), rfl, hb⟩
  have h2i : ¬ (120 : Int) < (l.length : Int) := by omega
  by_cases h3 : 60 < q.length
  · have h3i : (60 : Int) < (q.length : Int) := by omega
    clear HV HC HL
    go_enter Tryz.func13, Tryz.ntmps13
    go_wp2_with fail
    obtain ⟨wB, hwB⟩ : ∃ wB, w.alloc (.cells #[.int .i64 L, .slice a js.length ca, .slice aa l.length cl, .slice ae q.length cq, .int .i64 q0, .int .i64 q1, .int .i64 q2, .int .i64 q3] 28) = wB := ⟨_, rfl⟩
    have hb : Below w.heap.size w wB := by rw [← hwB]; exact (Below.refl _ _).alloc (Nat.le_refl _) _
    have p0 : wB.cell? ⟨w.heap.size, 0, none⟩ = some (.int .i64 L) := by rw [← hwB]; simp [go_sem]
    have p1 : wB.cell? ⟨w.heap.size, 1, none⟩ = some (.slice a js.length ca) := by rw [← hwB]; simp [go_sem]
    have p2 : wB.cell? ⟨w.heap.size, 2, none⟩ = some (.slice aa l.length cl) := by rw [← hwB]; simp [go_sem]
    have p3 : wB.cell? ⟨w.heap.size, 3, none⟩ = some (.slice ae q.length cq) := by rw [← hwB]; simp [go_sem]
    have p4 : wB.cell? ⟨w.heap.size, 4, none⟩ = some (.int .i64 q0) := by rw [← hwB]; simp [go_sem]
    have p5 : wB.cell? ⟨w.heap.size, 5, none⟩ = some (.int .i64 q1) := by rw [← hwB]; simp [go_sem]
    have p6 : wB.cell? ⟨w.heap.size, 6, none⟩ = some (.int .i64 q2) := by rw [← hwB]; simp [go_sem]
    have p7 : wB.cell? ⟨w.heap.size, 7, none⟩ = some (.int .i64 q3) := by rw [← hwB]; simp [go_sem]
    rw [hwB]
    clear hwB
    go_wp2_with fail
    go_ret
    exact ⟨true, (fun h => by cases h), rfl, hb⟩
  have h3i : ¬ (60 : Int) < (q.length : Int) := by omega
  cases h4 : lineB L js with
  | true =>
    rw [h4] at HV
    by_cases h5 : 500 < L
    · clear HC HL h4
      go_enter Tryz.func13, Tryz.ntmps13
      go_wp2_with fail
      obtain ⟨wB, hwB⟩ : ∃ wB, w.alloc (.cells #[.int .i64 L, .slice a js.length ca, .slice aa l.length cl, .slice ae q.length cq, .int .i64 q0, .int .i64 q1, .int .i64 q2, .int .i64 q3] 28) = wB := ⟨_, rfl⟩
      have hb : Below w.heap.size w wB := by rw [← hwB]; exact (Below.refl _ _).alloc (Nat.le_refl _) _
      have p0 : wB.cell? ⟨w.heap.size, 0, none⟩ = some (.int .i64 L) := by rw [← hwB]; simp [go_sem]
      have p1 : wB.cell? ⟨w.heap.size, 1, none⟩ = some (.slice a js.length ca) := by rw [← hwB]; simp [go_sem]
      have p2 : wB.cell? ⟨w.heap.size, 2, none⟩ = some (.slice aa l.length cl) := by rw [← hwB]; simp [go_sem]
      have p3 : wB.cell? ⟨w.heap.size, 3, none⟩ = some (.slice ae q.length cq) := by rw [← hwB]; simp [go_sem]
      have p4 : wB.cell? ⟨w.heap.size, 4, none⟩ = some (.int .i64 q0) := by rw [← hwB]; simp [go_sem]
      have p5 : wB.cell? ⟨w.heap.size, 5, none⟩ = some (.int .i64 q1) := by rw [← hwB]; simp [go_sem]
      have p6 : wB.cell? ⟨w.heap.size, 6, none⟩ = some (.int .i64 q2) := by rw [← hwB]; simp [go_sem]
      have p7 : wB.cell? ⟨w.heap.size, 7, none⟩ = some (.int .i64 q3) := by rw [← hwB]; simp [go_sem]
      rw [hwB]
      clear hwB
      go_wp2_with (go_at_call 48; refine (HV.out _ hb).mono ?_; rintro e w1 ⟨rfl, hb1⟩; have hbw := hb.trans (hb1.mono hb.size); replace p0 := cell_below p0 hb1; replace p1 := cell_below p1 hb1; replace p2 := cell_below p2 hb1; replace p3 := cell_below p3 hb1; replace p4 := cell_below p4 hb1; replace p5 := cell_below p5 hb1; replace p6 := cell_below p6 hb1; replace p7 := cell_below p7 hb1)
      go_ret
      exact ⟨true, (fun h => by cases h), rfl, hbw⟩
    · have HB : Hid (lineB L js = true → L ≤ 500) := Lib.hid (fun _ => by omega)
      clear h4
      go_enter Tryz.func13, Tryz.ntmps13
      go_wp2_with fail
      obtain ⟨wB, hwB⟩ : ∃ wB, w.alloc (.cells #[.int .i64 L, .slice a js.length ca, .slice aa l.length cl, .slice ae q.length cq, .int .i64 q0, .int .i64 q1, .int .i64 q2, .int .i64 q3] 28) = wB := ⟨_, rfl⟩
      have hb : Below w.heap.size w wB := by rw [← hwB]; exact (Below.refl _ _).alloc (Nat.le_refl _) _
      have p0 : wB.cell? ⟨w.heap.size, 0, none⟩ = some (.int .i64 L) := by rw [← hwB]; simp [go_sem]
      have p1 : wB.cell? ⟨w.heap.size, 1, none⟩ = some (.slice a js.length ca) := by rw [← hwB]; simp [go_sem]
      have p2 : wB.cell? ⟨w.heap.size, 2, none⟩ = some (.slice aa l.length cl) := by rw [← hwB]; simp [go_sem]
      have p3 : wB.cell? ⟨w.heap.size, 3, none⟩ = some (.slice ae q.length cq) := by rw [← hwB]; simp [go_sem]
      have p4 : wB.cell? ⟨w.heap.size, 4, none⟩ = some (.int .i64 q0) := by rw [← hwB]; simp [go_sem]
      have p5 : wB.cell? ⟨w.heap.size, 5, none⟩ = some (.int .i64 q1) := by rw [← hwB]; simp [go_sem]
      have p6 : wB.cell? ⟨w.heap.size, 6, none⟩ = some (.int .i64 q2) := by rw [← hwB]; simp [go_sem]
      have p7 : wB.cell? ⟨w.heap.size, 7, none⟩ = some (.int .i64 q3) := by rw [← hwB]; simp [go_sem]
      rw [hwB]
      clear hwB
      go_wp2_with (go_at_call 48; refine (HV.out _ hb).mono ?_; rintro e w1 ⟨rfl, hb1⟩; have hbw := hb.trans (hb1.mono hb.size); replace p0 := cell_below p0 hb1; replace p1 := cell_below p1 hb1; replace p2 := cell_below p2 hb1; replace p3 := cell_below p3 hb1; replace p4 := cell_below p4 hb1; replace p5 := cell_below p5 hb1; replace p6 := cell_below p6 hb1; replace p7 := cell_below p7 hb1)
      go_loopw [3] (fun i wr => ∃ k : Nat, k ≤ l.length ∧ i = .int .i64 k ∧ Below w1.heap.size w1 wr) (fun i _ => l.length - (intOf i).toNat)
      case atStart => exact ⟨0, Nat.zero_le _, rfl, Below.refl _ _⟩
      case round =>
        obtain ⟨k, hk, rfl, hbr⟩ := hrel
        have p2 := cell_below p2 hbr
        by_cases hlt : k < l.length
        · obtain rfl := HL.out (by omega)
          have hbo := hbw.trans (hbr.mono hbw.size)
          have c8 := cell_below (HC.out k hlt) hbo
          have hcv := HCV.out k hlt
          have hkl : (k : Int) < (l.length : Int) := by omega
          have hmeas : l.length - (k + 1) < l.length - k := by omega
          clear HC HL HCV
          generalize ad k = adk at *
          generalize cp k = cpk at *
          generalize (gs l k).cv.length = m at *
          by_cases hm : 20 < m
          · have hmi : (20 : Int) < (m : Int) := by omega
            go_wp2_with fail
            go_ret
            exact ⟨true, (fun h => by cases h), rfl, hbo⟩
          · have hmi : ¬ (20 : Int) < (m : Int) := by omega
            go_wp2_with fail
            go_roundw
            case rel => exact ⟨k + 1, by omega, by go_num, hbr⟩
            case measure => first | (simp [intOf]; exact hmeas) | simpa [intOf] using hmeas
        · obtain rfl : k = l.length := by omega
          go_wp2_with fail
          go_ret
          exact ⟨false, fun _ => ⟨by omega, by omega, by omega, HB.out⟩, rfl, hbw.trans (hbr.mono hbw.size)⟩
  | false =>
    rw [h4] at HV
    have HB : Hid (lineB L js = true → L ≤ 500) := Lib.hid (fun h => by rw [h4] at h; cases h)
    clear h4
    go_enter Tryz.func13, Tryz.ntmps13
    go_wp2_with fail
    obtain ⟨wB, hwB⟩ : ∃ wB, w.alloc (.cells #[.int .i64 L, .slice a js.length ca, .slice aa l.length cl, .slice ae q.length cq, .int .i64 q0, .int .i64 q1, .int .i64 q2, .int .i64 q3] 28) = wB := ⟨_, rfl⟩
    have hb : Below w.heap.size w wB := by rw [← hwB]; exact (Below.refl _ _).alloc (Nat.le_refl _) _
    have p0 : wB.cell? ⟨w.heap.size, 0, none⟩ = some (.int .i64 L) := by rw [← hwB]; simp [go_sem]
    have p1 : wB.cell? ⟨w.heap.size, 1, none⟩ = some (.slice a js.length ca) := by rw [← hwB]; simp [go_sem]
    have p2 : wB.cell? ⟨w.heap.size, 2, none⟩ = some (.slice aa l.length cl) := by rw [← hwB]; simp [go_sem]
    have p3 : wB.cell? ⟨w.heap.size, 3, none⟩ = some (.slice ae q.length cq) := by rw [← hwB]; simp [go_sem]
    have p4 : wB.cell? ⟨w.heap.size, 4, none⟩ = some (.int .i64 q0) := by rw [← hwB]; simp [go_sem]
    have p5 : wB.cell? ⟨w.heap.size, 5, none⟩ = some (.int .i64 q1) := by rw [← hwB]; simp [go_sem]
    have p6 : wB.cell? ⟨w.heap.size, 6, none⟩ = some (.int .i64 q2) := by rw [← hwB]; simp [go_sem]
    have p7 : wB.cell? ⟨w.heap.size, 7, none⟩ = some (.int .i64 q3) := by rw [← hwB]; simp [go_sem]
    rw [hwB]
    clear hwB
    go_wp2_with (go_at_call 48; refine (HV.out _ hb).mono ?_; rintro e w1 ⟨rfl, hb1⟩; have hbw := hb.trans (hb1.mono hb.size); replace p0 := cell_below p0 hb1; replace p1 := cell_below p1 hb1; replace p2 := cell_below p2 hb1; replace p3 := cell_below p3 hb1; replace p4 := cell_below p4 hb1; replace p5 := cell_below p5 hb1; replace p6 := cell_below p6 hb1; replace p7 := cell_below p7 hb1)
    go_loopw [3] (fun i wr => ∃ k : Nat, k ≤ l.length ∧ i = .int .i64 k ∧ Below w1.heap.size w1 wr) (fun i _ => l.length - (intOf i).toNat)
    case atStart => exact ⟨0, Nat.zero_le _, rfl, Below.refl _ _⟩
    case round =>
      obtain ⟨k, hk, rfl, hbr⟩ := hrel
      have p2 := cell_below p2 hbr
      by_cases hlt : k < l.length
      · obtain rfl := HL.out (by omega)
        have hbo := hbw.trans (hbr.mono hbw.size)
        have c8 := cell_below (HC.out k hlt) hbo
        have hcv := HCV.out k hlt
        have hkl : (k : Int) < (l.length : Int) := by omega
        have hmeas : l.length - (k + 1) < l.length - k := by omega
        clear HC HL HCV
        generalize ad k = adk at *
        generalize cp k = cpk at *
        generalize (gs l k).cv.length = m at *
        by_cases hm : 20 < m
        · have hmi : (20 : Int) < (m : Int) := by omega
          go_wp2_with fail
          go_ret
          exact ⟨true, (fun h => by cases h), rfl, hbo⟩
        · have hmi : ¬ (20 : Int) < (m : Int) := by omega
          go_wp2_with fail
          go_roundw
          case rel => exact ⟨k + 1, by omega, by go_num, hbr⟩
          case measure => first | (simp [intOf]; exact hmeas) | simpa [intOf] using hmeas
      · obtain rfl : k = l.length := by omega
        go_wp2_with fail
        go_ret
        exact ⟨false, fun _ => ⟨by omega, by omega, by omega, HB.out⟩, rfl, hbw.trans (hbr.mono hbw.size)⟩
end Go.Proofs.YtneafbhiencjlaaGreatDoor

namespace Go.Proofs.YtneafbhiencjlaaGreatDoor
set_option linter.unusedVariables false
set_option linter.unusedSimpArgs false
open Go.RowKit

theorem cl9_one (s : List Sgn) : ∀ x, x ∈ cl9 s → x.oneCell' = true := fun x hx => by
  unfold cl9 at hx
  obtain ⟨y, -, hy⟩ := List.mem_flatMap.1 hx
  simp only [List.mem_cons, List.not_mem_nil, or_false] at hy
  rcases hy with rfl | rfl | rfl | rfl | rfl | rfl | rfl | rfl | rfl <;> rfl
theorem app_signs {ops : Array Oper} {rest : List Oper} {o : Oper} {a : Act} {Q : Exit → Act → World → Prop} (w : World) (hgd : o.guard = none) (s x : Operand)
    (ho : o.op = .call { callee := .builtin .append, args := #[s, x], argTypes := #[25, 25] })
    (base : Nat) (b : Option Addr) (n c : Nat) (xs : List Value) (hs : a.eval s = .slice b n c) (hown : w.ownsRow base 51 9 (.slice b n c) n xs)
    (base2 : Nat) (ax : Option Addr) (l : List Sgn) (cx : Nat) (hx : a.eval x = .slice ax l.length cx) (hP : w.ownsRow base2 51 9 (.slice ax l.length cx) l.length (cl9 l)) (hlen : n + l.length ≤ 100000000) (hbase : base ≤ w.heap.size)
    (h : ∀ b' c' w', w'.ownsRow base 51 9 (.slice b' (n + l.length) c') (n + l.length) (xs ++ cl9 l) → Below base w w' → wpList Tryz.prog ops Q rest (a.put o.dst (.slice b' (n + l.length) c')) w') : wpList Tryz.prog ops Q (o :: rest) a w := by
  obtain ⟨n0, hi, hz0, hz1, hz2⟩ := info_parts signInfo
  by_cases h0 : l.length = 0
  · have hl := List.eq_nil_of_length_eq_zero h0
    subst hl
    refine wpList_append_zed hgd s x 25 ho base 51 n0 9 Tryz.underlying25 hi (.slice b n c) n xs hs hown ax cx hx ?_
    have := h b c w (by rw [show cl9 [] = [] from rfl, List.append_nil]; exact hown) (Below.refl _ _)
    exact this
  · obtain ⟨gx, hgx⟩ : ∃ gx, ax = some ⟨gx, 0, none⟩ := by
      rcases hP.2 with ⟨h1, h2⟩ | ⟨g2, c2, cur, h1, _⟩
      · omega
      · exact ⟨g2, by simpa using (Value.slice.inj h1).1⟩
    subst hgx
    refine wpList_append_lies w hgd s x 25 ho base 51 n0 _ 9 88 Tryz.underlying25 hi hz0 hz1 hz2 rfl (by decide) (.slice b n c) n xs hs hown ⟨gx, 0, none⟩ l.length cx (cl9 l) hx (cl9_len l) (fun j u hu => ?_) (cl9_one l) (by omega) (by unfold maxLen; omega) (by omega) hbase _ rfl ?_
    · have hj : j < l.length * 9 := by
        have := (List.getElem?_eq_some_iff.1 hu).1
        rw [cl9_len] at this
        omega
      rw [Addr.add_lit, Nat.zero_add]
      rw [World.ownsRow.cellAt hP j (by omega)]
      exact hu
    · intro g cap w' h1 h2 _ _
      exact h _ _ _ h1 ((Below.refl _ _).grown h2 hbase (fun z hz => owns_blockI hown hz))
theorem prp_cv {L : Int} {js : List Int} {q : List Edc} {h : Int} : ∀ k, ∀ s, s ∈ prpK L js q h k → s.cv = []
  | 0, s, hs => by cases hs
  | k + 1, s, hs => by
    rw [prpK, List.mem_append] at hs
    rcases hs with hs | hs
    · exact prp_cv k s hs
    · unfold wayN at hs
      obtain ⟨p, -, rfl⟩ := List.mem_map.1 hs
      rfl
theorem prp_len {L : Int} {js : List Int} {q : List Edc} {h : Int} : ∀ k, (prpK L js q h k).length ≤ k * L.toNat
  | 0 => by simp [prpK]
  | k + 1 => by
    rw [prpK, List.length_append]
    have h1 := prp_len (L := L) (js := js) (q := q) (h := h) k
    have h2 : (wayN L js q h (tpK k) (drK k)).length ≤ L.toNat := by unfold wayN; rw [List.length_map]; exact refN_len ..
    rw [Nat.succ_mul]
    omega
theorem numS_cv : ∀ (l : List Sgn) (i : Nat), (∀ s, s ∈ l → s.cv = []) → ∀ s, s ∈ numS i l → s.cv = []
  | [], _, _, s, hs => by cases hs
  | x :: r, i, h, s, hs => by
    rw [numS, List.mem_cons] at hs
    rcases hs with rfl | hs
    · exact h x (by simp)
    · exact numS_cv r (i + 1) (fun y hy => h y (by simp [hy])) s hs
theorem gs_memS {l : List Sgn} {i : Nat} (hi : i < l.length) : gs l i ∈ l := by
  unfold gs; rw [List.getD_eq_getElem?_getD, List.getElem?_eq_getElem hi]; exact List.getElem_mem _
theorem sgn_own {w : World} {base c : Nat} {a : Option Addr} {s : List Sgn} (h : w.ownsRow base 51 9 (.slice a s.length c) s.length (cl9 s)) (hn : s.length ≤ 9223372036854775807) (hcv : ∀ x, x ∈ s → x.cv = []) : SgnS w a s := by
  rcases h.2 with ⟨h1, h2⟩ | ⟨g2, c2, cur, h1, _⟩
  · have hs := List.eq_nil_of_length_eq_zero h2
    subst hs
    exact ⟨hn, 0, 0, fun _ => none, fun _ => 0, fun h => absurd rfl h, fun i hi => absurd hi (Nat.not_lt_zero _)⟩
  · obtain ⟨rfl, rfl⟩ : a = some ⟨g2, 0, none⟩ ∧ c = c2 := by simpa using h1
    refine ⟨hn, g2, 0, fun _ => none, fun _ => 0, fun _ => rfl, fun i hi => ?_⟩
    obtain ⟨i0, i1, i2, i3, i4, i5, i6, i7, i8⟩ := cl9_c s i hi
    have hc := hcv _ (gs_memS hi)
    rw [hc, Nat.zero_add]
    refine ⟨⟨?_, ?_, ?_, ?_, ?_, ?_, ?_, ?_⟩, ?_, pairs_nilR w⟩
    · rw [World.ownsRow.cellAt h (i * 9) (by omega)]; exact i0
    · rw [World.ownsRow.cellAt h (i * 9 + 1) (by omega)]; exact i1
    · rw [World.ownsRow.cellAt h (i * 9 + 2) (by omega)]; exact i2
    · rw [World.ownsRow.cellAt h (i * 9 + 3) (by omega)]; exact i3
    · rw [World.ownsRow.cellAt h (i * 9 + 4) (by omega)]; exact i4
    · rw [World.ownsRow.cellAt h (i * 9 + 5) (by omega)]; exact i5
    · rw [World.ownsRow.cellAt h (i * 9 + 6) (by omega)]; exact i6
    · rw [World.ownsRow.cellAt h (i * 9 + 7) (by omega)]; exact i7
    · rw [World.ownsRow.cellAt h (i * 9 + 8) (by omega)]; exact i8
/-- Signs with an error. -/
def SgA (M : List Sgn) (E : Int) (w : World) (e : Ending) (w' : World) : Prop := ∃ b c, e = .returned (.tuple #[.slice b M.length c, .int .i64 E]) ∧ SgnS w' b M ∧ Below w.heap.size w w'
/-- What a proposal is. -/
def prpR (L : Int) (js : List Int) (q : List Edc) (h : Int) : List Sgn := if (prpK L js q h 4).length ≤ 100 then numS 0 (prpK L js q h 4) else []
def prpE (L : Int) (js : List Int) (q : List Edc) (h : Int) : Int := if (prpK L js q h 4).length ≤ 100 then 0 else 2
set_option maxRecDepth 100000 in
set_option maxHeartbeats 4000000 in
theorem Propose_good (L : Int) (a : Option Addr) (js : List Int) (ca : Nat) (ae : Option Addr) (q : List Edc) (cq : Nat) (h : Int) (hV : lstE L js [] q = 0) (hh : btw h 0 10000000 = true) (w : World) (hG : WayTab w) (hI : IntsS w a js) (hE : EdS w ae q) :
    Calls Tryz.prog 8 #[.agg #[.int .i64 L, .slice a js.length ca], .slice ae q.length cq, .int .i64 h] w (SgA (prpR L js q h) (prpE L js q h) w) := by
  obtain ⟨hl, hL1, hL2⟩ := lst_line hV
  have H1 := Lib.hid (fun W (hW : Below w.heap.size w W) => by
    have := listsError_r L a js ca none [] 0 ae q cq W (hI.below hW) (sg_nil W) (hE.below hW)
    rw [hV] at this
    exact this)
  have K0 := Lib.hid (fun W => hh ▸ isHour_r h W)
  have HNe0 := Lib.hid (fun tp dir W (ht : tp = 1 ∨ tp = 2) (hd : dirB dir = true) (hW : Below w.heap.size w W) => needed_r L a js ca ae q cq h tp dir hV hh ht hd W (hI.below hW) (hE.below hW))
  have HLn : Hid (∀ k, (prpK L js q h k).length ≤ k * 100000) := Lib.hid fun k => Nat.le_trans (prp_len k) (Nat.mul_le_mul_left _ (by omega))
  have HWl : Hid (∀ tp dir, (wayN L js q h tp dir).length ≤ 100000) := Lib.hid fun tp dir => by unfold wayN; rw [List.length_map]; exact Nat.le_trans (refN_len ..) (by omega)
  obtain ⟨hgz, q0, q1, q2, q3, q4, q5, q6, q7⟩ := hG
  clear hI hE hV hh hl hL1 hL2
  go_enter Tryz.func8, Tryz.ntmps8
  go_wp2_with fail
  obtain ⟨wB, hwB⟩ : ∃ wB, w.alloc (.cells #[.int .i64 L, .slice a js.length ca] 24) = wB := ⟨_, rfl⟩
  have hb : Below w.heap.size w wB := by rw [← hwB]; exact (Below.refl _ _).alloc (Nat.le_refl _) _
  have l0 : wB.cell? ⟨w.heap.size, 0, none⟩ = some (.int .i64 L) := by rw [← hwB]; simp [go_sem]
  have l1 : wB.cell? ⟨w.heap.size, 1, none⟩ = some (.slice a js.length ca) := by rw [← hwB]; simp [go_sem]
  rw [hwB]
  clear hwB
  replace hgz := Nat.lt_of_lt_of_le hgz hb.size
  replace q0 := cell_below q0 hb
  replace q1 := cell_below q1 hb
  replace q2 := cell_below q2 hb
  replace q3 := cell_below q3 hb
  replace q4 := cell_below q4 hb
  replace q5 := cell_below q5 hb
  replace q6 := cell_below q6 hb
  replace q7 := cell_below q7 hb
  go_upto_region 7 with (first | (go_at_call 24; refine (H1.out _ hb).mono ?_; rintro e w1 ⟨rfl, hb1⟩; replace hb := hb.trans (hb1.mono hb.size); replace l0 := cell_below l0 hb1; replace l1 := cell_below l1 hb1; replace q0 := cell_below q0 hb1; replace q1 := cell_below q1 hb1; replace q2 := cell_below q2 hb1; replace q3 := cell_below q3 hb1; replace q4 := cell_below q4 hb1; replace q5 := cell_below q5 hb1; replace q6 := cell_below q6 hb1; replace q7 := cell_below q7 hb1; clear hb1) | (go_at_call 25; refine (K0.out _).mono ?_; rintro e w2 ⟨rfl, rfl⟩))
  obtain ⟨wB, rfl⟩ : ∃ wx : World, wx = w1 := ⟨_, rfl⟩
  have L0 := Lib.hid l0
  have L1 := Lib.hid l1
  have HB := Lib.hid hb
  clear H1 K0
  go_wp2_with fail
  clear q0 q1 q2 q3 q4 q5 q6 q7 l0 l1 hb
  go_loopw [9, 23] (fun v i wr => ∃ (k : Nat) (av : Option Addr) (cv : Nat), k ≤ 4 ∧ i = .int .i64 k ∧ v = .slice av (prpK L js q h k).length cv ∧ Hid (wr.ownsRow wB.heap.size 51 9 (.slice av (prpK L js q h k).length cv) (prpK L js q h k).length (cl9 (prpK L js q h k))) ∧ Below wB.heap.size wB wr) (fun _ i _ => 4 - (intOf i).toNat)
  case atStart => exact ⟨0, none, 0, Nat.zero_le _, rfl, rfl, Lib.hid (World.ownsRow_nil _ _ _ _), Below.refl _ _⟩
  case round =>
    obtain ⟨k, av, cv, hk, rfl, rfl, HRow, hbr⟩ := hrel
    by_cases hlt : k < 4
    · obtain ⟨tp, dir, hx, HSt, htp, hdir⟩ : ∃ tp dir : Int, (∀ W : World, (Instr.index 60 (.agg #[.int .i64 1, .int .i64 1, .int .i64 1, .int .i64 (-1), .int .i64 2, .int .i64 1, .int .i64 2, .int .i64 (-1)]) (.int .i64 k)).run Tryz.prog W = .ok (.agg #[.int .i64 tp, .int .i64 dir]) W) ∧ Hid (prpK L js q h (k + 1) = prpK L js q h k ++ wayN L js q h tp dir) ∧ (tp = 1 ∨ tp = 2) ∧ dirB dir = true := by
        rcases (by omega : k = 0 ∨ k = 1 ∨ k = 2 ∨ k = 3) with rfl | rfl | rfl | rfl
        · exact ⟨1, 1, fun _ => by kernel_rfl, Lib.hid rfl, by decide, by decide⟩
        · exact ⟨1, (-1), fun _ => by kernel_rfl, Lib.hid rfl, by decide, by decide⟩
        · exact ⟨2, 1, fun _ => by kernel_rfl, Lib.hid rfl, by decide, by decide⟩
        · exact ⟨2, (-1), fun _ => by kernel_rfl, Lib.hid rfl, by decide, by decide⟩
      have hk4 : (k : Int) < 4 := by omega
      have hln := HLn.out k
      have hwl := HWl.out tp dir
      have HNe := Lib.hid (fun W (hW : Below w.heap.size w W) => HNe0.out tp dir W htp hdir hW)
      clear htp hdir HNe0
      obtain ⟨M0, hM0⟩ : ∃ M0, prpK L js q h k = M0 := ⟨_, rfl⟩
      rw [hM0] at HSt HRow hln ⊢
      clear hM0
      obtain ⟨WN, hWN⟩ : ∃ WN, wayN L js q h tp dir = WN := ⟨_, rfl⟩
      rw [hWN] at HSt HNe hwl
      clear hWN
      have HAP : Hid (M0.length + WN.length = (prpK L js q h (k + 1)).length ∧ cl9 M0 ++ cl9 WN = cl9 (prpK L js q h (k + 1))) := Lib.hid (by rw [HSt.out, cl9_apps, List.length_append]; exact ⟨rfl, rfl⟩)
      go_upto_region 10 with (fail)
      obtain ⟨wz, hwz⟩ : ∃ wz, wr.alloc (.cells #[.int .i64 tp, .int .i64 dir] 59) = wz := ⟨_, rfl⟩
      have hbz : Below wB.heap.size wB wz := by rw [← hwz]; exact hbr.alloc hbr.size _
      have p0 : wz.cell? ⟨wr.heap.size, 0, none⟩ = some (.int .i64 tp) := by rw [← hwz]; simp [go_sem]
      have p1 : wz.cell? ⟨wr.heap.size, 1, none⟩ = some (.int .i64 dir) := by rw [← hwz]; simp [go_sem]
      have HRow1 := Lib.hid (HRow.out.alloc (.cells #[.int .i64 tp, .int .i64 dir] 59))
      rw [hwz] at HRow1 ⊢
      clear hwz HRow hx hbr
      have l0 := cell_below L0.out hbz
      have l1 := cell_below L1.out hbz
      have hbw := HB.out.trans (hbz.mono HB.out.size)
      go_wp2_with (first | (go_at_call 26; refine (HNe.out _ hbw).mono ?_; rintro e w9 ⟨b9, c9, rfl, hN9, hb9⟩; have HN9 := Lib.hid hN9; have HRow2 := Lib.hid (owns_belowI HRow1.out hb9); have hb92 := hbz.trans (hb9.mono hbz.size); have hbs := hb92.size; clear hN9) | (at_builtin; go_loud (refine app_signs _ rfl _ _ rfl wB.heap.size av M0.length cv (cl9 M0) (by rfl) HRow2.out wz.heap.size b9 WN c9 (by rfl) HN9.out (by omega) hbs ?_)))
      intro b6 c6 w6 ho6 hb6
      go_wp2_with fail
      go_roundw
      case rel => exact ⟨k + 1, b6, c6, by omega, by go_num, by rw [← HAP.out.1], Lib.hid (by rw [← HAP.out.1, ← HAP.out.2]; exact ho6), hb92.trans hb6⟩
      case measure => simp [intOf]; omega
    · obtain rfl : k = 4 := by omega
      have hln := HLn.out 4
      have HR0 : Hid (prpR L js q h = if (prpK L js q h 4).length ≤ 100 then numS 0 (prpK L js q h 4) else []) := Lib.hid rfl
      have HE0 : Hid (prpE L js q h = if (prpK L js q h 4).length ≤ 100 then 0 else 2) := Lib.hid rfl
      have HCv : Hid (∀ s, s ∈ numS 0 (prpK L js q h 4) → s.cv = []) := Lib.hid (numS_cv _ 0 (prp_cv 4))
      clear L0 L1 HNe0 HLn HWl
      generalize prpK L js q h 4 = X at *
      generalize prpR L js q h = RES at *
      generalize prpE L js q h = E at *
      by_cases hX : X.length ≤ 100
      · have HR : Hid (RES = numS 0 X ∧ E = 0) := Lib.hid ⟨by rw [HR0.out, if_pos hX], by rw [HE0.out, if_pos hX]⟩
        have HRow0 : Hid (wr.ownsRow wB.heap.size 51 9 (.slice av (mixS X 0).length cv) (mixS X 0).length (cl9 (mixS X 0))) := Lib.hid (by rw [mixS_zero]; exact HRow.out)
        have x0 : ¬ ((100 : Int) < (X.length : Int)) := by omega
        have x1 : ¬ (100 < X.length) := by omega
        have x2 : decide ((100 : Int) < (X.length : Int)) = false := decide_eq_false x0
        clear HR0 HE0 HRow hln
        go_wp2_with fail
        clear x0 x1 x2
        go_loopw [39] (fun i wq => ∃ j : Nat, j ≤ X.length ∧ i = .int .i64 j ∧ Hid (wq.ownsRow wB.heap.size 51 9 (.slice av X.length cv) X.length (cl9 (mixS X j))) ∧ Below wB.heap.size wB wq) (fun i _ => X.length - (intOf i).toNat)
        case atStart => exact ⟨0, Nat.zero_le _, rfl, Lib.hid (by have := HRow0.out; rwa [mixS_len] at this), hbr⟩
        case round =>
          obtain ⟨j, hj, rfl, HRow, hbr⟩ := hrel
          by_cases hjl : j < X.length
          · obtain ⟨gj, hgj⟩ : ∃ gj, av = some ⟨gj, 0, none⟩ := by
              rcases HRow.out.2 with ⟨h1, h2⟩ | ⟨g2, c2, cur, h1, _⟩
              · omega
              · exact ⟨g2, by simpa using (Value.slice.inj h1).1⟩
            subst hgj
            have y9 := World.ownsRow.cellAt HRow.out (j * 9) (by omega)
            rw [(cl9_c (mixS X j) j (by rw [mixS_len]; exact hjl)).1] at y9
            have fx := World.ownsRow.frozenAt HRow.out (j * 9)
            have hgl : wB.heap.size ≤ gj := (own_lt HRow.out _ rfl).2.1
            have HSET : Hid (∀ W : World, W.ownsRow wB.heap.size 51 9 (.slice (some ⟨gj, 0, none⟩) X.length cv) X.length (cl9 (mixS X j)) → (W.setCell ⟨gj, j * 9, none⟩ (.int .i64 ((j : Int) + 1))).ownsRow wB.heap.size 51 9 (.slice (some ⟨gj, 0, none⟩) X.length cv) X.length (cl9 (mixS X (j + 1)))) := Lib.hid fun W h => by
              have := (World.ownsRow.stored h (j * 9) (.int .i64 ((j : Int) + 1))).1
              rw [cl9_set _ _ _ (by rw [mixS_len]; exact hjl), ← mixS_succ hjl] at this
              exact this
            generalize (gs (mixS X j) j).n = o9 at *
            have j0 : (0 : Int) ≤ (j : Int) := by omega
            have j1 : (j : Int) < (X.length : Int) := by omega
            have jw : IntKind.i64.wrap ((j : Int) + 1) = (j : Int) + 1 := IntWalk.i64_in _ (by omega)
            clear HR HCv HRow0
            go_wp2_with fail
            go_roundw
            case rel => exact ⟨j + 1, by omega, by go_num, Lib.hid (HSET.out _ HRow.out), hbr.setCell (p := ⟨gj, j * 9, none⟩) hgl _⟩
            case measure => simp [intOf]; omega
          · obtain rfl : j = X.length := by omega
            have HEnd : Hid (SgA RES E w (.returned (.tuple #[.slice av X.length cv, .int .i64 0])) wr) := Lib.hid (by
              have h1 := HRow.out
              rw [mixS_all] at h1
              rw [HR.out.1, HR.out.2]
              exact ⟨av, cv, by rw [numS_len], sgn_own (by rw [numS_len]; exact h1) (by rw [numS_len]; omega) HCv.out, HB.out.trans (hbr.mono HB.out.size)⟩)
            clear HR HCv HRow0 HRow
            go_wp2_with fail
            go_ret2
            exact HEnd.out
      · have HEnd : Hid (SgA RES E w (.returned (.tuple #[.slice none 0 0, .int .i64 2])) wr) := Lib.hid (by
          rw [HR0.out, HE0.out, if_neg hX, if_neg hX]
          exact ⟨none, 0, rfl, sg_nil wr, HB.out.trans (hbr.mono HB.out.size)⟩)
        have x0 : (100 : Int) < (X.length : Int) := by omega
        have x1 : 100 < X.length := by omega
        have x2 : decide ((100 : Int) < (X.length : Int)) = true := decide_eq_true x0
        clear HR0 HE0 HRow HCv hX
        go_wp2_with fail
        go_ret2
        exact HEnd.out
end Go.Proofs.YtneafbhiencjlaaGreatDoor

namespace Go.Proofs.YtneafbhiencjlaaGreatDoor
set_option linter.unusedVariables false
set_option linter.unusedSimpArgs false
open Go.RowKit

set_option maxRecDepth 100000 in
set_option maxHeartbeats 1000000 in
theorem topic_r (n : Int) (w : World) : Calls Tryz.prog 22 #[.int .i64 n] w fun e w' => e = .returned (.bool (topB n)) ∧ w = w' := by
  by_cases h1 : n = 1
  · subst h1
    go_enter Tryz.func22, Tryz.ntmps22
    go_wp2_with fail
    go_ret
    exact ⟨rfl, rfl⟩
  · have d1 : (n == 1) = false := beq_false_of_ne h1
    have hr : Hid (topB n = (n == 2)) := Lib.hid (by unfold topB; rw [d1, Bool.false_or])
    clear h1
    go_enter Tryz.func22, Tryz.ntmps22
    go_wp2_with fail
    go_ret
    exact ⟨by rw [hr.out] <;> rfl, rfl⟩
end Go.Proofs.YtneafbhiencjlaaGreatDoor
