/-
  needed. By an AI agent.
-/
import Derived.Test.YtlpdjinhkmgbgaaGreatDoorMgRulePr0
import Derived.Test.YtlpdjinhkmgbgaaGreatDoorMgRuleWays12
import Derived.Deep.RegionHeld3
import Derived.Deep.DeepCutAuto
import Derived.BigQuiet
import Derived.BigRegion
import Derived.StillTailTactics
import Derived.Deep.AppendLies

namespace Go.Proofs.YtlpdjinhkmgbgaaGreatDoor
set_option linter.unusedVariables false
set_option linter.unusedSimpArgs false
open Go.RowKit

theorem signInfo : (Tryz.prog.info? 69).map (fun i => (i.zero, i.size, i.bytes)) = some (some (.agg #[.int .i64 0, .int .i64 0, .int .i64 0, .int .i64 0, .int .i64 0, .int .i64 0, .int .i64 0, .int .i64 0, .slice none 0 0]), 9, 88) := by kernel_rfl
/-- The state behind the first k looks. -/
def stK (L : Int) (js : List Int) (q : List Edc) (h T D : Int) (K : List Int) (k : Nat) : Int × List (Int × Int) := (K.take k).foldl (stpN L js q h T D) (0, [])
theorem stK_succ {L : Int} {js : List Int} {q : List Edc} {h T D : Int} {K : List Int} {k : Nat} (hk : k < K.length) : stK L js q h T D K (k + 1) = stpN L js q h T D (stK L js q h T D K k) (gi K k) := by
  unfold stK
  rw [List.take_add_one, List.getElem?_eq_getElem hk, Option.toList_some, List.foldl_append, gi_at _ hk]
  rfl
theorem stK_len {L : Int} {js : List Int} {q : List Edc} {h T D : Int} {K : List Int} : ∀ k, k ≤ K.length → (stK L js q h T D K k).2.length ≤ k
  | 0, _ => by unfold stK; simp
  | k + 1, hk => by
    rw [stK_succ (by omega)]
    have h1 := stpN_len L js q h T D (stK L js q h T D K k) (gi K k)
    have h2 := stK_len (L := L) (js := js) (q := q) (h := h) (T := T) (D := D) (K := K) k (by omega)
    omega
set_option maxRecDepth 100000 in
set_option maxHeartbeats 4000000 in
theorem needed_r (L : Int) (a : Option Addr) (js : List Int) (ca : Nat) (ae : Option Addr) (q : List Edc) (cq : Nat) (h T D : Int) (hV : lstE L js [] q = 0) (hh : btw h 0 10000000 = true) (hT : T = 1 ∨ T = 2) (hD : dirB D = true) (w : World) (hI : IntsS w a js) (hE : EdS w ae q) :
    Calls Tryz.prog 38 #[.agg #[.int .i64 L, .slice a js.length ca], .slice ae q.length cq, .int .i64 h, .agg #[.int .i64 T, .int .i64 D]] w fun e w' => ∃ b c, e = .returned (.slice b (wayN L js q h T D).length c) ∧ w'.ownsRow w.heap.size 69 9 (.slice b (wayN L js q h T D).length c) (wayN L js q h T D).length (cl9 (wayN L js q h T D)) ∧ Below w.heap.size w w' := by
  obtain ⟨hl, hL1, hL2⟩ := lst_line hV
  have hjm := ((line_iff L js).1 hl).2.2.1
  have hql := edcs_len (lst_edcs hV)
  have hhb := btw_ge hh
  obtain ⟨-, -, hcm⟩ := want_cuts hV
  have hqb : ∀ j, j < q.length → -1000000 ≤ (ge q j).fr ∧ (ge q j).fr ≤ 1000000 ∧ -1000000 ≤ (ge q j).tt ∧ (ge q j).tt ≤ 1000000 := fun j hj => by
    have := edc_bd (edc_in (lst_edcs hV) j hj)
    omega
  have hin : ∀ k, k ∈ looksK L js q D → 0 ≤ k ∧ k < L := fun k hk => by
    obtain ⟨h1, c, hc, e⟩ := looks_mem.1 hk
    refine ⟨?_, h1⟩
    have hcb : 0 ≤ c ∧ c ≤ L := by
      rcases List.mem_append.1 hc with hc | hc
      · exact hcm c hc
      · have := hjm c hc; omega
    rw [← e]
    exact (dst_in hD hcb.1 hcb.2).1
  have hFin := looks_all (js := js) (q := q) (h := h) (T := T) hL1 hD hcm hjm
  have HWa := Lib.hid (fun W (hW : Below w.heap.size w W) => wanted_r L a js.length ca ae q cq h T D (by omega) hqb (by omega) W (hE.below hW))
  have HLo := Lib.hid (fun F0 aq c1 W (hW : Below w.heap.size w W) (hQ : IntsS W aq (cutsW L q q.length)) => looks_r L a js ca D q F0 aq c1 hV hD W (hI.below hW) hQ)
  have HEw := Lib.hid (fun W (hW : Below w.heap.size w W) => hE.below hW)
  have HIw := Lib.hid (fun W (hW : Below w.heap.size w W) => hI.below hW)
  have HDs0 := Lib.hid (fun (x : Int) W (hx : 0 ≤ x ∧ x < L) => distance_r L a js.length ca D x (by omega) hL2 (by omega) (by omega) W)
  have HMa0 := Lib.hid (fun (x : Int) W (hx : 0 ≤ x ∧ x < L) => metreAt_r L a js.length ca D x (by omega) hL2 (by omega) (by omega) W)
  have HCo0 := Lib.hid (fun (x : Int) W (hW : Below w.heap.size w W) => contains_r L D a js ca x W (hI.below hW))
  have HCh0 := Lib.hid (fun v c W => changing_r T D v c h hT hhb W)
  obtain ⟨K, hK⟩ : ∃ K, looksK L js q D = K := ⟨_, rfl⟩
  rw [hK] at HLo hin hFin
  have hKl : K.length ≤ 100000 := by
    rw [← hK]
    have h1 := cmp_len (srt (allK L js q D))
    rw [srt_len] at h1
    have h2 : (allK L js q D).length ≤ (cutsW L q q.length ++ js).length := by unfold allK; refine Nat.le_trans (List.length_filter_le _ _) ?_; rw [List.length_map]; exact Nat.le_refl _
    rw [List.length_append, cutsW_len] at h2
    have h3 := ((line_iff L js).1 hl).2.1
    have h4 : (looksK L js q D).length = (Lib.compact (srt (allK L js q D))).length := rfl
    omega
  have HIn : Hid (∀ k, k < K.length → 0 ≤ gi K k ∧ gi K k < L) := Lib.hid fun k hk => hin _ (gi_mem hk)
  have HFin : Hid (((stK L js q h T D K K.length).2.map (sgC T D h 0)) = wayN L js q h T D) := Lib.hid (by unfold stK wayN; rw [List.take_length, hFin])
  have HFl : Hid ((stK L js q h T D K K.length).2.length = (wayN L js q h T D).length) := Lib.hid (by rw [← HFin.out, List.length_map])
  obtain ⟨n0, hi, hz0, hz1, hz2⟩ := info_parts signInfo
  clear hI hE hV hh hqb hin hFin hK hjm hcm hql hl
  go_enter Tryz.func38, Tryz.ntmps38
  go_upto_region 2 with (fail)
  obtain ⟨wB, hwB⟩ : ∃ wB, (w.alloc (.cells #[.int .i64 L, .slice a js.length ca] 24)).alloc (.cells #[.int .i64 T, .int .i64 D] 73) = wB := ⟨_, rfl⟩
  have hb : Below w.heap.size w wB := by rw [← hwB]; exact ((Below.refl _ _).alloc (Nat.le_refl _) _).alloc (by simp) _
  have l0 : wB.cell? ⟨w.heap.size, 0, none⟩ = some (.int .i64 L) := by rw [← hwB]; simp [go_sem]
  have l1 : wB.cell? ⟨w.heap.size, 1, none⟩ = some (.slice a js.length ca) := by rw [← hwB]; simp [go_sem]
  have n0w : wB.cell? ⟨w.heap.size + 1, 0, none⟩ = some (.int .i64 T) := by rw [← hwB]; simp [go_sem]
  have n1w : wB.cell? ⟨w.heap.size + 1, 1, none⟩ = some (.int .i64 D) := by rw [← hwB]; simp [go_sem]
  rw [hwB]
  clear hwB
  obtain ⟨bw, hbwx⟩ : ∃ bw, w.heap.size + 1 = bw := ⟨_, rfl⟩
  rw [hbwx] at n0w n1w ⊢
  clear hbwx
  go_upto_region 4 with (go_at_call 30; refine (HWa.out _ hb).mono ?_; rintro e w3 ⟨eb, hb8, wb8, aq, cq2, k1, k2, k3, k4, rfl, hQ, hb3⟩)
  obtain ⟨wz, hwz⟩ : ∃ wz, w3.alloc (.cells #[.func (.func 72) #[] #[.pointer (some ⟨eb, 0, none⟩), .pointer (some ⟨hb8, 0, none⟩), .pointer (some ⟨wb8, 0, none⟩)], .slice aq (cutsW L q q.length).length cq2] 77) = wz := ⟨_, rfl⟩
  have hal : Below w3.heap.size w3 wz := by rw [← hwz]; exact (Below.refl _ _).alloc (Nat.le_refl _) _
  have m0 : wz.cell? ⟨w3.heap.size, 0, none⟩ = some (.func (.func 72) #[] #[.pointer (some ⟨eb, 0, none⟩), .pointer (some ⟨hb8, 0, none⟩), .pointer (some ⟨wb8, 0, none⟩)]) := by rw [← hwz]; simp [go_sem]
  have m1 : wz.cell? ⟨w3.heap.size, 1, none⟩ = some (.slice aq (cutsW L q q.length).length cq2) := by rw [← hwz]; simp [go_sem]
  rw [hwz]
  clear hwz
  have hal2 := hb3.trans (hal.mono hb3.size)
  replace l0 := cell_below l0 hal2
  replace l1 := cell_below l1 hal2
  replace n0w := cell_below n0w hal2
  replace n1w := cell_below n1w hal2
  replace k1 := cell_below k1 hal
  replace k2 := cell_below k2 hal
  replace k3 := cell_below k3 hal
  replace k4 := cell_below k4 hal
  have HQ := Lib.hid (hQ.below hal)
  have hb := hb.trans (hal2.mono hb.size)
  obtain ⟨bc, hbc⟩ : ∃ bc, w3.heap.size = bc := ⟨_, rfl⟩
  rw [hbc] at m0 m1 ⊢
  clear hbc hal hal2 hb3 hQ HWa
  go_wp2_with (go_at_call 82; refine (HLo.out _ aq cq2 _ hb HQ.out).mono ?_; rintro e w9 ⟨b9, c9, rfl, hK9, hb9⟩)
  have L0 := Lib.hid (cell_below l0 hb9)
  have L1 := Lib.hid (cell_below l1 hb9)
  have NW0 := Lib.hid (cell_below n0w hb9)
  have NW1 := Lib.hid (cell_below n1w hb9)
  have M0 := Lib.hid (cell_below m0 hb9)
  have HW0 := Lib.hid (fun m W (hW : Below w9.heap.size w9 W) (hw2 : Below w.heap.size w W) => show Calls Tryz.prog 72 #[.int .i64 m, .pointer (some ⟨eb, 0, none⟩), .pointer (some ⟨hb8, 0, none⟩), .pointer (some ⟨wb8, 0, none⟩)] W (fun e w' => e = .returned (.int .i64 (mustV q h T D m)) ∧ Below W.heap.size W w') from wanted1_r ae q cq eb hb8 wb8 h T D m W (HEw.out W hw2) (cell_below (cell_below k1 hb9) hW) (cell_below (cell_below k2 hb9) hW) (cell_below (cell_below k3 hb9) hW) (cell_below (cell_below k4 hb9) hW))
  have HB := Lib.hid (hb.trans (hb9.mono hb.size))
  obtain ⟨-, -, blk, off, hadr, hck⟩ := hK9
  have HC := Lib.hid hck
  have HLa : Hid (0 < K.length → b9 = some ⟨blk, off, none⟩) := Lib.hid fun h => hadr (List.ne_nil_of_length_pos h)
  clear l0 l1 n0w n1w m0 m1 k1 k2 k3 k4 hadr hck HQ HLo hb hb9 HEw
  go_loopw [9, 11, 27] (fun sv nv i wr => ∃ (k : Nat) (av : Option Addr) (cv : Nat), k ≤ K.length ∧ i = .int .i64 k ∧ sv = .slice av (stK L js q h T D K k).2.length cv ∧ nv = .int .i64 (stK L js q h T D K k).1 ∧ Hid (wr.ownsRow w9.heap.size 69 9 (.slice av (stK L js q h T D K k).2.length cv) (stK L js q h T D K k).2.length (cl9 ((stK L js q h T D K k).2.map (sgC T D h 0)))) ∧ Below w9.heap.size w9 wr) (fun _ _ i _ => K.length - (intOf i).toNat)
  case atStart => exact ⟨0, none, 0, Nat.zero_le _, rfl, rfl, rfl, Lib.hid (World.ownsRow_nil _ _ _ _), Below.refl _ _⟩
  case round =>
    obtain ⟨k, av, cv, hk, rfl, rfl, rfl, HRow, hbr⟩ := hrel
    have hbw := HB.out.trans (hbr.mono HB.out.size)
    by_cases hlt : k < K.length
    · obtain rfl := HLa.out (by omega)
      have l0 := cell_below L0.out hbr
      have l1 := cell_below L1.out hbr
      have m0 := cell_below M0.out hbr
      have n0w := cell_below NW0.out hbr
      have n1w := cell_below NW1.out hbr
      have x0 := cell_below (HC.out k hlt) hbr
      have hx := HIn.out k hlt
      have HDs := Lib.hid (fun W => HDs0.out (gi K k) W hx)
      have HMa := Lib.hid (fun W => HMa0.out (gi K k) W hx)
      have HCo := Lib.hid (fun W (hW : Below w.heap.size w W) => HCo0.out (gi K k) W hW)
      have HW1 := Lib.hid (fun W (hW : Below w9.heap.size w9 W) => show Calls Tryz.prog 72 #[.int .i64 (begK L D (gi K k)), .pointer (some ⟨eb, 0, none⟩), .pointer (some ⟨hb8, 0, none⟩), .pointer (some ⟨wb8, 0, none⟩)] W (fun e w' => e = .returned (.int .i64 (vK L q h T D (gi K k))) ∧ Below W.heap.size W w') from HW0.out (begK L D (gi K k)) W hW (HB.out.trans (hW.mono HB.out.size)))
      have HNx := Lib.hid (stK_succ (L := L) (js := js) (q := q) (h := h) (T := T) (D := D) hlt)
      have hsl := stK_len (L := L) (js := js) (q := q) (h := h) (T := T) (D := D) k hk
      obtain ⟨N0, OUT, hst⟩ : ∃ N0 OUT, (stK L js q h T D K k) = (N0, OUT) := ⟨_, _, rfl⟩
      have HNx : Hid ((stK L js q h T D K (k + 1)) = if vK L q h T D (gi K k) = (if jnB L D js (gi K k) = true then 0 else N0) then ((if jnB L D js (gi K k) = true then 0 else N0), OUT) else (vK L q h T D (gi K k), OUT ++ [(dstK L D (gi K k), vK L q h T D (gi K k))])) := Lib.hid (by rw [HNx.out, hst]; rfl)
      rw [hst] at HRow hsl ⊢
      have HRow : Hid (wr.ownsRow w9.heap.size 69 9 (.slice av OUT.length cv) OUT.length (cl9 (OUT.map (sgC T D h 0)))) := HRow
      replace hsl : OUT.length ≤ k := hsl
      have k0 : (0 : Int) ≤ (k : Int) := by omega
      have k1 : (k : Int) < (K.length : Int) := by omega
      clear hst HC HLa HDs0 HMa0 HCo0 HIn HW0 L0 L1 M0 NW0 NW1
      generalize vK L q h T D (gi K k) = v at *
      generalize begK L D (gi K k) = bk at *
      generalize dstK L D (gi K k) = c at *
      obtain ⟨kn, hkn⟩ : ∃ kn, kndK T v = kn := ⟨_, rfl⟩
      obtain ⟨vv, hvv⟩ : ∃ vv, (if T = 1 then v else 0) = vv := ⟨_, rfl⟩
      have HKv : Hid (kndK T v = kn ∧ (if T = 1 then v else 0) = vv) := Lib.hid ⟨hkn, hvv⟩
      have HCh := Lib.hid (fun W => show Calls Tryz.prog 85 #[.agg #[.int .i64 T, .int .i64 D], .int .i64 v, .int .i64 c, .int .i64 h] W (fun e w' => e = .returned (.agg #[.int .i64 0, .int .i64 kn, .int .i64 vv, .int .i64 c, .int .i64 D, .int .i64 T, .int .i64 h, .int .i64 (h + 1), .slice none 0 0]) ∧ Below W.heap.size W w') by
        have := HCh0.out v c W
        unfold sg9 sgC at this
        rw [hkn, hvv] at this
        exact this)
      clear hkn hvv HCh0
      obtain ⟨J, hJ⟩ : ∃ J, jnB L D js (gi K k) = J := ⟨_, rfl⟩
      generalize gi K k = x at *
      cases J with
      | true =>
        · have HNx : Hid ((stK L js q h T D K (k + 1)) = if v = 0 then (0, OUT) else (v, OUT ++ [(c, v)])) := Lib.hid (by rw [HNx.out, hJ]; rfl)
          have HCo := Lib.hid (fun W (hW : Below w.heap.size w W) => by have := HCo.out W hW; rw [hJ] at this; exact this)
          clear hJ
          go_upto_region 10 with (first | (go_at_call 70; refine (HDs.out _).mono ?_; rintro e w3 ⟨rfl, hb3⟩; replace hbw := hbw.trans (hb3.mono hbw.size); replace l0 := cell_below l0 hb3; replace l1 := cell_below l1 hb3; replace m0 := cell_below m0 hb3; replace n0w := cell_below n0w hb3; replace n1w := cell_below n1w hb3; have hbx := hb3) | (go_at_call 83; refine (HCo.out _ hbw).mono ?_; rintro e w4 ⟨rfl, hb4⟩; replace hbw := hbw.trans (hb4.mono hbw.size); replace l0 := cell_below l0 hb4; replace l1 := cell_below l1 hb4; replace m0 := cell_below m0 hb4; replace n0w := cell_below n0w hb4; replace n1w := cell_below n1w hb4; replace hbx := hbx.trans (hb4.mono hbx.size)))
          have hbr := hbr.trans (hbx.mono hbr.size)
          have HRow := Lib.hid (owns_belowI HRow.out hbx)
          have HW1 := Lib.hid (fun W (hW : Below w4.heap.size w4 W) => HW1.out W (hbr.trans (hW.mono hbr.size)))
          obtain ⟨wr, rfl⟩ : ∃ wx : World, wx = w4 := ⟨_, rfl⟩
          have hzl := block_lt l0
          have hzm := block_lt m0
          have hzn := block_lt n0w
          clear hbx HDs HCo hb3 hb4
          refine wp_region_held_drew (S := fun w' => Below wr.heap.size wr w') (by kernel_rfl) ((Below.refl _ _).drew) (fun hHeld => ?_)
          refine takeU (i := 0) (some 40) (.pointer (some ⟨bc, 0, none⟩)) (by kernel_rfl) (by kernel_rfl) (by kernel_rfl) (by kernel_rfl) (by kernel_rfl) (fun _ => by kernel_rfl) (fun _ _ _ h => h) hHeld ?_
          refine wpAnyH_take (i := 1) (oi := { dst := some 41, op := Go.Op.load 75 (Go.Operand.tmp 40), type := 75, pos := "propose.go:40", after := #[{ on := 0, ground := Go.Ground.data }], guard := none }) (v := .func (.func 72) #[] #[.pointer (some ⟨eb, 0, none⟩), .pointer (some ⟨hb8, 0, none⟩), .pointer (some ⟨wb8, 0, none⟩)]) rfl (by kernel_rfl) (by kernel_rfl) (by kernel_rfl) (fun _ _ _ h => h) (.inl ⟨by kernel_rfl, fun w9 h9 => by
            clear hHeld
            have d0 := (h9.cell (p := ⟨bc, 0, none⟩) hzm).trans m0
            clear h9
            go_simp⟩) hHeld ?_
          refine wpAnyH_take (i := 2) (oi := { dst := some 42, op := Go.Op.load 24 (Go.Operand.tmp 4), type := 24, pos := "propose.go:40", after := #[], guard := none }) (v := .agg #[.int .i64 L, .slice a js.length ca]) rfl (by kernel_rfl) (by kernel_rfl) (by kernel_rfl) (fun _ _ _ h => h) (.inl ⟨by kernel_rfl, fun w9 h9 => by
            clear hHeld
            have d0 := (h9.cell (p := ⟨w.heap.size, 0, none⟩) hzl).trans l0
            have d1 := (h9.cell (p := ⟨w.heap.size, 1, none⟩) hzl).trans l1
            clear h9
            go_simp⟩) hHeld ?_
          refine takeU (i := 3) (some 43) (.pointer (some ⟨bw, 1, none⟩)) (by kernel_rfl) (by kernel_rfl) (by kernel_rfl) (by kernel_rfl) (by kernel_rfl) (fun _ => by kernel_rfl) (fun _ _ _ h => h) hHeld ?_
          refine wpAnyH_take (i := 4) (oi := { dst := some 44, op := Go.Op.load 3 (Go.Operand.tmp 43), type := 3, pos := "propose.go:40", after := #[{ on := 3, ground := Go.Ground.data }], guard := none }) (v := .int .i64 D) rfl (by kernel_rfl) (by kernel_rfl) (by kernel_rfl) (fun _ _ _ h => h) (.inl ⟨by kernel_rfl, fun w9 h9 => by
            clear hHeld
            have d0 := (h9.cell (p := ⟨bw, 1, none⟩) hzn).trans n1w
            clear h9
            go_simp⟩) hHeld ?_
          refine takeU (i := 5) (some 45) (.int .i64 x) (by kernel_rfl) (by kernel_rfl) (by kernel_rfl) (by kernel_rfl) (by kernel_rfl) (fun _ => by kernel_rfl) (fun _ _ _ h => h) hHeld ?_
          try simp only [Act.put, List.setIfInBounds_toArray, List.set_cons_zero, List.set_cons_succ]
          refine wpAnyH_ready (rs := [6]) (by kernel_rfl) (by simp) ?_
          refine AllReadyH.cons (o := { dst := some 46, op := Go.Op.call { callee := Go.Callee.value (Go.Operand.func 84), args := #[Go.Operand.tmp 42, Go.Operand.tmp 44, Go.Operand.tmp 45], argTypes := #[24, 3, 3] }, type := 3, pos := "propose.go:40", after := #[{ on := 2, ground := Go.Ground.data }, { on := 4, ground := Go.Ground.data }, { on := 5, ground := Go.Ground.data }], guard := none }) rfl (fun K hK => ?_) AllReadyH.nil
          go_simp
          go_at_call 84
          refine (HMa.out _).mono ?_
          rintro e w69 ⟨rfl, hb69⟩
          refine hK.out _ _ (hHeld.trans (hb69.mono hHeld.size)) (fun hHeld => ?_)
          clear hK K hb69
          try simp only [Act.put, List.setIfInBounds_toArray, List.set_cons_zero, List.set_cons_succ]
          try simp only [Act.put, List.setIfInBounds_toArray, List.set_cons_zero, List.set_cons_succ]
          refine wpAnyH_ready (rs := [7]) (by kernel_rfl) (by simp) ?_
          refine AllReadyH.cons (o := { dst := some 47, op := Go.Op.call { callee := Go.Callee.value (Go.Operand.tmp 41), args := #[Go.Operand.tmp 46], argTypes := #[3] }, type := 3, pos := "propose.go:40", after := #[{ on := 1, ground := Go.Ground.data }, { on := 6, ground := Go.Ground.data }, { on := 6, ground := Go.Ground.chain }], guard := none }) rfl (fun K hK => ?_) AllReadyH.nil
          go_simp
          go_at_call 72
          refine (HW1.out _ hHeld).mono ?_
          rintro e w79 ⟨rfl, hb79⟩
          refine hK.out _ _ (hHeld.trans (hb79.mono hHeld.size)) (fun hHeld => ?_)
          clear hK K hb79
          try simp only [Act.put, List.setIfInBounds_toArray, List.set_cons_zero, List.set_cons_succ]
          refine takeU (i := 8) (some 15) (.int .i64 v) (by kernel_rfl) (by kernel_rfl) (by kernel_rfl) (by kernel_rfl) (by kernel_rfl) (fun _ => by kernel_rfl) (fun _ _ _ h => h) hHeld ?_
          refine wpAnyH_done (by kernel_rfl) ?_ _
          try simp only [Act.put, List.setIfInBounds_toArray, List.set_cons_zero, List.set_cons_succ]
          have hbr := hbr.trans (hHeld.mono hbr.size)
          have HRow := Lib.hid (owns_belowI HRow.out hHeld)
          have hbw := hbw.trans (hHeld.mono hbw.size)
          have n0w := cell_below n0w hHeld
          have n1w := cell_below n1w hHeld
          obtain ⟨wA, rfl⟩ : ∃ wx : World, wx = w79 := ⟨_, rfl⟩
          clear hHeld l0 l1 m0 hzl hzm hzn HMa HW1
          by_cases hv : v = 0
          · have e0 : (v != 0) = false := by simp [hv]
            have HNn : Hid ((stK L js q h T D K (k + 1)) = (0, OUT)) := Lib.hid (by rw [HNx.out, if_pos hv])
            clear hv HNx HCh
            go_wp2_with fail
            go_roundw
            case rel => exact ⟨k + 1, av, cv, by omega, by go_num, by rw [HNn.out], by rw [HNn.out], Lib.hid (by rw [HNn.out]; exact HRow.out), hbr⟩
            case measure => simp [intOf]; omega
          · have e0 : (v != 0) = true := by simp [hv]
            have HNn : Hid ((stK L js q h T D K (k + 1)) = (v, OUT ++ [(c, v)])) := Lib.hid (by rw [HNx.out, if_neg hv])
            have HAP : Hid (OUT.length + 1 = (stK L js q h T D K (k + 1)).2.length ∧ cl9 (OUT.map (sgC T D h 0)) ++ [.int .i64 0, .int .i64 kn, .int .i64 vv, .int .i64 c, .int .i64 D, .int .i64 T, .int .i64 h, .int .i64 (h + 1), .slice none 0 0] = cl9 ((stK L js q h T D K (k + 1)).2.map (sgC T D h 0)) ∧ (stK L js q h T D K (k + 1)).1 = v) := Lib.hid (by
              rw [HNn.out]
              refine ⟨by simp, ?_, rfl⟩
              show _ = cl9 ((OUT ++ [(c, v)]).map (sgC T D h 0))
              rw [List.map_append, List.map_cons, List.map_nil, cl9_app, ← HKv.out.1, ← HKv.out.2]
              rfl)
            clear hv HNx HNn HKv
            go_wp2_with (first | (go_at_call 85; refine (HCh.out _).mono ?_; rintro e w5 ⟨rfl, hb5⟩; have hbr5 := hbr.trans (hb5.mono hbr.size); have hown := Lib.hid ((owns_belowI HRow.out hb5).alloc (.cells #[.int .i64 0, .int .i64 kn, .int .i64 vv, .int .i64 c, .int .i64 D, .int .i64 T, .int .i64 h, .int .i64 (h + 1), .slice none 0 0] 69)); have hbs := hbr5.size; clear hb5) | (at_builtin; go_loud (refine wpList_append_lies _ rfl _ _ 25 rfl w9.heap.size 69 n0 _ 9 88 Tryz.underlying25 hi hz0 hz1 hz2 rfl (by decide) (.slice _ OUT.length cv) OUT.length _ (by rfl) hown.out ⟨w5.heap.size, 0, none⟩ 1 1 [.int .i64 0, .int .i64 kn, .int .i64 vv, .int .i64 c, .int .i64 D, .int .i64 T, .int .i64 h, .int .i64 (h + 1), .slice none 0 0] (by rfl) (by rfl) ?d1 ?d2 (by decide) ?d3 ?d4 ?d5 _ rfl ?_)))
            case d1 =>
              refine World.news_of_block (cs := #[.int .i64 0, .int .i64 kn, .int .i64 vv, .int .i64 c, .int .i64 D, .int .i64 T, .int .i64 h, .int .i64 (h + 1), .slice none 0 0]) (t := 69) (fr := (0, 0)) ?_
              exact heap_alloc_new _ _
            case d2 => simp [Value.oneCell']
            case d3 => unfold maxLen; omega
            case d4 => omega
            case d5 => first | (simp; omega) | simp | omega
            intro g6 c6 w6 hown6 hgrow6 hat6 hlt6
            have hb6 : Below w9.heap.size w9 w6 := ((hbr5.alloc hbs _).grown hgrow6 (by first | (simp; omega) | simp | omega) (fun z hz => owns_blockI hown.out hz))
            go_wp2_with fail
            go_roundw
            case rel => exact ⟨k + 1, some ⟨g6, 0, none⟩, c6, by omega, by go_num, by rw [← HAP.out.1], by rw [HAP.out.2.2], Lib.hid (by rw [← HAP.out.1, ← HAP.out.2.1]; exact hown6), hb6⟩
            case measure => simp [intOf]; omega
      | false =>
        · have HNx : Hid ((stK L js q h T D K (k + 1)) = if v = N0 then (N0, OUT) else (v, OUT ++ [(c, v)])) := Lib.hid (by rw [HNx.out, hJ]; rfl)
          have HCo := Lib.hid (fun W (hW : Below w.heap.size w W) => by have := HCo.out W hW; rw [hJ] at this; exact this)
          clear hJ
          go_upto_region 10 with (first | (go_at_call 70; refine (HDs.out _).mono ?_; rintro e w3 ⟨rfl, hb3⟩; replace hbw := hbw.trans (hb3.mono hbw.size); replace l0 := cell_below l0 hb3; replace l1 := cell_below l1 hb3; replace m0 := cell_below m0 hb3; replace n0w := cell_below n0w hb3; replace n1w := cell_below n1w hb3; have hbx := hb3) | (go_at_call 83; refine (HCo.out _ hbw).mono ?_; rintro e w4 ⟨rfl, hb4⟩; replace hbw := hbw.trans (hb4.mono hbw.size); replace l0 := cell_below l0 hb4; replace l1 := cell_below l1 hb4; replace m0 := cell_below m0 hb4; replace n0w := cell_below n0w hb4; replace n1w := cell_below n1w hb4; replace hbx := hbx.trans (hb4.mono hbx.size)))
          have hbr := hbr.trans (hbx.mono hbr.size)
          have HRow := Lib.hid (owns_belowI HRow.out hbx)
          have HW1 := Lib.hid (fun W (hW : Below w4.heap.size w4 W) => HW1.out W (hbr.trans (hW.mono hbr.size)))
          obtain ⟨wr, rfl⟩ : ∃ wx : World, wx = w4 := ⟨_, rfl⟩
          have hzl := block_lt l0
          have hzm := block_lt m0
          have hzn := block_lt n0w
          clear hbx HDs HCo hb3 hb4
          refine wp_region_held_drew (S := fun w' => Below wr.heap.size wr w') (by kernel_rfl) ((Below.refl _ _).drew) (fun hHeld => ?_)
          refine takeU (i := 0) (some 40) (.pointer (some ⟨bc, 0, none⟩)) (by kernel_rfl) (by kernel_rfl) (by kernel_rfl) (by kernel_rfl) (by kernel_rfl) (fun _ => by kernel_rfl) (fun _ _ _ h => h) hHeld ?_
          refine wpAnyH_take (i := 1) (oi := { dst := some 41, op := Go.Op.load 75 (Go.Operand.tmp 40), type := 75, pos := "propose.go:40", after := #[{ on := 0, ground := Go.Ground.data }], guard := none }) (v := .func (.func 72) #[] #[.pointer (some ⟨eb, 0, none⟩), .pointer (some ⟨hb8, 0, none⟩), .pointer (some ⟨wb8, 0, none⟩)]) rfl (by kernel_rfl) (by kernel_rfl) (by kernel_rfl) (fun _ _ _ h => h) (.inl ⟨by kernel_rfl, fun w9 h9 => by
            clear hHeld
            have d0 := (h9.cell (p := ⟨bc, 0, none⟩) hzm).trans m0
            clear h9
            go_simp⟩) hHeld ?_
          refine wpAnyH_take (i := 2) (oi := { dst := some 42, op := Go.Op.load 24 (Go.Operand.tmp 4), type := 24, pos := "propose.go:40", after := #[], guard := none }) (v := .agg #[.int .i64 L, .slice a js.length ca]) rfl (by kernel_rfl) (by kernel_rfl) (by kernel_rfl) (fun _ _ _ h => h) (.inl ⟨by kernel_rfl, fun w9 h9 => by
            clear hHeld
            have d0 := (h9.cell (p := ⟨w.heap.size, 0, none⟩) hzl).trans l0
            have d1 := (h9.cell (p := ⟨w.heap.size, 1, none⟩) hzl).trans l1
            clear h9
            go_simp⟩) hHeld ?_
          refine takeU (i := 3) (some 43) (.pointer (some ⟨bw, 1, none⟩)) (by kernel_rfl) (by kernel_rfl) (by kernel_rfl) (by kernel_rfl) (by kernel_rfl) (fun _ => by kernel_rfl) (fun _ _ _ h => h) hHeld ?_
          refine wpAnyH_take (i := 4) (oi := { dst := some 44, op := Go.Op.load 3 (Go.Operand.tmp 43), type := 3, pos := "propose.go:40", after := #[{ on := 3, ground := Go.Ground.data }], guard := none }) (v := .int .i64 D) rfl (by kernel_rfl) (by kernel_rfl) (by kernel_rfl) (fun _ _ _ h => h) (.inl ⟨by kernel_rfl, fun w9 h9 => by
            clear hHeld
            have d0 := (h9.cell (p := ⟨bw, 1, none⟩) hzn).trans n1w
            clear h9
            go_simp⟩) hHeld ?_
          refine takeU (i := 5) (some 45) (.int .i64 x) (by kernel_rfl) (by kernel_rfl) (by kernel_rfl) (by kernel_rfl) (by kernel_rfl) (fun _ => by kernel_rfl) (fun _ _ _ h => h) hHeld ?_
          try simp only [Act.put, List.setIfInBounds_toArray, List.set_cons_zero, List.set_cons_succ]
          refine wpAnyH_ready (rs := [6]) (by kernel_rfl) (by simp) ?_
          refine AllReadyH.cons (o := { dst := some 46, op := Go.Op.call { callee := Go.Callee.value (Go.Operand.func 84), args := #[Go.Operand.tmp 42, Go.Operand.tmp 44, Go.Operand.tmp 45], argTypes := #[24, 3, 3] }, type := 3, pos := "propose.go:40", after := #[{ on := 2, ground := Go.Ground.data }, { on := 4, ground := Go.Ground.data }, { on := 5, ground := Go.Ground.data }], guard := none }) rfl (fun K hK => ?_) AllReadyH.nil
          go_simp
          go_at_call 84
          refine (HMa.out _).mono ?_
          rintro e w69 ⟨rfl, hb69⟩
          refine hK.out _ _ (hHeld.trans (hb69.mono hHeld.size)) (fun hHeld => ?_)
          clear hK K hb69
          try simp only [Act.put, List.setIfInBounds_toArray, List.set_cons_zero, List.set_cons_succ]
          try simp only [Act.put, List.setIfInBounds_toArray, List.set_cons_zero, List.set_cons_succ]
          refine wpAnyH_ready (rs := [7]) (by kernel_rfl) (by simp) ?_
          refine AllReadyH.cons (o := { dst := some 47, op := Go.Op.call { callee := Go.Callee.value (Go.Operand.tmp 41), args := #[Go.Operand.tmp 46], argTypes := #[3] }, type := 3, pos := "propose.go:40", after := #[{ on := 1, ground := Go.Ground.data }, { on := 6, ground := Go.Ground.data }, { on := 6, ground := Go.Ground.chain }], guard := none }) rfl (fun K hK => ?_) AllReadyH.nil
          go_simp
          go_at_call 72
          refine (HW1.out _ hHeld).mono ?_
          rintro e w79 ⟨rfl, hb79⟩
          refine hK.out _ _ (hHeld.trans (hb79.mono hHeld.size)) (fun hHeld => ?_)
          clear hK K hb79
          try simp only [Act.put, List.setIfInBounds_toArray, List.set_cons_zero, List.set_cons_succ]
          refine takeU (i := 8) (some 15) (.int .i64 v) (by kernel_rfl) (by kernel_rfl) (by kernel_rfl) (by kernel_rfl) (by kernel_rfl) (fun _ => by kernel_rfl) (fun _ _ _ h => h) hHeld ?_
          refine wpAnyH_done (by kernel_rfl) ?_ _
          try simp only [Act.put, List.setIfInBounds_toArray, List.set_cons_zero, List.set_cons_succ]
          have hbr := hbr.trans (hHeld.mono hbr.size)
          have HRow := Lib.hid (owns_belowI HRow.out hHeld)
          have hbw := hbw.trans (hHeld.mono hbw.size)
          have n0w := cell_below n0w hHeld
          have n1w := cell_below n1w hHeld
          obtain ⟨wA, rfl⟩ : ∃ wx : World, wx = w79 := ⟨_, rfl⟩
          clear hHeld l0 l1 m0 hzl hzm hzn HMa HW1
          by_cases hv : v = N0
          · have e0 : (v != N0) = false := by simp [hv]
            have HNn : Hid ((stK L js q h T D K (k + 1)) = (N0, OUT)) := Lib.hid (by rw [HNx.out, if_pos hv])
            clear hv HNx HCh
            go_wp2_with fail
            go_roundw
            case rel => exact ⟨k + 1, av, cv, by omega, by go_num, by rw [HNn.out], by rw [HNn.out], Lib.hid (by rw [HNn.out]; exact HRow.out), hbr⟩
            case measure => simp [intOf]; omega
          · have e0 : (v != N0) = true := by simp [hv]
            have HNn : Hid ((stK L js q h T D K (k + 1)) = (v, OUT ++ [(c, v)])) := Lib.hid (by rw [HNx.out, if_neg hv])
            have HAP : Hid (OUT.length + 1 = (stK L js q h T D K (k + 1)).2.length ∧ cl9 (OUT.map (sgC T D h 0)) ++ [.int .i64 0, .int .i64 kn, .int .i64 vv, .int .i64 c, .int .i64 D, .int .i64 T, .int .i64 h, .int .i64 (h + 1), .slice none 0 0] = cl9 ((stK L js q h T D K (k + 1)).2.map (sgC T D h 0)) ∧ (stK L js q h T D K (k + 1)).1 = v) := Lib.hid (by
              rw [HNn.out]
              refine ⟨by simp, ?_, rfl⟩
              show _ = cl9 ((OUT ++ [(c, v)]).map (sgC T D h 0))
              rw [List.map_append, List.map_cons, List.map_nil, cl9_app, ← HKv.out.1, ← HKv.out.2]
              rfl)
            clear hv HNx HNn HKv
            go_wp2_with (first | (go_at_call 85; refine (HCh.out _).mono ?_; rintro e w5 ⟨rfl, hb5⟩; have hbr5 := hbr.trans (hb5.mono hbr.size); have hown := Lib.hid ((owns_belowI HRow.out hb5).alloc (.cells #[.int .i64 0, .int .i64 kn, .int .i64 vv, .int .i64 c, .int .i64 D, .int .i64 T, .int .i64 h, .int .i64 (h + 1), .slice none 0 0] 69)); have hbs := hbr5.size; clear hb5) | (at_builtin; go_loud (refine wpList_append_lies _ rfl _ _ 25 rfl w9.heap.size 69 n0 _ 9 88 Tryz.underlying25 hi hz0 hz1 hz2 rfl (by decide) (.slice _ OUT.length cv) OUT.length _ (by rfl) hown.out ⟨w5.heap.size, 0, none⟩ 1 1 [.int .i64 0, .int .i64 kn, .int .i64 vv, .int .i64 c, .int .i64 D, .int .i64 T, .int .i64 h, .int .i64 (h + 1), .slice none 0 0] (by rfl) (by rfl) ?d1 ?d2 (by decide) ?d3 ?d4 ?d5 _ rfl ?_)))
            case d1 =>
              refine World.news_of_block (cs := #[.int .i64 0, .int .i64 kn, .int .i64 vv, .int .i64 c, .int .i64 D, .int .i64 T, .int .i64 h, .int .i64 (h + 1), .slice none 0 0]) (t := 69) (fr := (0, 0)) ?_
              exact heap_alloc_new _ _
            case d2 => simp [Value.oneCell']
            case d3 => unfold maxLen; omega
            case d4 => omega
            case d5 => first | (simp; omega) | simp | omega
            intro g6 c6 w6 hown6 hgrow6 hat6 hlt6
            have hb6 : Below w9.heap.size w9 w6 := ((hbr5.alloc hbs _).grown hgrow6 (by first | (simp; omega) | simp | omega) (fun z hz => owns_blockI hown.out hz))
            go_wp2_with fail
            go_roundw
            case rel => exact ⟨k + 1, some ⟨g6, 0, none⟩, c6, by omega, by go_num, by rw [← HAP.out.1], by rw [HAP.out.2.2], Lib.hid (by rw [← HAP.out.1, ← HAP.out.2.1]; exact hown6), hb6⟩
            case measure => simp [intOf]; omega
    · obtain rfl : k = K.length := by omega
      have HEnd : Hid (∃ b c, Ending.returned (.slice av (stK L js q h T D K K.length).2.length cv) = .returned (.slice b (wayN L js q h T D).length c) ∧ wr.ownsRow w.heap.size 69 9 (.slice b (wayN L js q h T D).length c) (wayN L js q h T D).length (cl9 (wayN L js q h T D)) ∧ Below w.heap.size w wr) := Lib.hid ⟨av, cv, by rw [HFl.out], by
        have h1 := HRow.out
        rw [HFl.out, HFin.out] at h1
        exact owns_baseI h1 HB.out.size, hbw⟩
      clear HRow HC HLa HDs0 HMa0 HCo0 HIn HW0 HCh0
      go_wp2_with fail
      go_ret
      exact HEnd.out
end Go.Proofs.YtlpdjinhkmgbgaaGreatDoor
