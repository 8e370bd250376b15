/-
  The law RoadSets: it answers true. By an AI agent.
-/
import Derived.Test.YtdiabpcpcilclaaRoadY
import Derived.Test.YtdiabpcpcilclaaRoadPn
import Derived.Test.YtdiabpcpcilclaaRoadAw
import Derived.Test.YtdiabpcpcilclaaRoadTo
import Derived.Deep.RegionHeld3
import Derived.BigQuiet
import Derived.StillTailTactics
namespace Go.Proofs.Ytdiabpcpcilclaa
set_option linter.unusedVariables false
set_option linter.unusedSimpArgs false
open Go.RowKit

/-- The cells of ints. -/
def clI (s : List Int) : List Value := s.map fun x => .int .i64 x
theorem clI_at : ∀ (s : List Int) (i : Nat), i < s.length → (clI s)[i]? = some (.int .i64 (gi s i))
  | [], i, hi => by simp at hi
  | p :: s, 0, hi => by simp [clI, gi]
  | p :: s, i + 1, hi => by
    have ih := clI_at s i (by simpa using hi)
    unfold clI gi at *
    simpa using ih
theorem ints_own {w : World} {base c : Nat} {a : Option Addr} {s : List Int} (h : w.ownsRow base 3 1 (.slice a s.length c) s.length (clI s)) (hn : s.length ≤ 9223372036854775807) : IntsC w a s := by
  refine ⟨hn, ?_⟩
  rcases h.2 with ⟨h1, h2⟩ | ⟨g2, c2, cur, h1, _⟩
  · exact ⟨0, 0, (fun hne => absurd (List.eq_nil_of_length_eq_zero h2) hne), fun i hi => by omega⟩
  · obtain ⟨rfl, rfl⟩ : a = some ⟨g2, 0, none⟩ ∧ c = c2 := by simpa using h1
    refine ⟨g2, 0, fun _ => rfl, fun i hi => ?_⟩
    rw [Nat.zero_add, World.ownsRow.cellAt h i (by omega)]; exact clI_at s i hi
theorem okL_app {a b : List Spn} (ha : okL a = true) (hb : okL b = true) (h : a.length + b.length ≤ 1000) : okL (a ++ b) = true := by
  obtain ⟨a1, a2, a3⟩ := (okL_iff a).1 ha
  obtain ⟨b1, b2, b3⟩ := (okL_iff b).1 hb
  refine (okL_iff _).2 ⟨by rw [List.length_append]; omega, allV_app.2 ⟨a2, b2⟩, fun p hp => ?_⟩
  rcases List.mem_append.1 hp with hp | hp
  · exact a3 p hp
  · exact b3 p hp
theorem un_ok {l : List Spn} (h : okL l = true) : unL l = canL l ∧ unE l = 0 ∧ toV l = sumL (canL l) := by
  unfold unL unE toV
  exact ⟨if_pos h, if_pos h, if_pos h⟩
theorem mi_ok {a b : List Spn} (ha : okL a = true) (hb : okL b = true) : miL a b = minusL 10000000 a b ∧ miE a b = 0 := by
  unfold miL miE
  rw [ha, hb]
  exact ⟨if_pos rfl, if_pos rfl⟩
theorem mi_len {a b : List Spn} (ha : okL a = true) (hb : okL b = true) : (minusL 10000000 a b).length ≤ a.length + b.length + 2 := by
  obtain ⟨a1, a2, a3⟩ := (okL_iff a).1 ha
  obtain ⟨b1, b2, b3⟩ := (okL_iff b).1 hb
  obtain ⟨-, -, -, k4, k5⟩ := minus_ok a3 a2 b3 b2 (M := 10000000) (by decide)
  have h1 := (canL_ok a2)
  have h2 := (outC_ok h1.1 (inV_canL a3 a2) (M := 10000000) (by decide)).2.2.2
  have h3 := (canL_ok k5)
  have h4 := (outC_ok h3.1 (inV_canL k4 k5) (M := 10000000) (by decide)).2.2.2
  have h5 := h3.2.2
  have h6 := h1.2.2
  rw [List.length_append] at h5
  unfold minusL
  omega
theorem canon_gt {c : List Spn} (h : Canon c) {k : Nat} (h0 : 0 < k) (hk : k < c.length) : (gp c (k - 1)).2 < (gp c k).1 := canon_gp h (by omega) hk
set_option maxRecDepth 100000 in
set_option maxHeartbeats 4000000 in
theorem roadSets_any (a0 : Option Addr) (l0 : List Spn) (c0 : Nat) (a1 : Option Addr) (l1 : List Spn) (c1 : Nat) (z : Int) (w : World) (h0 : PairsS w a0 l0) (h1 : PairsS w a1 l1) :
    Calls Try.prog 5 #[.slice a0 l0.length c0, .slice a1 l1.length c1, .int .i64 z] w fun e w' => e = .returned (.bool true) ∧ Below w.heap.size w w' := by
  have HA := Lib.hid awake_any
  have HL0 := Lib.hid (fun W (hW : Below w.heap.size w W) => lists_any a0 l0 c0 W (h0.below hW))
  have HL1 := Lib.hid (fun W (hW : Below w.heap.size w W) => lists_any a1 l1 c1 W (h1.below hW))
  by_cases g0 : l0.length ≤ 40
  · have b0 : decide (40 < (l0.length : Int)) = false := decide_eq_false (by omega)
    by_cases g1 : l1.length ≤ 40
    · have b1 : decide (40 < (l1.length : Int)) = false := decide_eq_false (by omega)
      cases k0 : okL l0 with
      | false =>
        rw [k0] at HL0
        clear k0 HL1 h0 h1
        go_enter Try.func5, Try.ntmps5
        go_wp2_with fail
        refine (HL0.out _ (Below.refl _ _)).mono ?_
        rintro e w1 ⟨rfl, hb1⟩
        go_wp2_with fail
        refine (HA.out _).mono ?_
        rintro e w9 ⟨rfl, hb9⟩
        go_wp2_with fail
        go_ret
        exact ⟨rfl, below_on hb1 hb9⟩

      | true =>
        rw [k0] at HL0
        cases k1 : okL l1 with
        | false =>
          rw [k1] at HL1
          clear k0 k1 h0 h1
          go_enter Try.func5, Try.ntmps5
          go_wp2_with fail
          refine (HL0.out _ (Below.refl _ _)).mono ?_
          rintro e w1 ⟨rfl, hb1⟩
          go_wp2_with fail
          refine (HL1.out _ hb1).mono ?_
          rintro e w2 ⟨rfl, hb2⟩
          have hb := below_on hb1 hb2
          go_wp2_with fail
          refine (HA.out _).mono ?_
          rintro e w9 ⟨rfl, hb9⟩
          go_wp2_with fail
          go_ret
          exact ⟨rfl, below_on hb hb9⟩

        | true =>
          rw [k1] at HL1
          obtain ⟨oU, eU, -⟩ := un_ok (okL_app k0 k1 (by omega))
          obtain ⟨-, -, tB⟩ := un_ok (okL_app k0 k1 (by omega))
          obtain ⟨-, -, t0⟩ := un_ok k0
          obtain ⟨oM, eM⟩ := mi_ok k0 k1
          obtain ⟨oR, eR⟩ := mi_ok k1 k0
          obtain ⟨ln0, v0, i0⟩ := (okL_iff l0).1 k0
          obtain ⟨ln1, v1, i1⟩ := (okL_iff l1).1 k1
          obtain ⟨m1, m2, m3, -, -⟩ := minus_ok i0 v0 i1 v1 (M := 10000000) (by decide)
          obtain ⟨r1, r2, r3, -, -⟩ := minus_ok i1 v1 i0 v0 (M := 10000000) (by decide)
          have ml := mi_len k0 k1
          have rl := mi_len k1 k0
          have kB := okL_app k0 k1 (by omega)
          obtain ⟨lnB, vB, iB⟩ := (okL_iff (l0 ++ l1)).1 kB
          obtain ⟨u1, u2, u3⟩ := canL_ok vB
          have u4 := inV_canL iB vB
          have HW : Hid (∀ c, inB (canL (l0 ++ l1)) c = inB (l0 ++ l1) c ∧ inB (minusL 10000000 l0 l1) c = (inB l0 c && !(inB l1 c))) := Lib.hid fun c => by
            constructor
            · rw [Bool.eq_iff_iff, inB_iff, inB_iff, u2]
            · rw [Bool.eq_iff_iff, Bool.and_eq_true, Bool.not_eq_true', inB_iff, inB_iff, m3, ← Bool.not_eq_true, inB_iff]
          have HTot : Hid (sumL (canL (l0 ++ l1)) = sumL (canL l0) + sumL (minusL 10000000 l1 l0)) := Lib.hid (tot_add (M := 10000000) u1 (canL_ok v0).1 r1 u4 (inV_canL i0 v0) r2 (fun m => by
            rw [u2, inL_app, (canL_ok v0).2.1, r3]
            constructor
            · rintro (h | h)
              · exact .inl h
              · by_cases g : InL l0 m
                · exact .inl g
                · exact .inr ⟨h, g⟩
            · rintro (h | h)
              · exact .inl h
              · exact .inr h.1) (fun m => by
            rw [(canL_ok v0).2.1, r3]
            exact fun g => g.2.2 g.1))
          have kR : okL (minusL 10000000 l1 l0) = true := (okL_iff _).2 ⟨by omega, r1.2, r2⟩
          obtain ⟨-, -, tR⟩ := un_ok kR
          rw [canL_self r1] at tR
          have hsU := canon_sum u1 u4
          have hs0 := canon_sum (canL_ok v0).1 (inV_canL i0 v0)
          have hsR := canon_sum r1 r2
          have hul := u3
          rw [List.length_append] at hul
          have HGU := Lib.hid (fun k (h0 : 0 < k) (hk : k < (canL (l0 ++ l1)).length) => canon_gt u1 h0 hk)
          have HGM := Lib.hid (fun k (h0 : 0 < k) (hk : k < (minusL 10000000 l0 l1).length) => canon_gt m1 h0 hk)
          have HUn : Hid (∀ b c W, PairsS W b (l0 ++ l1) → Calls Try.prog 15 #[.slice b (l0 ++ l1).length c] W (LstE W (canL (l0 ++ l1)) 0)) := Lib.hid fun b c W h => by have := Union_any b (l0 ++ l1) c W h; rw [oU, eU] at this; exact this
          have HTo : Hid (∀ b c W, PairsS W b (l0 ++ l1) → Calls Try.prog 19 #[.slice b (l0 ++ l1).length c] W fun e w' => e = .returned (.tuple #[.int .i64 (sumL (canL (l0 ++ l1))), .int .i64 0]) ∧ Below W.heap.size W w') := Lib.hid fun b c W h => by have := Total_any b (l0 ++ l1) c W h; rw [tB, eU] at this; exact this
          have HT0 : Hid (∀ W, PairsS W a0 l0 → Calls Try.prog 19 #[.slice a0 l0.length c0] W fun e w' => e = .returned (.tuple #[.int .i64 (sumL (canL l0)), .int .i64 0]) ∧ Below W.heap.size W w') := Lib.hid fun W h => by have := Total_any a0 l0 c0 W h; rw [t0, (un_ok k0).2.1] at this; exact this
          have HTR : Hid (∀ b c W, PairsS W b (minusL 10000000 l1 l0) → Calls Try.prog 19 #[.slice b (minusL 10000000 l1 l0).length c] W fun e w' => e = .returned (.tuple #[.int .i64 (sumL (minusL 10000000 l1 l0)), .int .i64 0]) ∧ Below W.heap.size W w') := Lib.hid fun b c W h => by have := Total_any b _ c W h; rw [tR, (un_ok kR).2.1] at this; exact this
          have HMi : Hid (∀ W, PairsS W a0 l0 → PairsS W a1 l1 → Calls Try.prog 17 #[.slice a0 l0.length c0, .slice a1 l1.length c1] W (LstE W (minusL 10000000 l0 l1) 0)) := Lib.hid fun W h g => by have := Minus_any a0 l0 c0 a1 l1 c1 W h g; rw [oM, eM] at this; exact this
          have HMr : Hid (∀ W, PairsS W a0 l0 → PairsS W a1 l1 → Calls Try.prog 17 #[.slice a1 l1.length c1, .slice a0 l0.length c0] W (LstE W (minusL 10000000 l1 l0) 0)) := Lib.hid fun W h g => by have := Minus_any a1 l1 c1 a0 l0 c0 W g h; rw [oR, eR] at this; exact this
          have HBo : Hid (∀ W b c, W.ownsRow w.heap.size 26 2 (.slice b (l0.length + l1.length) c) (l0.length + l1.length) (clS l0 ++ clS l1) → PairsS W b (l0 ++ l1)) := Lib.hid fun W b c h => by
            rw [← List.length_append, ← clS_append] at h
            exact pairs_own h (by rw [List.length_append]; omega) fun j hj => inV_64 iB (Int.le_refl _) hj
          have HBl : Hid (l0.length + l1.length = (l0 ++ l1).length) := Lib.hid (by rw [List.length_append])
          have HWn : Hid (∀ k, k < (l0 ++ l1).length → (0 ≤ (gp (l0 ++ l1) k).1 ∧ (gp (l0 ++ l1) k).1 ≤ 10000000) ∧ 0 ≤ (gp (l0 ++ l1) k).2 ∧ (gp (l0 ++ l1) k).2 ≤ 10000000) := Lib.hid fun k hk => by have := iB _ (gp_mem hk); omega
          generalize l0 ++ l1 = B at *
          generalize canL B = U at *
          generalize minusL 10000000 l0 l1 = Mi at *
          generalize minusL 10000000 l1 l0 = R at *
          obtain ⟨sU, hsu⟩ : ∃ x, sumL U = x := ⟨_, rfl⟩
          obtain ⟨s0, hs00⟩ : ∃ x, sumL (canL l0) = x := ⟨_, rfl⟩
          obtain ⟨sR, hsr⟩ : ∃ x, sumL R = x := ⟨_, rfl⟩
          rw [hsu] at HTo HTot hsU
          rw [hs00] at HT0 HTot hs0
          rw [hsr] at HTR HTot hsR
          have hB80 : B.length ≤ 80 := by have := HBl.out; omega
          have hU80 : U.length ≤ 80 := by omega
          have hM82 : Mi.length ≤ 82 := by omega
          have hR82 : R.length ≤ 82 := by omega
          obtain ⟨q0, q1⟩ := hsU
          obtain ⟨q2, q3⟩ := hs0
          obtain ⟨q4, q5⟩ := hsR
          have HTeq : Hid (IntKind.i64.wrap (s0 + sR) = sU) := Lib.hid (by rw [HTot.out]; exact IntWalk.i64_in _ (by rw [HTot.out] at q0 q1; omega))
          have HP0 := Lib.hid h0
          have HP1 := Lib.hid h1
          have HW0 := Lib.hid (fun W (hW : Below w.heap.size w W) => h0.below hW)
          have HW1 := Lib.hid (fun W (hW : Below w.heap.size w W) => h1.below hW)
          clear h0 h1 oU eU tB t0 oM eM oR eR ln0 v0 i0 ln1 v1 i1 m1 m2 m3 r1 r2 r3 ml rl kB lnB vB iB u1 u2 u3 u4 kR tR hul hsu hs00 hsr k0 k1 HTot
          obtain ⟨n0, hi, hz0, hz1, hz2⟩ := info_parts intInfo
          go_enter Try.func5, Try.ntmps5
          go_wp2_with fail
          refine (HL0.out _ (Below.refl _ _)).mono ?_
          rintro e w1 ⟨rfl, hb1⟩
          go_wp2_with fail
          refine (HL1.out _ hb1).mono ?_
          rintro e w2 ⟨rfl, hb2⟩
          have hb := below_on hb1 hb2
          clear HL0 HL1 hb1 hb2
          have HR0 : Hid ((w2.alloc (.cells #[] 26)).ownsRow w.heap.size 26 2 (.slice (some ⟨w2.heap.size, 0, none⟩) 0 0) 0 []) := Lib.hid (World.ownsRow_made w2 #[] 0 hb.size (Nat.zero_le _) (by simp))
          have hbz : Below w2.heap.size w2 (w2.alloc (.cells #[] 26)) := (Below.refl _ _).alloc (Nat.le_refl _) _
          have HP0 := Lib.hid (HP0.out.below hb)
          have HP1 := Lib.hid (HP1.out.below hb)
          have HP0 := Lib.hid (HP0.out.below hbz)
          have HP1 := Lib.hid (HP1.out.below hbz)
          have hb := below_on hb hbz
          go_wp2_with (first | (at_builtin; go_loud (refine app_spans _ rfl _ _ rfl w.heap.size _ 0 0 [] (by rfl) HR0.out a0 l0 c0 (by rfl) HP0.out (by omega) hb.size ?_)))
          intro b3 k3 w3 ho3 hb3
          have HR3 := Lib.hid ho3
          have hb4 : Below w.heap.size w w3 := hb.trans hb3
          have HP0 := Lib.hid (HW0.out _ hb4)
          have HP1 := Lib.hid (HW1.out _ hb4)
          clear ho3 hb3 hb HR0 hbz
          go_wp2_with (first | (at_builtin; go_loud (refine app_spans _ rfl _ _ rfl w.heap.size _ l0.length k3 (clS l0) (by rfl) HR3.out a1 l1 c1 (by rfl) HP1.out (by omega) hb4.size ?_)))
          intro b4 k4 w4 ho4 hb5
          have HPB := Lib.hid (HBo.out _ _ _ ho4)
          have hb : Below w.heap.size w w4 := hb4.trans hb5
          have HP0 := Lib.hid (HW0.out _ hb)
          have HP1 := Lib.hid (HW1.out _ hb)
          rw [HBl.out]
          clear ho4 hb5 hb4 HR3 HBo HBl
          go_wp2_with fail
          refine (HUn.out b4 k4 _ HPB.out).mono ?_
          rintro e w5 ⟨bu, cu, rfl, hpu, hb5, hcu⟩
          have HPU := Lib.hid hpu
          have HP0 := Lib.hid (HP0.out.below hb5)
          have HP1 := Lib.hid (HP1.out.below hb5)
          have HPB := Lib.hid (HPB.out.below hb5)
          have hb := below_on hb hb5
          clear HUn hpu hb5 hcu
          go_wp2_with fail
          refine (HMi.out _ HP0.out HP1.out).mono ?_
          rintro e w6 ⟨bm, cm, rfl, hpm, hb6, hcm⟩
          have HPM := Lib.hid hpm
          have HP0 := Lib.hid (HP0.out.below hb6)
          have HP1 := Lib.hid (HP1.out.below hb6)
          have HPB := Lib.hid (HPB.out.below hb6)
          have HPU := Lib.hid (HPU.out.below hb6)
          have hb := below_on hb hb6
          clear HMi hpm hb6 hcm
          go_wp2_with fail
          have HI0 : Hid ((w6.alloc (.cells #[.int .i64 z] 3)).ownsRow w6.heap.size 3 1 (.slice (some ⟨w6.heap.size, 0, none⟩) 1 1) 1 (clI [z])) := Lib.hid (World.ownsRow_lit (base := w6.heap.size) (e := 3) (size := 1) w6 #[.int .i64 z] 1 (Nat.le_refl _) (by decide) (by simp))
          have hbz : Below w6.heap.size w6 (w6.alloc (.cells #[.int .i64 z] 3)) := (Below.refl _ _).alloc (Nat.le_refl _) _
          obtain ⟨wo, rfl⟩ : ∃ wo : World, wo = w6 := ⟨_, rfl⟩
          obtain ⟨-, -, Bb, Bo, hBa, hBc⟩ := HPB.out
          have HBc := Lib.hid hBc
          have HBa : Hid (0 < B.length → b4 = some ⟨Bb, Bo, none⟩) := Lib.hid fun h => hBa (pos_ne (n := 0) h)
          clear hBa hBc
          go_loopw [12, 13] (fun v i wr => ∃ k : Nat, k ≤ B.length ∧ i = .int .i64 k ∧ ∃ P : List Int, P.length = 1 + 4 * k ∧ (∃ a c, v = .slice a P.length c) ∧ Hid (wr.ownsRow wo.heap.size 3 1 v P.length (clI P)) ∧ Below wo.heap.size wo wr) (fun _ i _ => B.length - (intOf i).toNat)
          case atStart => exact ⟨0, Nat.zero_le _, rfl, [z], rfl, ⟨_, 1, rfl⟩, HI0.out |> Lib.hid, hbz⟩
          case round =>
            obtain ⟨k, hk, rfl, P, hPl, ⟨av, cv, rfl⟩, HRow, hbr⟩ := hrel
            by_cases hlt : k < B.length
            · obtain rfl := HBa.out (by omega)
              obtain ⟨e0, e1⟩ := HBc.out k hlt
              have E0 := Lib.hid e0
              have E1 := Lib.hid e1
              have e0 := cell_below e0 hbr
              have e1 := cell_below e1 hbr
              obtain ⟨⟨x0, x1⟩, y0, y1⟩ := HWn.out k hlt
              have hkl : (k : Int) < (B.length : Int) := by omega
              have hk0 : (0 : Int) ≤ (k : Int) := by omega
              have hmeas : B.length - (k + 1) < B.length - k := by omega
              have hP3 : P.length ≤ 400 := by omega
              have HPl := Lib.hid hPl
              clear HI0 hbz HA HTo HT0 HTR HMr HW HGU HGM HWn HBc HBa HPB HPU HPM HP0 HP1 HTeq hPl
              generalize (gp B k).1 = x at *
              generalize (gp B k).2 = y at *
              have wx : IntKind.i64.wrap (x - 1) = x - 1 := IntWalk.i64_in _ (by omega)
              have wy : IntKind.i64.wrap (y - 1) = y - 1 := IntWalk.i64_in _ (by omega)
              have hnw := Lib.hid (World.news_of_block (w := wr.alloc (.cells #[.int .i64 (x - 1), .int .i64 x, .int .i64 (y - 1), .int .i64 y] 3)) (B := wr.heap.size) (cs := #[.int .i64 (x - 1), .int .i64 x, .int .i64 (y - 1), .int .i64 y]) (t := 3) (fr := (0, 0)) (heap_alloc_new _ _))
              have hbs := hbr.size
              have z0 := block_lt e0
              go_wp2_with fail
              go_region_held3 (fun w' => w'.cell? ⟨Bb, Bo + k * 2, none⟩ = some (.int .i64 x) ∧ w'.cell? ⟨Bb, Bo + k * 2 + 1, none⟩ = some (.int .i64 y)) (go_keep)
                (first
                  | (refine step_append_lies _ (by rfl) _ _ _ (by rfl) wo.heap.size 3 n0 _ 1 8 Try.underlying42 hi hz0 hz1 hz2 rfl (by decide) (.slice av P.length cv) P.length _ (by rfl) ((HRow.out.alloc _).drew) ⟨wr.heap.size, 0, none⟩ 4 4 [.int .i64 (x - 1), .int .i64 x, .int .i64 (y - 1), .int .i64 y] (by rfl) (by rfl) (by exact hnw.out) (by simp [Value.oneCell']) (by decide) (by unfold maxLen; omega) (by omega) (by simp; omega) (wr.heap.size + 1) (by simp) ?_
                     intro g6 c6 w6 hown6 hgrow6 hat6 hlt6
                     have hb6 : Below wo.heap.size wo w6 := (((hbr.alloc hbs _).drew).grown hgrow6 (by simp; omega) (fun z hz => owns_block HRow.out hz))
                     have e0 := cell_below E0.out hb6
                     have e1 := cell_below E1.out hb6))
              all_goals
                go_wp2_with fail
                go_roundw
                case rel => exact ⟨k + 1, by omega, by go_num, P ++ [x - 1, x, y - 1, y], by have := HPl.out; simp; omega, ⟨some ⟨g6, 0, none⟩, c6, by simp⟩, Lib.hid (by have h := hown6; simpa [clI] using h), hb6⟩
                case measure => first | (simp [intOf]; exact hmeas) | simpa [intOf] using hmeas
            · obtain rfl : k = B.length := by omega
              have hI := Lib.hid (ints_own HRow.out (by omega))
              have HP0 := Lib.hid (HP0.out.below hbr)
              have HP1 := Lib.hid (HP1.out.below hbr)
              have HPB := Lib.hid (HPB.out.below hbr)
              have HPU := Lib.hid (HPU.out.below hbr)
              have HPM := Lib.hid (HPM.out.below hbr)
              have hb := below_on hb hbr
              have hP3 : P.length ≤ 400 := by omega
              clear HI0 hbz HBc HBa HWn HRow hbr hPl hk
              go_wp2_with fail
              obtain ⟨wp, rfl⟩ : ∃ wp : World, wp = wr := ⟨_, rfl⟩
              obtain ⟨-, pb, po, pa, pc⟩ := hI.out
              have Hpc := Lib.hid pc
              have Hpa : Hid (0 < P.length → av = some ⟨pb, po, none⟩) := Lib.hid fun h => pa (pos_ne (n := 0) h)
              clear pa pc
              go_loopw [14] (fun i wr => ∃ k : Nat, k ≤ P.length ∧ i = .int .i64 k ∧ wp = wr) (fun i _ => P.length - (intOf i).toNat)
              case atStart => exact ⟨0, Nat.zero_le _, rfl, rfl⟩
              case round =>
                obtain ⟨k, hk, rfl, rfl⟩ := hrel
                by_cases hlt : k < P.length
                · obtain rfl := Hpa.out (by omega)
                  have e0 := Hpc.out k hlt
                  have hkl : (k : Int) < (P.length : Int) := by omega
                  have hk0 : (0 : Int) ≤ (k : Int) := by omega
                  have hmeas : P.length - (k + 1) < P.length - k := by omega
                  obtain ⟨w1, w2⟩ := HW.out (gi P k)
                  generalize gi P k = c at *
                  have H1 := Lib.hid (withinL_any bu U cu c wp HPU.out)
                  have H2 := Lib.hid (withinL_any b4 B k4 c wp HPB.out)
                  have H3 := Lib.hid (withinL_any bm Mi cm c wp HPM.out)
                  have H4 := Lib.hid (withinL_any a0 l0 c0 c wp HP0.out)
                  have H5 := Lib.hid (withinL_any a1 l1 c1 c wp HP1.out)
                  rw [w1] at H1
                  rw [w2] at H3
                  clear w1 w2 Hpc Hpa HA HTo HT0 HTR HMr HGU HGM HTeq HP0 HP1 HPB HPU HPM hI HW
                  generalize inB B c = u at *
                  generalize inB l0 c = x at *
                  generalize inB l1 c = y at *
                  cases u <;> cases x <;> cases y
                  all_goals
                    simp only [Bool.not_true, Bool.not_false, Bool.and_true, Bool.and_false, Bool.true_and, Bool.false_and] at H3
                    go_wp2_with (first | (go_at_call_of 22 (Value.slice bu U.length cu); refine (H1.out).mono ?_; rintro e w7 ⟨rfl, rfl⟩) | (go_at_call_of 22 (Value.slice b4 B.length k4); refine (H2.out).mono ?_; rintro e w7 ⟨rfl, rfl⟩) | (go_at_call_of 22 (Value.slice bm Mi.length cm); refine (H3.out).mono ?_; rintro e w7 ⟨rfl, rfl⟩) | (go_at_call_of 22 (Value.slice a0 l0.length c0); refine (H4.out).mono ?_; rintro e w7 ⟨rfl, rfl⟩) | (go_at_call_of 22 (Value.slice a1 l1.length c1); refine (H5.out).mono ?_; rintro e w7 ⟨rfl, rfl⟩))
                    go_roundw
                    case rel => exact ⟨k + 1, by omega, by go_num, by trivial⟩
                    case measure => first | (simp [intOf]; exact hmeas) | simpa [intOf] using hmeas
                · have hnl : ¬ ((k : Int) < (P.length : Int)) := by omega
                  clear Hpc Hpa HW
                  go_wp2_with fail
                  obtain ⟨-, -, ub, uo, ua, uc⟩ := HPU.out
                  have Huc := Lib.hid uc
                  have Hua : Hid (0 < U.length → bu = some ⟨ub, uo, none⟩) := Lib.hid fun h => ua (pos_ne (n := 0) h)
                  clear ua uc
                  go_loopw [16] (fun i wr => ∃ k : Nat, 1 ≤ k ∧ i = .int .i64 k ∧ Below wp.heap.size wp wr) (fun i _ => U.length - (intOf i).toNat)
                  case atStart => exact ⟨1, Nat.le_refl _, rfl, Below.refl _ _⟩
                  case round =>
                    obtain ⟨k, hk, rfl, hbr⟩ := hrel
                    by_cases hlt : k < U.length
                    · obtain rfl := Hua.out (by omega)
                      obtain ⟨j, hj⟩ : ∃ j, k = j + 1 := ⟨k - 1, by omega⟩
                      have e0 := cell_below (Huc.out k hlt).1 hbr
                      have e1 := cell_below (Huc.out j (by omega)).2 hbr
                      have hG : (gp U j).2 < (gp U k).1 := by have h := HGU.out k (by omega) hlt; rwa [show k - 1 = j by omega] at h
                      have hkl : (k : Int) < (U.length : Int) := by omega
                      have hk0 : (0 : Int) ≤ (k : Int) := by omega
                      have hj0 : (0 : Int) ≤ (j : Int) := by omega
                      have hjl : (j : Int) < (U.length : Int) := by omega
                      have hji : (k : Int) - 1 = (j : Int) := by omega
                      have hlen := HPU.out.1
                      have hjw : IntKind.i64.wrap ((k : Int) - 1) = (j : Int) := by rw [hji]; exact IntWalk.i64_in _ (by omega)
                      have hmeas : U.length - (k + 1) < U.length - k := by omega
                      have HJ := Lib.hid hj
                      clear hj Huc Hua HA HTo HT0 HTR HMr HGU HGM HTeq HP0 HP1 HPB HPU HPM hI hlen
                      generalize (gp U k).1 = x at *
                      generalize (gp U j).2 = y at *
                      have hd : decide (x ≤ y) = false := decide_eq_false (by omega)
                      go_wp2_with fail
                      go_quiet (fail)
                      go_wp2_with fail
                      go_roundw
                      case rel => exact ⟨k + 1, by omega, by go_num, below_drewN hbr _⟩
                      case measure => first | (simp [intOf]; exact hmeas) | simpa [intOf] using hmeas
                    · have HP0 := Lib.hid (HP0.out.below hbr)
                      have HP1 := Lib.hid (HP1.out.below hbr)
                      have HPB := Lib.hid (HPB.out.below hbr)
                      have HPU := Lib.hid (HPU.out.below hbr)
                      have HPM := Lib.hid (HPM.out.below hbr)
                      have hb := below_on hb hbr
                      have hnl : ¬ ((k : Int) < (U.length : Int)) := by omega
                      clear Huc Hua hbr
                      go_wp2_with fail
                      clear HGU
                      obtain ⟨wp, rfl⟩ : ∃ wq : World, wq = wr := ⟨_, rfl⟩
                      obtain ⟨-, -, mb, mo, ma, mc⟩ := HPM.out
                      have Hmc := Lib.hid mc
                      have Hma : Hid (0 < Mi.length → bm = some ⟨mb, mo, none⟩) := Lib.hid fun h => ma (pos_ne (n := 0) h)
                      clear ma mc
                      go_loopw [17] (fun i wr => ∃ k : Nat, 1 ≤ k ∧ i = .int .i64 k ∧ Below wp.heap.size wp wr) (fun i _ => Mi.length - (intOf i).toNat)
                      case atStart => exact ⟨1, Nat.le_refl _, rfl, Below.refl _ _⟩
                      case round =>
                        obtain ⟨k, hk, rfl, hbr⟩ := hrel
                        by_cases hlt : k < Mi.length
                        · obtain rfl := Hma.out (by omega)
                          obtain ⟨j, hj⟩ : ∃ j, k = j + 1 := ⟨k - 1, by omega⟩
                          have e0 := cell_below (Hmc.out k hlt).1 hbr
                          have e1 := cell_below (Hmc.out j (by omega)).2 hbr
                          have hG : (gp Mi j).2 < (gp Mi k).1 := by have h := HGM.out k (by omega) hlt; rwa [show k - 1 = j by omega] at h
                          have hkl : (k : Int) < (Mi.length : Int) := by omega
                          have hk0 : (0 : Int) ≤ (k : Int) := by omega
                          have hj0 : (0 : Int) ≤ (j : Int) := by omega
                          have hjl : (j : Int) < (Mi.length : Int) := by omega
                          have hji : (k : Int) - 1 = (j : Int) := by omega
                          have hlen := HPM.out.1
                          have hjw : IntKind.i64.wrap ((k : Int) - 1) = (j : Int) := by rw [hji]; exact IntWalk.i64_in _ (by omega)
                          have hmeas : Mi.length - (k + 1) < Mi.length - k := by omega
                          have HJ := Lib.hid hj
                          clear hj Hmc Hma HA HTo HT0 HTR HMr HGM HTeq HP0 HP1 HPB HPU HPM hI hlen
                          generalize (gp Mi k).1 = x at *
                          generalize (gp Mi j).2 = y at *
                          have hd : decide (x ≤ y) = false := decide_eq_false (by omega)
                          go_wp2_with fail
                          go_quiet (fail)
                          go_wp2_with fail
                          go_roundw
                          case rel => exact ⟨k + 1, by omega, by go_num, below_drewN hbr _⟩
                          case measure => first | (simp [intOf]; exact hmeas) | simpa [intOf] using hmeas
                        · have HP0 := Lib.hid (HP0.out.below hbr)
                          have HP1 := Lib.hid (HP1.out.below hbr)
                          have HPB := Lib.hid (HPB.out.below hbr)
                          have HPU := Lib.hid (HPU.out.below hbr)
                          have HPM := Lib.hid (HPM.out.below hbr)
                          have hb := below_on hb hbr
                          have hnl : ¬ ((k : Int) < (Mi.length : Int)) := by omega
                          clear Hmc Hma hbr
                          go_wp2_with fail
                          refine (HTo.out _ k4 _ HPB.out).mono ?_
                          rintro e v1 ⟨rfl, hb1⟩
                          have HP0 := Lib.hid (HP0.out.below hb1)
                          have HP1 := Lib.hid (HP1.out.below hb1)
                          have hb := below_on hb hb1
                          clear HTo hb1 HPB HPU HPM hI
                          go_wp2_with fail
                          refine (HT0.out _ HP0.out).mono ?_
                          rintro e v2 ⟨rfl, hb1⟩
                          have HP0 := Lib.hid (HP0.out.below hb1)
                          have HP1 := Lib.hid (HP1.out.below hb1)
                          have hb := below_on hb hb1
                          clear HT0 hb1
                          go_wp2_with fail
                          refine (HMr.out _ HP0.out HP1.out).mono ?_
                          rintro e v3 ⟨br, cr, rfl, hpr, hb1, hcr⟩
                          have hb := below_on hb hb1
                          have HPR := Lib.hid hpr
                          clear HMr hb1 HP0 HP1 hpr
                          go_wp2_with fail
                          refine (HTR.out _ cr _ HPR.out).mono ?_
                          rintro e v4 ⟨rfl, hb1⟩
                          have hb := below_on hb hb1
                          have hte := HTeq.out
                          clear HTR hb1 HPR HTeq
                          go_wp2_with fail
                          refine (HA.out _).mono ?_
                          rintro e v5 ⟨rfl, hb1⟩
                          go_wp2_with fail
                          go_ret
                          exact ⟨rfl, below_on hb hb1⟩

    · have b1 : decide (40 < (l1.length : Int)) = true := decide_eq_true (by omega)
      clear HL0 HL1 h0 h1
      go_enter Try.func5, Try.ntmps5
      go_wp2_with fail
      refine (HA.out _).mono ?_
      rintro e w9 ⟨rfl, hb9⟩
      go_wp2_with fail
      go_ret
      exact ⟨rfl, hb9⟩

  · have b0 : decide (40 < (l0.length : Int)) = true := decide_eq_true (by omega)
    clear HL0 HL1 h0 h1
    go_enter Try.func5, Try.ntmps5
    go_wp2_with fail
    refine (HA.out _).mono ?_
    rintro e w9 ⟨rfl, hb9⟩
    go_wp2_with fail
    go_ret
    exact ⟨rfl, hb9⟩

end Go.Proofs.Ytdiabpcpcilclaa
