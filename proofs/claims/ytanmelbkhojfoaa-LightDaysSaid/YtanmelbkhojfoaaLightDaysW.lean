/-
  The walk of the law LightDays: it answers true. By an AI agent.
-/
import Derived.Test.YtanmelbkhojfoaaLightDz
import Derived.Test.YtanmelbkhojfoaaLightDs
import Derived.Test.YtanmelbkhojfoaaLightDt
import Derived.Test.YtanmelbkhojfoaaLightDn
import Derived.Test.YtanmelbkhojfoaaLightDo
namespace Go.Proofs.Ytanmelbkhojfoaa
set_option linter.unusedVariables false
set_option linter.unusedSimpArgs false
open Go.RowKit

theorem upd_ok {z0 z1 z2 z3 kq : Int} {s : Nat} {l : List (Int × Int)} (hs : s ≤ 3) (h : hisB z0 z1 z2 z3 s l = true) (k0 : 0 ≤ kq) (k1 : kq ≤ 1000) :
    hisB (if s = 0 then kq else z0) (if s = 1 then kq else z1) (if s = 2 then kq else z2) (if s = 3 then kq else z3) s l = true ∧ keepOf (if s = 0 then kq else z0) (if s = 1 then kq else z1) (if s = 2 then kq else z2) (if s = 3 then kq else z3) s = kq := by
  have hh := hisB_iff.1 h
  obtain ⟨h0, h1, h2, h3, h4, h5⟩ := hh
  match s, hs with
  | 0, _ => exact ⟨hisB_iff.2 ⟨⟨k0, k1⟩, h1, h2, h3, h4, h5⟩, by simp [keepOf]⟩
  | 1, _ => exact ⟨hisB_iff.2 ⟨h0, ⟨k0, k1⟩, h2, h3, h4, h5⟩, by simp [keepOf]⟩
  | 2, _ => exact ⟨hisB_iff.2 ⟨h0, h1, ⟨k0, k1⟩, h3, h4, h5⟩, by simp [keepOf]⟩
  | 3, _ => exact ⟨hisB_iff.2 ⟨h0, h1, h2, ⟨k0, k1⟩, h4, h5⟩, by simp [keepOf]⟩

set_option maxRecDepth 100000 in
set_option maxHeartbeats 2000000 in
theorem days_long (z0 z1 z2 z3 side : Int) (a : Option Addr) (l : List (Int × Int)) (cap : Nat) (day least more ahead : Int) (w : World) (hP : PairsS w a l) (b6 : I64 least) (hn : 50 < l.length) :
    Calls Try.prog 16 #[.agg #[.int .i64 z0, .int .i64 z1, .int .i64 z2, .int .i64 z3, .int .i64 side, .slice a l.length cap, .int .i64 day, .int .i64 least], .int .u16 more, .int .u16 ahead] w fun e w' => e = .returned (.bool true) ∧ Below w.heap.size w w' := by
  have HM : Hid (∀ W, Below w.heap.size w W → Calls Try.prog 53 #[.agg #[.int .i64 z0, .int .i64 z1, .int .i64 z2, .int .i64 z3], .int .i64 side, .slice a l.length cap] W fun e w' => e = .returned (.bool (hisB z0 z1 z2 z3 side l)) ∧ Below W.heap.size W w') := Lib.hid fun W hW => refMeasures_any z0 z1 z2 z3 side a l cap W (hP.below hW)
  have H1 : Hid (∀ W, Below w.heap.size w W → Calls Try.prog 20 #[] W fun e w' => e = .returned (.bool true) ∧ Below W.heap.size W w') := Lib.hid fun W _ => first_any W
  have hlen := hP.1
  obtain ⟨b60, b61⟩ := b6
  have hn1 : (50 : Int) < (l.length : Int) := by omega
  clear hP
  go_enter Try.func16, Try.ntmps16
  go_wp2_with fail
  refine (H1.out _ (box_below (Below.refl _ _))).mono ?_
  rintro E w1 ⟨rfl, hb1⟩
  obtain ⟨hc1, hf1⟩ := bcell hb1
  go_wp2_with fail
  go_ret
  exact ⟨rfl, box_below hb1⟩

set_option maxRecDepth 100000 in
set_option maxHeartbeats 2000000 in
theorem days_bad (z0 z1 z2 z3 side : Int) (a : Option Addr) (l : List (Int × Int)) (cap : Nat) (day least more ahead : Int) (w : World) (hP : PairsS w a l) (b6 : I64 least) (hn : l.length ≤ 50) (hb : hisB z0 z1 z2 z3 side l = false) :
    Calls Try.prog 16 #[.agg #[.int .i64 z0, .int .i64 z1, .int .i64 z2, .int .i64 z3, .int .i64 side, .slice a l.length cap, .int .i64 day, .int .i64 least], .int .u16 more, .int .u16 ahead] w fun e w' => e = .returned (.bool true) ∧ Below w.heap.size w w' := by
  have HM : Hid (∀ W, Below w.heap.size w W → Calls Try.prog 53 #[.agg #[.int .i64 z0, .int .i64 z1, .int .i64 z2, .int .i64 z3], .int .i64 side, .slice a l.length cap] W fun e w' => e = .returned (.bool (hisB z0 z1 z2 z3 side l)) ∧ Below W.heap.size W w') := Lib.hid fun W hW => refMeasures_any z0 z1 z2 z3 side a l cap W (hP.below hW)
  have H1 : Hid (∀ W, Below w.heap.size w W → Calls Try.prog 20 #[] W fun e w' => e = .returned (.bool true) ∧ Below W.heap.size W w') := Lib.hid fun W _ => first_any W
  have hlen := hP.1
  obtain ⟨b60, b61⟩ := b6
  rw [hb] at HM
  clear hb
  clear hP
  go_enter Try.func16, Try.ntmps16
  go_wp2_with fail
  refine (HM.out _ (box_below (Below.refl _ _))).mono ?_
  rintro E w1 ⟨rfl, hb1⟩
  obtain ⟨hc1, hf1⟩ := bcell hb1
  go_wp2_with fail
  refine (H1.out _ (box_below hb1)).mono ?_
  rintro E w2 ⟨rfl, hb2⟩
  have hb2 := hb1.trans (hb2.mono hb1.size)
  clear hc1 hf1
  obtain ⟨hc2, hf2⟩ := bcell hb2
  go_wp2_with fail
  go_ret
  exact ⟨rfl, box_below hb2⟩

set_option maxRecDepth 100000 in
set_option maxHeartbeats 2000000 in
theorem days_lo (z0 z1 z2 z3 side : Int) (a : Option Addr) (l : List (Int × Int)) (cap : Nat) (day least more ahead : Int) (w : World) (hP : PairsS w a l) (b6 : I64 least) (hn : l.length ≤ 50) (hb : hisB z0 z1 z2 z3 side l = true) (hl : least < 0) :
    Calls Try.prog 16 #[.agg #[.int .i64 z0, .int .i64 z1, .int .i64 z2, .int .i64 z3, .int .i64 side, .slice a l.length cap, .int .i64 day, .int .i64 least], .int .u16 more, .int .u16 ahead] w fun e w' => e = .returned (.bool true) ∧ Below w.heap.size w w' := by
  have HM : Hid (∀ W, Below w.heap.size w W → Calls Try.prog 53 #[.agg #[.int .i64 z0, .int .i64 z1, .int .i64 z2, .int .i64 z3], .int .i64 side, .slice a l.length cap] W fun e w' => e = .returned (.bool (hisB z0 z1 z2 z3 side l)) ∧ Below W.heap.size W w') := Lib.hid fun W hW => refMeasures_any z0 z1 z2 z3 side a l cap W (hP.below hW)
  have H1 : Hid (∀ W, Below w.heap.size w W → Calls Try.prog 20 #[] W fun e w' => e = .returned (.bool true) ∧ Below W.heap.size W w') := Lib.hid fun W _ => first_any W
  have hlen := hP.1
  obtain ⟨b60, b61⟩ := b6
  rw [hb] at HM
  clear hb
  clear hP
  go_enter Try.func16, Try.ntmps16
  go_wp2_with fail
  refine (HM.out _ (box_below (Below.refl _ _))).mono ?_
  rintro E w1 ⟨rfl, hb1⟩
  obtain ⟨hc1, hf1⟩ := bcell hb1
  go_wp2_with fail
  refine (H1.out _ (box_below hb1)).mono ?_
  rintro E w2 ⟨rfl, hb2⟩
  have hb2 := hb1.trans (hb2.mono hb1.size)
  clear hc1 hf1
  obtain ⟨hc2, hf2⟩ := bcell hb2
  go_wp2_with fail
  go_ret
  exact ⟨rfl, box_below hb2⟩

set_option maxRecDepth 100000 in
set_option maxHeartbeats 2000000 in
theorem days_hi (z0 z1 z2 z3 side : Int) (a : Option Addr) (l : List (Int × Int)) (cap : Nat) (day least more ahead : Int) (w : World) (hP : PairsS w a l) (b6 : I64 least) (hn : l.length ≤ 50) (hb : hisB z0 z1 z2 z3 side l = true) (hl0 : 0 ≤ least) (hl : 100000 < least) :
    Calls Try.prog 16 #[.agg #[.int .i64 z0, .int .i64 z1, .int .i64 z2, .int .i64 z3, .int .i64 side, .slice a l.length cap, .int .i64 day, .int .i64 least], .int .u16 more, .int .u16 ahead] w fun e w' => e = .returned (.bool true) ∧ Below w.heap.size w w' := by
  have HM : Hid (∀ W, Below w.heap.size w W → Calls Try.prog 53 #[.agg #[.int .i64 z0, .int .i64 z1, .int .i64 z2, .int .i64 z3], .int .i64 side, .slice a l.length cap] W fun e w' => e = .returned (.bool (hisB z0 z1 z2 z3 side l)) ∧ Below W.heap.size W w') := Lib.hid fun W hW => refMeasures_any z0 z1 z2 z3 side a l cap W (hP.below hW)
  have H1 : Hid (∀ W, Below w.heap.size w W → Calls Try.prog 20 #[] W fun e w' => e = .returned (.bool true) ∧ Below W.heap.size W w') := Lib.hid fun W _ => first_any W
  have hlen := hP.1
  obtain ⟨b60, b61⟩ := b6
  rw [hb] at HM
  clear hb
  clear hP
  go_enter Try.func16, Try.ntmps16
  go_wp2_with fail
  refine (HM.out _ (box_below (Below.refl _ _))).mono ?_
  rintro E w1 ⟨rfl, hb1⟩
  obtain ⟨hc1, hf1⟩ := bcell hb1
  go_wp2_with fail
  refine (H1.out _ (box_below hb1)).mono ?_
  rintro E w2 ⟨rfl, hb2⟩
  have hb2 := hb1.trans (hb2.mono hb1.size)
  clear hc1 hf1
  obtain ⟨hc2, hf2⟩ := bcell hb2
  go_wp2_with fail
  go_ret
  exact ⟨rfl, box_below hb2⟩

theorem lightDays_any (z0 z1 z2 z3 side : Int) (a : Option Addr) (l : List (Int × Int)) (cap : Nat) (day least more ahead : Int) (w : World) (hP : PairsS w a l) (hcap : l.length ≤ cap) (b6 : I64 least) (m0 : 0 ≤ more ∧ more ≤ 65535) (a0 : 0 ≤ ahead ∧ ahead ≤ 65535) :
    Calls Try.prog 16 #[.agg #[.int .i64 z0, .int .i64 z1, .int .i64 z2, .int .i64 z3, .int .i64 side, .slice a l.length cap, .int .i64 day, .int .i64 least], .int .u16 more, .int .u16 ahead] w fun e w' => e = .returned (.bool true) ∧ Below w.heap.size w w' := by
  by_cases hn : l.length ≤ 50
  · by_cases hb : hisB z0 z1 z2 z3 side l = true
    · by_cases l0 : 0 ≤ least
      · by_cases l1 : least ≤ 100000
        · have hM := (hisB_iff.1 hb).2.2.2.2.2
          have hs := (hisB_iff.1 hb).2.2.2.2.1
          obtain ⟨s, rfl⟩ : ∃ s : Nat, side = s := ⟨side.toNat, by omega⟩
          have hs3 : s ≤ 3 := by omega
          have n0 := hM.1
          obtain ⟨m, hm⟩ : ∃ m, l.length = m + 1 := ⟨l.length - 1, by omega⟩
          have hkb := keep_bd hb
          have hl := btw_t l0 l1
          obtain ⟨_, _, blk, off, hadr, hc⟩ := id hP
          obtain rfl := hadr (fun h => by rw [h] at n0; simp at n0)
          obtain ⟨c0, c1⟩ := hc m (by omega)
          obtain ⟨d0, d1, r0, r1⟩ := mes_day hM (show m < l.length by omega)
          have HM : Hid (∀ W, Below w.heap.size w W → Calls Try.prog 53 #[.agg #[.int .i64 z0, .int .i64 z1, .int .i64 z2, .int .i64 z3], .int .i64 s, .slice (some ⟨blk, off, none⟩) (m + 1) cap] W fun e w' => e = .returned (.bool true) ∧ Below W.heap.size W w') := Lib.hid fun W hW => by
            have := refMeasures_any z0 z1 z2 z3 s (some ⟨blk, off, none⟩) l cap W (hP.below hW)
            rwa [hb, hm] at this
          have HV : Hid (∀ D q, (gp l m).1 ≤ D → D ≤ 100000 → (D - (gp l m).1) / 365 = ((q : Nat) : Int) → ∀ W, Below w.heap.size w W → Calls Try.prog 41 #[.agg #[.int .i64 z0, .int .i64 z1, .int .i64 z2, .int .i64 z3], .int .i64 s, .slice (some ⟨blk, off, none⟩) (m + 1) cap, .int .i64 D] W fun e w' => e = .returned (.tuple #[.int .i64 (agV (gp l m).2 (keepOf z0 z1 z2 z3 s) q), .int .i64 0]) ∧ Below W.heap.size W w') := Lib.hid fun D q h1 h2 h3 W hW => by
            have := value_last z0 z1 z2 z3 s (some ⟨blk, off, none⟩) l cap m hm hcap hb D q h1 h2 h3 W (hP.below hW)
            rwa [hm] at this
          have hq : 0 ≤ min 1000 (keepOf z0 z1 z2 z3 s + more % 200) ∧ min 1000 (keepOf z0 z1 z2 z3 s + more % 200) ≤ 1000 ∧ keepOf z0 z1 z2 z3 s ≤ min 1000 (keepOf z0 z1 z2 z3 s + more % 200) := by omega
          have hag : ∀ i, 0 ≤ agV (gp l m).2 (keepOf z0 z1 z2 z3 s) i ∧ agV (gp l m).2 (keepOf z0 z1 z2 z3 s) i ≤ 100000 := fun i => agV_bd r0 r1 hkb.1 hkb.2 i
          have hanti : ∀ i j, i ≤ j → agV (gp l m).2 (keepOf z0 z1 z2 z3 s) j ≤ agV (gp l m).2 (keepOf z0 z1 z2 z3 s) i := fun i j h => agV_le r0 r1 hkb.1 hkb.2 h
          have H2 : ∀ P : Int → Prop, (∀ y', dueIx (gp l m).2 (min 1000 (keepOf z0 z1 z2 z3 s + more % 200)) least (dueN (gp l m).1) = some y' → P ((gp l m).1 + y' * 365)) → ∃ D2 O2, (O2 = true → P D2) ∧ ∀ W, Below w.heap.size w W → ∀ x0 x1 x2 x3, x0 = (if s = 0 then min 1000 (keepOf z0 z1 z2 z3 s + more % 200) else z0) → x1 = (if s = 1 then min 1000 (keepOf z0 z1 z2 z3 s + more % 200) else z1) → x2 = (if s = 2 then min 1000 (keepOf z0 z1 z2 z3 s + more % 200) else z2) → x3 = (if s = 3 then min 1000 (keepOf z0 z1 z2 z3 s + more % 200) else z3) → Calls Try.prog 43 #[.agg #[.int .i64 x0, .int .i64 x1, .int .i64 x2, .int .i64 x3], .int .i64 s, .slice (some ⟨blk, off, none⟩) (m + 1) cap, .int .i64 least] W fun e w' => e = .returned (.tuple #[.int .i64 D2, .bool O2, .int .i64 0]) ∧ Below W.heap.size W w' := by
            intro P hPy
            have hu := upd_ok hs3 hb hq.1 hq.2.1
            cases hy : dueIx (gp l m).2 (min 1000 (keepOf z0 z1 z2 z3 s + more % 200)) least (dueN (gp l m).1) with
            | none =>
              refine ⟨0, false, fun h => by simp at h, fun W hW x0 x1 x2 x3 e0 e1 e2 e3 => ?_⟩
              rw [e0, e1, e2, e3]
              have := due_none_any _ _ _ _ least s (some ⟨blk, off, none⟩) l cap m hm hu.1 hl (by rw [hu.2]; exact hy) W (hP.below hW)
              rwa [hm] at this
            | some y' =>
              refine ⟨(gp l m).1 + y' * 365, true, fun _ => hPy y' hy, fun W hW x0 x1 x2 x3 e0 e1 e2 e3 => ?_⟩
              rw [e0, e1, e2, e3]
              have := due_some_any _ _ _ _ least s (some ⟨blk, off, none⟩) l cap m hm hu.1 hl y' (by rw [hu.2]; exact hy) _ rfl W (hP.below hW)
              rwa [hm] at this
          rw [hm]
          cases hdue : dueIx (gp l m).2 (keepOf z0 z1 z2 z3 s) least (dueN (gp l m).1) with
          | none =>
            have hno := dueIx_none hdue
            have HD : Hid (∀ W, Below w.heap.size w W → Calls Try.prog 43 #[.agg #[.int .i64 z0, .int .i64 z1, .int .i64 z2, .int .i64 z3], .int .i64 s, .slice (some ⟨blk, off, none⟩) (m + 1) cap, .int .i64 least] W fun e w' => e = .returned (.tuple #[.int .i64 0, .bool false, .int .i64 0]) ∧ Below W.heap.size W w') := Lib.hid fun W hW => by
              have := due_none_any z0 z1 z2 z3 least s (some ⟨blk, off, none⟩) l cap m hm hb hl hdue W (hP.below hW)
              rwa [hm] at this
            have hup : ∀ j : Nat, (j : Int) * 365 ≤ 100000 - (gp l m).1 → least ≤ agV (gp l m).2 (keepOf z0 z1 z2 z3 s) j := fun j hj => hno j (by unfold dueN; omega)
            have H2n := Lib.hid (H2 (fun _ => False) (fun y' hy' => by
              obtain ⟨h1, h2, _⟩ := dueIx_some hy'
              have h3 := hno y' h1
              have h4 := agV_keep r0 r1 hkb.1 hq.2.2 hq.2.1 y'
              omega))
            by_cases hmx : (gp l m).1 < 100000 - ahead % 800
            · exact days_none0 z0 z1 z2 z3 day least _ _ _ more ahead s m blk off cap w hs3 (by omega) l0 l1 d0 d1 hkb.1 hkb.2 m0.1 m0.2 a0.1 a0.2 rfl c0 c1 HM HV hup hanti hag HD (fun e2 he => by rw [he]; exact hmx) H2n
            · exact days_none1 z0 z1 z2 z3 day least _ _ _ more ahead s m blk off cap w hs3 (by omega) l0 l1 d0 d1 hkb.1 hkb.2 m0.1 m0.2 a0.1 a0.2 rfl c0 c1 HM HV hup hanti hag HD (fun e2 he => by omega) H2n
          | some y =>
            obtain ⟨hy1, hlow, hup⟩ := dueIx_some hdue
            have HD : Hid (∀ W, Below w.heap.size w W → Calls Try.prog 43 #[.agg #[.int .i64 z0, .int .i64 z1, .int .i64 z2, .int .i64 z3], .int .i64 s, .slice (some ⟨blk, off, none⟩) (m + 1) cap, .int .i64 least] W fun e w' => e = .returned (.tuple #[.int .i64 ((gp l m).1 + y * 365), .bool true, .int .i64 0]) ∧ Below W.heap.size W w') := Lib.hid fun W hW => by
              have := due_some_any z0 z1 z2 z3 least s (some ⟨blk, off, none⟩) l cap m hm hb hl y hdue _ rfl W (hP.below hW)
              rwa [hm] at this
            have H2s := Lib.hid (H2 (fun D2 => (gp l m).1 + (y : Int) * 365 ≤ D2) (fun y' hy' => by
              obtain ⟨h1, h2, _⟩ := dueIx_some hy'
              have h4 := agV_keep r0 r1 hkb.1 hq.2.2 hq.2.1 y'
              have h5 : y ≤ y' := by
                apply Nat.le_of_not_lt
                intro hlt
                have := hup y' hlt
                omega
              omega))
            have hdv1 : (gp l m).1 + (y : Int) * 365 ≤ 100000 := by unfold dueN at hy1; omega
            by_cases hy0 : y = 0
            · subst hy0
              have ez : (gp l m).1 + ((0 : Nat) : Int) * 365 = (gp l m).1 := by simp
              rw [ez] at HD H2s
              exact days_zero z0 z1 z2 z3 day least _ _ _ more ahead s m blk off cap w hs3 (by omega) l0 l1 d0 d1 hkb.1 hkb.2 m0.1 m0.2 a0.1 a0.2 rfl c0 c1 HM HV hlow hag HD H2s
            · by_cases hmx : (gp l m).1 < ((gp l m).1 + (y : Int) * 365 - 1) - ahead % 800
              · exact days_some0 z0 z1 z2 z3 day least _ _ _ more ahead s m blk off cap w hs3 (by omega) l0 l1 d0 d1 hkb.1 hkb.2 m0.1 m0.2 a0.1 a0.2 rfl c0 c1 HM HV y _ (by omega) rfl hdv1 hlow hup hanti hag HD (fun e2 he => by rw [he]; exact hmx) H2s
              · exact days_some1 z0 z1 z2 z3 day least _ _ _ more ahead s m blk off cap w hs3 (by omega) l0 l1 d0 d1 hkb.1 hkb.2 m0.1 m0.2 a0.1 a0.2 rfl c0 c1 HM HV y _ (by omega) rfl hdv1 hlow hup hanti hag HD (fun e2 he => by omega) H2s
        · exact days_hi z0 z1 z2 z3 side a l cap day least more ahead w hP b6 hn hb l0 (by omega)
      · exact days_lo z0 z1 z2 z3 side a l cap day least more ahead w hP b6 hn hb (by omega)
    · exact days_bad z0 z1 z2 z3 side a l cap day least more ahead w hP b6 hn (by simpa using hb)
  · exact days_long z0 z1 z2 z3 side a l cap day least more ahead w hP b6 (by omega)
end Go.Proofs.Ytanmelbkhojfoaa
