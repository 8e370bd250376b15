/-
  roadError, lengthOf, At and Length of package road. By an AI agent.
-/
import Derived.Test.YtdiabpcpcilclaaRoadB
import Derived.Deep.RegionHeld3
namespace Go.Proofs.Ytdiabpcpcilclaa
set_option linter.unusedVariables false
set_option linter.unusedSimpArgs false
open Go.RowKit

theorem ints0 (w : World) : IntsC w none [] := ⟨by simp, 0, 0, fun h => absurd rfl h, fun i hi => absurd hi (Nat.not_lt_zero _)⟩
theorem ints1 {w : World} {b : Nat} {x : Int} (hx : w.cell? ⟨b, 0, none⟩ = some (.int .i64 x)) : IntsC w (some ⟨b, 0, none⟩) [x] := ⟨by simp, b, 0, fun _ => rfl, fun i hi => by
  obtain rfl : i = 0 := by simpa using hi
  exact hx⟩
theorem ints2 {w : World} {b : Nat} {x y : Int} (hx : w.cell? ⟨b, 0, none⟩ = some (.int .i64 x)) (hy : w.cell? ⟨b, 1, none⟩ = some (.int .i64 y)) : IntsC w (some ⟨b, 0, none⟩) [x, y] := ⟨by simp, b, 0, fun _ => rfl, fun i hi => by
  have hi : i < 2 := by simpa using hi
  match i, hi with
  | 0, _ => exact hx
  | 1, _ => exact hy⟩
/-- The error of a road and of versions of it. -/
noncomputable def errL (N L : Int) (l : List Chg) (vs : List Int) : Int := if roadB N L l = true then (if winB 0 l.length vs = true then 0 else 61) else 60
theorem errL_cases (N L : Int) (l : List Chg) (vs : List Int) : (RoadOk N L l ∧ winB 0 l.length vs = true ∧ errL N L l vs = 0) ∨ errL N L l vs = 60 ∨ errL N L l vs = 61 := by
  unfold errL
  by_cases h : RoadOk N L l
  · rw [roadB_t h, if_pos rfl]
    cases hw : winB 0 l.length vs with
    | true => exact .inl ⟨h, rfl, rfl⟩
    | false => exact .inr (.inr rfl)
  · rw [roadB_f h, if_neg (by simp)]; exact .inr (.inl rfl)
theorem errL_road {N L : Int} {l : List Chg} (h : ¬ RoadOk N L l) (vs : List Int) : errL N L l vs = 60 := by unfold errL; rw [roadB_f h, if_neg (by simp)]
theorem errL_ver {N L : Int} {l : List Chg} {vs : List Int} (h : RoadOk N L l) (hw : winB 0 l.length vs = false) : errL N L l vs = 61 := by unfold errL; rw [roadB_t h, if_pos rfl, hw]; rfl
theorem errL_ok {N L : Int} {l : List Chg} {vs : List Int} (h : RoadOk N L l) (hw : winB 0 l.length vs = true) : errL N L l vs = 0 := by unfold errL; rw [roadB_t h, if_pos rfl, hw]; rfl
theorem win1 {x a b : Int} : winB a b [x] = btw x a b := by simp [winB]
theorem win2 {x y a b : Int} : winB a b [x, y] = (btw x a b && btw y a b) := by simp [winB]

set_option maxRecDepth 100000 in
set_option maxHeartbeats 1000000 in
theorem roadErr_any (N L : Int) (a : Option Addr) (l : List Chg) (ca : Nat) (av : Option Addr) (vs : List Int) (cv : Nat) (w : World) (hA : QuadS w a l) (hV : IntsC w av vs) :
    Calls Try.prog 31 #[.agg #[.int .i64 N, .int .i64 L, .slice a l.length ca], .slice av vs.length cv] w fun e w' => e = .returned (.int .i64 (errL N L l vs)) ∧ Below w.heap.size w w' := by
  have HV := Lib.hid (fun W (hW : Below w.heap.size w W) => Valid_any N L a l ca W (hA.below hW))
  have HW := Lib.hid (fun W (hW : Below w.heap.size w W) => within_any 0 l.length av vs cv W (hV.below hW))
  have hlen := hA.1
  clear hA hV
  cases hr : roadB N L l with
  | true =>
    rw [hr] at HV
    cases hw : winB 0 l.length vs with
    | true =>
      rw [hw] at HW
      have HE : Hid (errL N L l vs = 0) := Lib.hid (by unfold errL; rw [hr, hw]; rfl)
      clear hr hw
      go_enter Try.func31, Try.ntmps31
      go_wp2_with fail
      obtain ⟨wB, hwB⟩ : ∃ wB, w.alloc (.cells #[.int .i64 N, .int .i64 L, .slice a l.length ca] 24) = wB := ⟨_, rfl⟩
      have hB := RdBox.start w N L a l ca 24
      rw [hwB] at hB ⊢
      clear hwB
      have HB := Lib.hid hB
      obtain ⟨hb, p0, p1, p2⟩ := hB
      refine (HV.out _ hb).mono ?_
      rintro e w1 ⟨rfl, hb1⟩
      have HB := Lib.hid (HB.out.on hb1)
      obtain ⟨hb, p0, p1, p2⟩ := HB.out
      clear hb1
      go_wp2_with fail
      refine (HW.out _ hb).mono ?_
      rintro e w2 ⟨rfl, hb2⟩
      have HB := Lib.hid (HB.out.on hb2)
      obtain ⟨hb, p0, p1, p2⟩ := HB.out
      clear hb2
      go_wp2_with fail
      go_ret
      rw [HE.out]
      exact ⟨rfl, hb⟩

    | false =>
      rw [hw] at HW
      have HE : Hid (errL N L l vs = 61) := Lib.hid (by unfold errL; rw [hr, hw]; rfl)
      clear hr hw
      go_enter Try.func31, Try.ntmps31
      go_wp2_with fail
      obtain ⟨wB, hwB⟩ : ∃ wB, w.alloc (.cells #[.int .i64 N, .int .i64 L, .slice a l.length ca] 24) = wB := ⟨_, rfl⟩
      have hB := RdBox.start w N L a l ca 24
      rw [hwB] at hB ⊢
      clear hwB
      have HB := Lib.hid hB
      obtain ⟨hb, p0, p1, p2⟩ := hB
      refine (HV.out _ hb).mono ?_
      rintro e w1 ⟨rfl, hb1⟩
      have HB := Lib.hid (HB.out.on hb1)
      obtain ⟨hb, p0, p1, p2⟩ := HB.out
      clear hb1
      go_wp2_with fail
      refine (HW.out _ hb).mono ?_
      rintro e w2 ⟨rfl, hb2⟩
      have HB := Lib.hid (HB.out.on hb2)
      obtain ⟨hb, p0, p1, p2⟩ := HB.out
      clear hb2
      go_wp2_with fail
      go_ret
      rw [HE.out]
      exact ⟨rfl, hb⟩

  | false =>
    rw [hr] at HV
    have HE : Hid (errL N L l vs = 60) := Lib.hid (by unfold errL; rw [hr]; rfl)
    clear hr HW
    go_enter Try.func31, Try.ntmps31
    go_wp2_with fail
    obtain ⟨wB, hwB⟩ : ∃ wB, w.alloc (.cells #[.int .i64 N, .int .i64 L, .slice a l.length ca] 24) = wB := ⟨_, rfl⟩
    have hB := RdBox.start w N L a l ca 24
    rw [hwB] at hB ⊢
    clear hwB
    have HB := Lib.hid hB
    obtain ⟨hb, p0, p1, p2⟩ := hB
    refine (HV.out _ hb).mono ?_
    rintro e w1 ⟨rfl, hb1⟩
    have HB := Lib.hid (HB.out.on hb1)
    obtain ⟨hb, p0, p1, p2⟩ := HB.out
    clear hb1
    go_wp2_with fail
    go_ret
    rw [HE.out]
    exact ⟨rfl, hb⟩

set_option maxRecDepth 100000 in
set_option maxHeartbeats 1000000 in
theorem lengthOf_any (N L : Int) (a : Option Addr) (l : List Chg) (ca : Nat) (v : Nat) (w : World) (hA : QuadS w a l) (hca : l.length ≤ ca) (hR : RoadOk N L l) (hv : v ≤ l.length) :
    Calls Try.prog 33 #[.agg #[.int .i64 N, .int .i64 L, .slice a l.length ca], .int .i64 v] w fun e w' => e = .returned (.int .i64 (lenK L l v)) ∧ Below w.heap.size w w' := by
  obtain ⟨hlen, -, blk, off, hadr, hc⟩ := hA
  have HC := Lib.hid hc
  have HA : Hid (0 < l.length → a = some ⟨blk, off, none⟩) := Lib.hid fun h => hadr (pos_ne (n := 0) h)
  have HK := Lib.hid (fun k (hk : k < v) => (⟨len_bd hR k (by omega), hR.2.2.2 k (by omega)⟩ : (0 ≤ lenK L l k ∧ lenK L l k ≤ 10000000) ∧ stepOk L l k))
  have hvca : (v : Int) ≤ (ca : Int) := by omega
  have hv0 : (0 : Int) ≤ (v : Int) := by omega
  clear hc hadr hR
  go_enter Try.func33, Try.ntmps33
  go_wp2_with fail
  obtain ⟨wB, hwB⟩ : ∃ wB, w.alloc (.cells #[.int .i64 N, .int .i64 L, .slice a l.length ca] 24) = wB := ⟨_, rfl⟩
  have hB := RdBox.start w N L a l ca 24
  rw [hwB] at hB ⊢
  clear hwB
  have HB := Lib.hid hB
  obtain ⟨hb, p0, p1, p2⟩ := hB
  go_wp2_with fail
  go_loopw [5, 15] (fun n i wr => ∃ k : Nat, k ≤ v ∧ n = .int .i64 (lenK L l k) ∧ i = .int .i64 k ∧ RdBox w wr N L a l ca) (fun _ i _ => v - (intOf i).toNat)
  case atStart => exact ⟨0, Nat.zero_le _, rfl, rfl, HB.out⟩
  case round =>
    obtain ⟨k, hk, rfl, rfl, hB⟩ := hrel
    obtain ⟨hb, p0, p1, p2⟩ := hB
    by_cases hlt : k < v
    · obtain rfl := HA.out (by omega)
      have HB := Lib.hid (show RdBox w wr N L (some ⟨blk, off, none⟩) l ca from ⟨hb, p0, p1, p2⟩)
      obtain ⟨c0, c1, c2, c3⟩ := HC.out k (by omega)
      have c0 := cell_below c0 hb
      have c1 := cell_below c1 hb
      have c2 := cell_below c2 hb
      have c3 := cell_below c3 hb
      obtain ⟨⟨n0, n1⟩, hs⟩ := HK.out k hlt
      obtain ⟨⟨-, ⟨f0, f1⟩, ⟨t0, t1⟩, ft, m0, m1⟩, -⟩ := hs
      have HX : Hid (lenK L l (k + 1) = lenK L l k + (gc l k).2.2.2 - ((gc l k).2.2.1 - (gc l k).2.1)) := Lib.hid rfl
      clear HC HK HA
      generalize lenK L l k = n at *
      generalize (gc l k).1 = d at *
      generalize (gc l k).2.1 = f at *
      generalize (gc l k).2.2.1 = t at *
      generalize (gc l k).2.2.2 = m at *
      go_wp2_with fail
      refine (lenAfter_any n d f t m _ ⟨n0, n1⟩ (by omega) (by omega) (by omega)).mono ?_
      rintro e w3 ⟨rfl, hb3⟩
      have HB := Lib.hid ((HB.out.alloc _).on hb3)
      go_wp2_with fail
      go_roundw
      case rel => exact ⟨k + 1, by omega, by rw [HX.out], by go_num, HB.out⟩
      case measure => simp [intOf]; omega
    · obtain rfl : k = v := by omega
      go_wp2_with fail
      go_ret
      exact ⟨rfl, hb⟩

noncomputable def atE (N L : Int) (l : List Chg) (d : Int) : Int := if roadB N L l = true then (if btw d 0 100000 then 0 else 2) else 60
noncomputable def atV (N L : Int) (l : List Chg) (d : Int) : Int := if atE N L l d = 0 then (atK l d l.length : Int) else 0
theorem at_idx {N L : Int} {l : List Chg} (h : RoadOk N L l) (d : Int) : (if 0 ≤ idxK (fun j => decide (d < (gc l j).1)) l.length then idxK (fun j => decide (d < (gc l j).1)) l.length else (l.length : Int)) = atK l d l.length := by
  cases ha : anyK (fun j => decide (d < (gc l j).1)) l.length with
  | false =>
    have h0 := (anyK_iff _).1 ha
    rw [idxK_miss _ h0, if_neg (by omega), atK_first (m := l.length) (fun j hj => by have := h0 j hj; simp at this; exact this) _ (Nat.le_refl _) (fun j h1 h2 => by omega)]
  | true =>
    obtain ⟨k, hk, hb, hp⟩ : ∃ k, k < l.length ∧ (∀ j, j < k → decide (d < (gc l j).1) = false) ∧ decide (d < (gc l k).1) = true := by
      have : ∃ k, k < l.length ∧ decide (d < (gc l k).1) = true := by
        apply Classical.byContradiction
        intro g
        rw [(anyK_iff _).2 fun j hj => by
          cases hc : decide (d < (gc l j).1) with
          | false => rfl
          | true => exact absurd ⟨j, hj, hc⟩ g] at ha
        cases ha
      obtain ⟨k0, hk0, hp0⟩ := this
      clear ha
      induction k0 using Nat.strongRecOn with
      | ind k0 ih =>
        by_cases e : ∃ j, j < k0 ∧ decide (d < (gc l j).1) = true
        · obtain ⟨j, hj, hp⟩ := e
          exact ih j hj (by omega) hp
        · exact ⟨k0, hk0, fun j hj => by
            cases hc : decide (d < (gc l j).1) with
            | false => rfl
            | true => exact absurd ⟨j, hj, hc⟩ e, hp0⟩
    rw [idxK_hit hp hb _ hk, if_pos (by omega), atK_first (m := k) (fun j hj => by have := hb j hj; simp at this; exact this) _ (by omega) (fun j h1 h2 => by
      have := day_asc h h1 h2
      simp at hp
      omega)]

noncomputable def lenV (N L : Int) (l : List Chg) (v : Int) : Int := if errL N L l [v] = 0 then lenK L l v.toNat else 0
set_option maxRecDepth 100000 in
set_option maxHeartbeats 1000000 in
theorem Length_any (N L : Int) (a : Option Addr) (l : List Chg) (ca : Nat) (v : Int) (w : World) (hA : QuadS w a l) (hca : l.length ≤ ca) :
    Calls Try.prog 27 #[.agg #[.int .i64 N, .int .i64 L, .slice a l.length ca], .int .i64 v] w fun e w' => e = .returned (.tuple #[.int .i64 (lenV N L l v), .int .i64 (errL N L l [v])]) ∧ Below w.heap.size w w' := by
  have HE := Lib.hid (fun W (hW : Below w.heap.size w W) b (hD : W.cell? ⟨b, 0, none⟩ = some (.int .i64 v)) => roadErr_any N L a l ca (some ⟨b, 0, none⟩) [v] 1 W (hA.below hW) (ints1 hD))
  have hlen := hA.1
  rcases errL_cases N L l [v] with ⟨hr, hw, he⟩ | he | he
  · have hv : lenV N L l v = lenK L l v.toNat := by unfold lenV; rw [if_pos he]
    rw [he] at HE
    rw [he, hv]
    rw [win1, btw_iff] at hw
    obtain ⟨n, rfl⟩ : ∃ n : Nat, v = n := ⟨v.toNat, by omega⟩
    have HL := Lib.hid (fun W (hW : Below w.heap.size w W) => lengthOf_any N L a l ca n W (hA.below hW) hca hr (by omega))
    rw [Int.toNat_natCast]
    generalize lenK L l n = R at *
    clear hA he hv hr
    go_enter Try.func27, Try.ntmps27
    go_wp2_with fail
    obtain ⟨wB, hwB⟩ : ∃ wB, (w.alloc (.cells #[.int .i64 N, .int .i64 L, .slice a l.length ca] 24)).alloc (.cells #[.int .i64 n] 3) = wB := ⟨_, rfl⟩
    have HB := Lib.hid ((RdBox.start w N L a l ca 24).alloc (.cells #[.int .i64 n] 3))
    have pd : wB.cell? ⟨w.heap.size + 1, 0, none⟩ = some (.int .i64 n) := by rw [← hwB]; simp [go_sem]
    rw [hwB] at HB ⊢
    clear hwB
    obtain ⟨hb, p0, p1, p2⟩ := HB.out
    refine (HE.out _ hb _ pd).mono ?_
    rintro e w1 ⟨rfl, hb1⟩
    clear pd
    have HB := Lib.hid (HB.out.on hb1)
    obtain ⟨hb, p0, p1, p2⟩ := HB.out
    clear hb1
    go_wp2_with fail
    refine (HL.out _ hb).mono ?_
    rintro e w2 ⟨rfl, hb2⟩
    have HB := Lib.hid (HB.out.on hb2)
    obtain ⟨hb, p0, p1, p2⟩ := HB.out
    clear hb2
    go_wp2_with fail
    go_ret2
    exact ⟨rfl, hb⟩

  · have hv : lenV N L l v = 0 := by unfold lenV; rw [he]; rfl
    rw [he] at HE
    rw [he, hv]
    clear hA he hv
    go_enter Try.func27, Try.ntmps27
    go_wp2_with fail
    obtain ⟨wB, hwB⟩ : ∃ wB, (w.alloc (.cells #[.int .i64 N, .int .i64 L, .slice a l.length ca] 24)).alloc (.cells #[.int .i64 v] 3) = wB := ⟨_, rfl⟩
    have HB := Lib.hid ((RdBox.start w N L a l ca 24).alloc (.cells #[.int .i64 v] 3))
    have pd : wB.cell? ⟨w.heap.size + 1, 0, none⟩ = some (.int .i64 v) := by rw [← hwB]; simp [go_sem]
    rw [hwB] at HB ⊢
    clear hwB
    obtain ⟨hb, p0, p1, p2⟩ := HB.out
    refine (HE.out _ hb _ pd).mono ?_
    rintro e w1 ⟨rfl, hb1⟩
    clear pd
    have HB := Lib.hid (HB.out.on hb1)
    obtain ⟨hb, p0, p1, p2⟩ := HB.out
    clear hb1
    go_wp2_with fail
    go_ret2
    exact ⟨rfl, hb⟩

  · have hv : lenV N L l v = 0 := by unfold lenV; rw [he]; rfl
    rw [he] at HE
    rw [he, hv]
    clear hA he hv
    go_enter Try.func27, Try.ntmps27
    go_wp2_with fail
    obtain ⟨wB, hwB⟩ : ∃ wB, (w.alloc (.cells #[.int .i64 N, .int .i64 L, .slice a l.length ca] 24)).alloc (.cells #[.int .i64 v] 3) = wB := ⟨_, rfl⟩
    have HB := Lib.hid ((RdBox.start w N L a l ca 24).alloc (.cells #[.int .i64 v] 3))
    have pd : wB.cell? ⟨w.heap.size + 1, 0, none⟩ = some (.int .i64 v) := by rw [← hwB]; simp [go_sem]
    rw [hwB] at HB ⊢
    clear hwB
    obtain ⟨hb, p0, p1, p2⟩ := HB.out
    refine (HE.out _ hb _ pd).mono ?_
    rintro e w1 ⟨rfl, hb1⟩
    clear pd
    have HB := Lib.hid (HB.out.on hb1)
    obtain ⟨hb, p0, p1, p2⟩ := HB.out
    clear hb1
    go_wp2_with fail
    go_ret2
    exact ⟨rfl, hb⟩

end Go.Proofs.Ytdiabpcpcilclaa
