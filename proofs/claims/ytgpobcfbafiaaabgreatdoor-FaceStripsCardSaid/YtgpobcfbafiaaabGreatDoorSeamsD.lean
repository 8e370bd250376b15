/-
  The walk of Seams, one theorem a shape. By an AI agent.
-/
import Derived.Test.YtgpobcfbafiaaabGreatDoorSeamsC
namespace Go.Proofs.YtgpobcfbafiaaabGreatDoor
open Go.RowKit

set_option maxRecDepth 100000 in
set_option maxHeartbeats 4000000 in
theorem seams_1 (sz h wd : Int) (a : Option Addr) (cap len : Nat) (fb : Int → Bool) (w : World) (s0 : 0 ≤ sz) (s1 : sz ≤ 200) (s2 : 4 ≤ sz)
    (HV : Hid (∀ W, Below w.heap.size w W → Calls Tryz.prog 30 #[.agg #[.int .i64 1, .int .i64 sz, .int .i64 h, .slice a len cap]] W fun e w' => e = .returned (.bool true) ∧ Below W.heap.size W w'))
    (HC : Hid (∀ W, Below w.heap.size w W → Calls Tryz.prog 43 #[.slice a len cap, .int .i64 sz] W fun e w' => ∃ g, e = .returned (.slice (some ⟨g, 0, none⟩) sz.toNat sz.toNat) ∧ Row W.heap.size w' g sz.toNat (fun c => fb c) ∧ Below W.heap.size W w'))
    (hwd : btw wd 1 200 = true) :
    Calls Tryz.prog 24 #[.agg #[.int .i64 1, .int .i64 sz, .int .i64 h, .slice a len cap], .int .i64 wd] w (SeamsEnd w (seamsOf fb sz wd)) := by
  obtain ⟨w1, w2⟩ := (btw_iff _ _ _).1 hwd
  have HW := Lib.hid hwd
  clear hwd
  obtain ⟨i0, hi, hz0, hz1, hz2⟩ := info_parts intInfo
  go_enter Tryz.func24, Tryz.ntmps24
  go_wp2_with fail
  refine (HV.out _ ((Below.refl _ _).alloc (Nat.le_refl _) _)).mono ?_
  rintro e w3 ⟨rfl, hb3⟩
  have hs3 : w.heap.size + 1 ≤ w3.heap.size := by have := hb3.size; simpa using this
  have hB3 : Below w.heap.size w w3 := ((Below.refl _ _).alloc (Nat.le_refl _) _).trans (hb3.mono (by simp))
  have p0 := hb3.cell (p := ⟨w.heap.size, 0, none⟩) (by simp)
  have p1 := hb3.cell (p := ⟨w.heap.size, 1, none⟩) (by simp)
  have p2 := hb3.cell (p := ⟨w.heap.size, 2, none⟩) (by simp)
  have p3 := hb3.cell (p := ⟨w.heap.size, 3, none⟩) (by simp)
  simp [go_sem] at p0 p1 p2 p3
  clear hb3
  go_wp2_with (first | (go_at_call 37; refine (between_any _ _ _ _).mono ?_; rintro e w' ⟨rfl, rfl⟩; rw [HW.out]) | fail)
  refine (figureOf_round _ _ _ _).mono ?_
  rintro e w4 ⟨rfl, hb4⟩
  have hs4 := hb4.size
  have p3' := (hb4.cell (p := ⟨w.heap.size, 3, none⟩) (by show w.heap.size < w3.heap.size; omega)).trans p3
  clear p0 p1 p2 p3
  go_wp2_with fail
  refine (round_extent _ _).mono ?_
  rintro e w5 ⟨rfl, hb5⟩
  have hs5 := hb5.size
  have p3 := (hb5.cell (p := ⟨w.heap.size, 3, none⟩) (by show w.heap.size < w4.heap.size; omega)).trans p3'
  have hB5 : Below w.heap.size w w5 := hB3.trans ((hb4.mono (by omega)).trans (hb5.mono (by omega)))
  clear p3' hb4 hb5 hB3
  go_wp2_with fail
  refine (HC.out _ hB5).mono ?_
  rintro e w6 ⟨g, rfl, hrow, hb6⟩
  have hs6 := hb6.size
  have hB6 : Below w.heap.size w w6 := hB5.trans (hb6.mono (by omega))
  obtain ⟨n, rfl⟩ : ∃ n : Nat, sz = n := ⟨sz.toNat, by omega⟩
  rw [Int.toNat_natCast] at hrow ⊢
  have hgl : g < w6.heap.size := block_lt (hrow.cell (show 0 < n by omega))
  have hgb : w5.heap.size ≤ g := owns_block hrow g rfl
  have HR := Lib.hid hrow
  clear hrow hB5 hb6 p3
  go_wp2_with fail
  go_loopw [9, 10] (fun v i wr => ∃ (at0 : Int) (acc : List Int) (fuel : Nat), i = .int .i64 at0 ∧ 0 ≤ at0 ∧ at0 ≤ n ∧ (acc.length : Int) ≤ at0 ∧ (n : Int) < at0 + fuel ∧ wr.ownsRow w6.heap.size 3 1 v acc.length (acc.map (Value.int .i64)) ∧ Below w6.heap.size w6 wr ∧ Hid (seamsGo fb n wd fuel at0 acc = seamsOf fb n wd)) (fun _ i _ => ((n : Int) - intOf i).toNat)
  case atStart => exact ⟨0, [], n + 1, rfl, by omega, by omega, by simp, by omega, World.ownsRow_nil _ _ _ _, Below.refl _ _, Lib.hid rfl⟩
  case round =>
    obtain ⟨at0, acc, fuel, rfl, a0, a1, a2, a3, hown, hb, HG⟩ := hrel
    obtain ⟨fuel, rfl⟩ : ∃ f', fuel = f' + 1 := ⟨fuel - 1, by omega⟩
    have hbs := hb.size
    have hBw : Below w.heap.size w wr := hB6.trans (hb.mono hB6.size)
    have HRW := Lib.hid (HR.out.below hb)
    by_cases hgo : (n : Int) - at0 > wd
    · have HN : Hid (∀ c, down fb at0 wd.toNat = c → c ≠ at0 → seamsGo fb n wd fuel c (acc ++ [c]) = seamsOf fb n wd) := Lib.hid fun c hd hc => (go_next fb n wd at0 c fuel acc hgo hd hc).symm.trans HG.out
      have HO : Hid (down fb at0 wd.toNat = at0 → seamsOf fb n wd = none) := Lib.hid fun hd => HG.out.symm.trans (go_none fb n wd at0 fuel acc hgo hd)
      clear HG
      go_wp2_with fail
      go_loop [11] (fun i => ∃ c : Int, i = .int .i64 c ∧ at0 ≤ c ∧ c ≤ at0 + wd ∧ Hid (down fb at0 (c - at0).toNat = down fb at0 wd.toNat)) (fun i => (intOf i - at0).toNat)
      case atStart => exact ⟨at0 + wd, rfl, by omega, by omega, Lib.hid (by rw [show at0 + wd - at0 = wd from by omega])⟩
      case round =>
        obtain ⟨c, rfl, c0, c1, HD⟩ := hrel
        by_cases hc : c = at0
        · subst hc
          have HE : Hid (seamsOf fb n wd = none) := Lib.hid (HO.out (by rw [← HD.out]; exact down_zero fb c))
          clear HD HN HO
          go_wp2_with fail
          go_returns
          unfold SeamsEnd
          rw [HE.out]
          exact ⟨hBw, rfl⟩
        · obtain ⟨m, rfl⟩ : ∃ m : Nat, c = m := ⟨c.toNat, by omega⟩
          have hcell := HRW.out.cell (show m < n by omega)
          by_cases hf : fb m = true
          · have HD2 : Hid (down fb at0 ((m : Int) - 1 - at0).toNat = down fb at0 wd.toNat) := Lib.hid ((down_hit fb at0 m (by omega) hf).symm.trans HD.out)
            rw [hf] at hcell
            clear HD HN HO hf
            go_wp2_with fail
            go_round
            case rel => exact ⟨(m : Int) - 1, by go_num, by omega, by omega, HD2⟩
            case measure => simp [intOf]; omega
          · have hf' : fb m = false := by simpa using hf
            have HC2 : Hid (down fb at0 wd.toNat = m) := Lib.hid (HD.out.symm.trans (down_free fb at0 m (by omega) hf'))
            have HS : Hid (seamsGo fb n wd fuel m (acc ++ [(m : Int)]) = seamsOf fb n wd) := Lib.hid (HN.out m HC2.out hc)
            rw [hf'] at hcell
            clear HD HN HO hf hf' HC2
            go_wp2_with (at_builtin; go_loud (refine wpList_append_own _ rfl _ _ 40 rfl w6.heap.size 3 i0 (.int .i64 0) 1 8 Tryz.underlying40 hi hz0 hz1 hz2 rfl (by decide) _ _ _ rfl (hown.alloc _) ⟨_, 0, none⟩ 1 1 [.int .i64 m] rfl rfl ?c1 ?c2 ?c3 ?c4 ?c5 ?_))
            try case c1 =>
              intro j u hj
              match j, hj with
              | 0, hj => simp at hj; subst hj; simp [Addr.add]
            case c2 => first | rfl | (intro u hu; simp at hu; subst hu; rfl)
            case c3 => unfold maxLen; omega
            case c4 => omega
            case c5 => first | omega | (simp; omega)
            intro v' w7 hown' hgrow _
            have hB7 : Below w6.heap.size w6 w7 := (hb.alloc hbs _).grown hgrow (by simp; omega) (owns_block hown)
            have hown7 : w7.ownsRow w6.heap.size 3 1 v' (acc ++ [(m : Int)]).length ((acc ++ [(m : Int)]).map (Value.int .i64)) := by simpa using hown'
            have hlen7 : ((acc ++ [(m : Int)]).length : Int) ≤ m := by simp; omega
            clear hown' hgrow hown hcell
            go_wp2_with fail
            go_roundw
            case rel => exact ⟨m, acc ++ [(m : Int)], fuel, rfl, by omega, by omega, hlen7, by omega, hown7, hB7, HS⟩
            case measure => simp [intOf]; omega
    · have HE : Hid (seamsOf fb n wd = some acc) := Lib.hid (HG.out.symm.trans (go_end fb n wd at0 fuel acc hgo))
      clear HG
      go_wp2_with fail
      go_returns
      unfold SeamsEnd
      rw [HE.out]
      exact ⟨hBw, _, rfl, owns_base hown (by omega)⟩

set_option maxRecDepth 100000 in
set_option maxHeartbeats 4000000 in
theorem seams_2 (sz h wd : Int) (a : Option Addr) (cap len : Nat) (fb : Int → Bool) (w : World) (s0 : 0 ≤ sz) (s1 : sz ≤ 200) (s2 : 4 ≤ sz)
    (HV : Hid (∀ W, Below w.heap.size w W → Calls Tryz.prog 30 #[.agg #[.int .i64 2, .int .i64 sz, .int .i64 h, .slice a len cap]] W fun e w' => e = .returned (.bool true) ∧ Below W.heap.size W w'))
    (HC : Hid (∀ W, Below w.heap.size w W → Calls Tryz.prog 43 #[.slice a len cap, .int .i64 sz] W fun e w' => ∃ g, e = .returned (.slice (some ⟨g, 0, none⟩) sz.toNat sz.toNat) ∧ Row W.heap.size w' g sz.toNat (fun c => fb c) ∧ Below W.heap.size W w'))
    (hwd : btw wd 1 200 = true) :
    Calls Tryz.prog 24 #[.agg #[.int .i64 2, .int .i64 sz, .int .i64 h, .slice a len cap], .int .i64 wd] w (SeamsEnd w (seamsOf fb sz wd)) := by
  obtain ⟨w1, w2⟩ := (btw_iff _ _ _).1 hwd
  have HW := Lib.hid hwd
  clear hwd
  obtain ⟨i0, hi, hz0, hz1, hz2⟩ := info_parts intInfo
  go_enter Tryz.func24, Tryz.ntmps24
  go_wp2_with fail
  refine (HV.out _ ((Below.refl _ _).alloc (Nat.le_refl _) _)).mono ?_
  rintro e w3 ⟨rfl, hb3⟩
  have hs3 : w.heap.size + 1 ≤ w3.heap.size := by have := hb3.size; simpa using this
  have hB3 : Below w.heap.size w w3 := ((Below.refl _ _).alloc (Nat.le_refl _) _).trans (hb3.mono (by simp))
  have p0 := hb3.cell (p := ⟨w.heap.size, 0, none⟩) (by simp)
  have p1 := hb3.cell (p := ⟨w.heap.size, 1, none⟩) (by simp)
  have p2 := hb3.cell (p := ⟨w.heap.size, 2, none⟩) (by simp)
  have p3 := hb3.cell (p := ⟨w.heap.size, 3, none⟩) (by simp)
  simp [go_sem] at p0 p1 p2 p3
  clear hb3
  go_wp2_with (first | (go_at_call 37; refine (between_any _ _ _ _).mono ?_; rintro e w' ⟨rfl, rfl⟩; rw [HW.out]) | fail)
  refine (figureOf_panel _ _ _ _).mono ?_
  rintro e w4 ⟨rfl, hb4⟩
  have hs4 := hb4.size
  have p3' := (hb4.cell (p := ⟨w.heap.size, 3, none⟩) (by show w.heap.size < w3.heap.size; omega)).trans p3
  clear p0 p1 p2 p3
  go_wp2_with fail
  refine (panel_extent _ _ _).mono ?_
  rintro e w5 ⟨rfl, hb5⟩
  have hs5 := hb5.size
  have p3 := (hb5.cell (p := ⟨w.heap.size, 3, none⟩) (by show w.heap.size < w4.heap.size; omega)).trans p3'
  have hB5 : Below w.heap.size w w5 := hB3.trans ((hb4.mono (by omega)).trans (hb5.mono (by omega)))
  clear p3' hb4 hb5 hB3
  go_wp2_with fail
  refine (HC.out _ hB5).mono ?_
  rintro e w6 ⟨g, rfl, hrow, hb6⟩
  have hs6 := hb6.size
  have hB6 : Below w.heap.size w w6 := hB5.trans (hb6.mono (by omega))
  obtain ⟨n, rfl⟩ : ∃ n : Nat, sz = n := ⟨sz.toNat, by omega⟩
  rw [Int.toNat_natCast] at hrow ⊢
  have hgl : g < w6.heap.size := block_lt (hrow.cell (show 0 < n by omega))
  have hgb : w5.heap.size ≤ g := owns_block hrow g rfl
  have HR := Lib.hid hrow
  clear hrow hB5 hb6 p3
  go_wp2_with fail
  go_loopw [9, 10] (fun v i wr => ∃ (at0 : Int) (acc : List Int) (fuel : Nat), i = .int .i64 at0 ∧ 0 ≤ at0 ∧ at0 ≤ n ∧ (acc.length : Int) ≤ at0 ∧ (n : Int) < at0 + fuel ∧ wr.ownsRow w6.heap.size 3 1 v acc.length (acc.map (Value.int .i64)) ∧ Below w6.heap.size w6 wr ∧ Hid (seamsGo fb n wd fuel at0 acc = seamsOf fb n wd)) (fun _ i _ => ((n : Int) - intOf i).toNat)
  case atStart => exact ⟨0, [], n + 1, rfl, by omega, by omega, by simp, by omega, World.ownsRow_nil _ _ _ _, Below.refl _ _, Lib.hid rfl⟩
  case round =>
    obtain ⟨at0, acc, fuel, rfl, a0, a1, a2, a3, hown, hb, HG⟩ := hrel
    obtain ⟨fuel, rfl⟩ : ∃ f', fuel = f' + 1 := ⟨fuel - 1, by omega⟩
    have hbs := hb.size
    have hBw : Below w.heap.size w wr := hB6.trans (hb.mono hB6.size)
    have HRW := Lib.hid (HR.out.below hb)
    by_cases hgo : (n : Int) - at0 > wd
    · have HN : Hid (∀ c, down fb at0 wd.toNat = c → c ≠ at0 → seamsGo fb n wd fuel c (acc ++ [c]) = seamsOf fb n wd) := Lib.hid fun c hd hc => (go_next fb n wd at0 c fuel acc hgo hd hc).symm.trans HG.out
      have HO : Hid (down fb at0 wd.toNat = at0 → seamsOf fb n wd = none) := Lib.hid fun hd => HG.out.symm.trans (go_none fb n wd at0 fuel acc hgo hd)
      clear HG
      go_wp2_with fail
      go_loop [11] (fun i => ∃ c : Int, i = .int .i64 c ∧ at0 ≤ c ∧ c ≤ at0 + wd ∧ Hid (down fb at0 (c - at0).toNat = down fb at0 wd.toNat)) (fun i => (intOf i - at0).toNat)
      case atStart => exact ⟨at0 + wd, rfl, by omega, by omega, Lib.hid (by rw [show at0 + wd - at0 = wd from by omega])⟩
      case round =>
        obtain ⟨c, rfl, c0, c1, HD⟩ := hrel
        by_cases hc : c = at0
        · subst hc
          have HE : Hid (seamsOf fb n wd = none) := Lib.hid (HO.out (by rw [← HD.out]; exact down_zero fb c))
          clear HD HN HO
          go_wp2_with fail
          go_returns
          unfold SeamsEnd
          rw [HE.out]
          exact ⟨hBw, rfl⟩
        · obtain ⟨m, rfl⟩ : ∃ m : Nat, c = m := ⟨c.toNat, by omega⟩
          have hcell := HRW.out.cell (show m < n by omega)
          by_cases hf : fb m = true
          · have HD2 : Hid (down fb at0 ((m : Int) - 1 - at0).toNat = down fb at0 wd.toNat) := Lib.hid ((down_hit fb at0 m (by omega) hf).symm.trans HD.out)
            rw [hf] at hcell
            clear HD HN HO hf
            go_wp2_with fail
            go_round
            case rel => exact ⟨(m : Int) - 1, by go_num, by omega, by omega, HD2⟩
            case measure => simp [intOf]; omega
          · have hf' : fb m = false := by simpa using hf
            have HC2 : Hid (down fb at0 wd.toNat = m) := Lib.hid (HD.out.symm.trans (down_free fb at0 m (by omega) hf'))
            have HS : Hid (seamsGo fb n wd fuel m (acc ++ [(m : Int)]) = seamsOf fb n wd) := Lib.hid (HN.out m HC2.out hc)
            rw [hf'] at hcell
            clear HD HN HO hf hf' HC2
            go_wp2_with (at_builtin; go_loud (refine wpList_append_own _ rfl _ _ 40 rfl w6.heap.size 3 i0 (.int .i64 0) 1 8 Tryz.underlying40 hi hz0 hz1 hz2 rfl (by decide) _ _ _ rfl (hown.alloc _) ⟨_, 0, none⟩ 1 1 [.int .i64 m] rfl rfl ?c1 ?c2 ?c3 ?c4 ?c5 ?_))
            try case c1 =>
              intro j u hj
              match j, hj with
              | 0, hj => simp at hj; subst hj; simp [Addr.add]
            case c2 => first | rfl | (intro u hu; simp at hu; subst hu; rfl)
            case c3 => unfold maxLen; omega
            case c4 => omega
            case c5 => first | omega | (simp; omega)
            intro v' w7 hown' hgrow _
            have hB7 : Below w6.heap.size w6 w7 := (hb.alloc hbs _).grown hgrow (by simp; omega) (owns_block hown)
            have hown7 : w7.ownsRow w6.heap.size 3 1 v' (acc ++ [(m : Int)]).length ((acc ++ [(m : Int)]).map (Value.int .i64)) := by simpa using hown'
            have hlen7 : ((acc ++ [(m : Int)]).length : Int) ≤ m := by simp; omega
            clear hown' hgrow hown hcell
            go_wp2_with fail
            go_roundw
            case rel => exact ⟨m, acc ++ [(m : Int)], fuel, rfl, by omega, by omega, hlen7, by omega, hown7, hB7, HS⟩
            case measure => simp [intOf]; omega
    · have HE : Hid (seamsOf fb n wd = some acc) := Lib.hid (HG.out.symm.trans (go_end fb n wd at0 fuel acc hgo))
      clear HG
      go_wp2_with fail
      go_returns
      unfold SeamsEnd
      rw [HE.out]
      exact ⟨hBw, _, rfl, owns_base hown (by omega)⟩

set_option maxRecDepth 100000 in
set_option maxHeartbeats 4000000 in
theorem seams_3 (sz h wd : Int) (a : Option Addr) (cap len : Nat) (fb : Int → Bool) (w : World) (s0 : 0 ≤ sz) (s1 : sz ≤ 200) (s2 : 4 ≤ sz)
    (HV : Hid (∀ W, Below w.heap.size w W → Calls Tryz.prog 30 #[.agg #[.int .i64 3, .int .i64 sz, .int .i64 h, .slice a len cap]] W fun e w' => e = .returned (.bool true) ∧ Below W.heap.size W w'))
    (HC : Hid (∀ W, Below w.heap.size w W → Calls Tryz.prog 43 #[.slice a len cap, .int .i64 sz] W fun e w' => ∃ g, e = .returned (.slice (some ⟨g, 0, none⟩) sz.toNat sz.toNat) ∧ Row W.heap.size w' g sz.toNat (fun c => fb c) ∧ Below W.heap.size W w'))
    (hwd : btw wd 1 200 = true) :
    Calls Tryz.prog 24 #[.agg #[.int .i64 3, .int .i64 sz, .int .i64 h, .slice a len cap], .int .i64 wd] w (SeamsEnd w (seamsOf fb sz wd)) := by
  obtain ⟨w1, w2⟩ := (btw_iff _ _ _).1 hwd
  have HW := Lib.hid hwd
  clear hwd
  obtain ⟨i0, hi, hz0, hz1, hz2⟩ := info_parts intInfo
  go_enter Tryz.func24, Tryz.ntmps24
  go_wp2_with fail
  refine (HV.out _ ((Below.refl _ _).alloc (Nat.le_refl _) _)).mono ?_
  rintro e w3 ⟨rfl, hb3⟩
  have hs3 : w.heap.size + 1 ≤ w3.heap.size := by have := hb3.size; simpa using this
  have hB3 : Below w.heap.size w w3 := ((Below.refl _ _).alloc (Nat.le_refl _) _).trans (hb3.mono (by simp))
  have p0 := hb3.cell (p := ⟨w.heap.size, 0, none⟩) (by simp)
  have p1 := hb3.cell (p := ⟨w.heap.size, 1, none⟩) (by simp)
  have p2 := hb3.cell (p := ⟨w.heap.size, 2, none⟩) (by simp)
  have p3 := hb3.cell (p := ⟨w.heap.size, 3, none⟩) (by simp)
  simp [go_sem] at p0 p1 p2 p3
  clear hb3
  go_wp2_with (first | (go_at_call 37; refine (between_any _ _ _ _).mono ?_; rintro e w' ⟨rfl, rfl⟩; rw [HW.out]) | fail)
  refine (figureOf_diamond _ _ _ _).mono ?_
  rintro e w4 ⟨rfl, hb4⟩
  have hs4 := hb4.size
  have p3' := (hb4.cell (p := ⟨w.heap.size, 3, none⟩) (by show w.heap.size < w3.heap.size; omega)).trans p3
  clear p0 p1 p2 p3
  go_wp2_with fail
  refine (diamond_extent _ _).mono ?_
  rintro e w5 ⟨rfl, hb5⟩
  have hs5 := hb5.size
  have p3 := (hb5.cell (p := ⟨w.heap.size, 3, none⟩) (by show w.heap.size < w4.heap.size; omega)).trans p3'
  have hB5 : Below w.heap.size w w5 := hB3.trans ((hb4.mono (by omega)).trans (hb5.mono (by omega)))
  clear p3' hb4 hb5 hB3
  go_wp2_with fail
  refine (HC.out _ hB5).mono ?_
  rintro e w6 ⟨g, rfl, hrow, hb6⟩
  have hs6 := hb6.size
  have hB6 : Below w.heap.size w w6 := hB5.trans (hb6.mono (by omega))
  obtain ⟨n, rfl⟩ : ∃ n : Nat, sz = n := ⟨sz.toNat, by omega⟩
  rw [Int.toNat_natCast] at hrow ⊢
  have hgl : g < w6.heap.size := block_lt (hrow.cell (show 0 < n by omega))
  have hgb : w5.heap.size ≤ g := owns_block hrow g rfl
  have HR := Lib.hid hrow
  clear hrow hB5 hb6 p3
  go_wp2_with fail
  go_loopw [9, 10] (fun v i wr => ∃ (at0 : Int) (acc : List Int) (fuel : Nat), i = .int .i64 at0 ∧ 0 ≤ at0 ∧ at0 ≤ n ∧ (acc.length : Int) ≤ at0 ∧ (n : Int) < at0 + fuel ∧ wr.ownsRow w6.heap.size 3 1 v acc.length (acc.map (Value.int .i64)) ∧ Below w6.heap.size w6 wr ∧ Hid (seamsGo fb n wd fuel at0 acc = seamsOf fb n wd)) (fun _ i _ => ((n : Int) - intOf i).toNat)
  case atStart => exact ⟨0, [], n + 1, rfl, by omega, by omega, by simp, by omega, World.ownsRow_nil _ _ _ _, Below.refl _ _, Lib.hid rfl⟩
  case round =>
    obtain ⟨at0, acc, fuel, rfl, a0, a1, a2, a3, hown, hb, HG⟩ := hrel
    obtain ⟨fuel, rfl⟩ : ∃ f', fuel = f' + 1 := ⟨fuel - 1, by omega⟩
    have hbs := hb.size
    have hBw : Below w.heap.size w wr := hB6.trans (hb.mono hB6.size)
    have HRW := Lib.hid (HR.out.below hb)
    by_cases hgo : (n : Int) - at0 > wd
    · have HN : Hid (∀ c, down fb at0 wd.toNat = c → c ≠ at0 → seamsGo fb n wd fuel c (acc ++ [c]) = seamsOf fb n wd) := Lib.hid fun c hd hc => (go_next fb n wd at0 c fuel acc hgo hd hc).symm.trans HG.out
      have HO : Hid (down fb at0 wd.toNat = at0 → seamsOf fb n wd = none) := Lib.hid fun hd => HG.out.symm.trans (go_none fb n wd at0 fuel acc hgo hd)
      clear HG
      go_wp2_with fail
      go_loop [11] (fun i => ∃ c : Int, i = .int .i64 c ∧ at0 ≤ c ∧ c ≤ at0 + wd ∧ Hid (down fb at0 (c - at0).toNat = down fb at0 wd.toNat)) (fun i => (intOf i - at0).toNat)
      case atStart => exact ⟨at0 + wd, rfl, by omega, by omega, Lib.hid (by rw [show at0 + wd - at0 = wd from by omega])⟩
      case round =>
        obtain ⟨c, rfl, c0, c1, HD⟩ := hrel
        by_cases hc : c = at0
        · subst hc
          have HE : Hid (seamsOf fb n wd = none) := Lib.hid (HO.out (by rw [← HD.out]; exact down_zero fb c))
          clear HD HN HO
          go_wp2_with fail
          go_returns
          unfold SeamsEnd
          rw [HE.out]
          exact ⟨hBw, rfl⟩
        · obtain ⟨m, rfl⟩ : ∃ m : Nat, c = m := ⟨c.toNat, by omega⟩
          have hcell := HRW.out.cell (show m < n by omega)
          by_cases hf : fb m = true
          · have HD2 : Hid (down fb at0 ((m : Int) - 1 - at0).toNat = down fb at0 wd.toNat) := Lib.hid ((down_hit fb at0 m (by omega) hf).symm.trans HD.out)
            rw [hf] at hcell
            clear HD HN HO hf
            go_wp2_with fail
            go_round
            case rel => exact ⟨(m : Int) - 1, by go_num, by omega, by omega, HD2⟩
            case measure => simp [intOf]; omega
          · have hf' : fb m = false := by simpa using hf
            have HC2 : Hid (down fb at0 wd.toNat = m) := Lib.hid (HD.out.symm.trans (down_free fb at0 m (by omega) hf'))
            have HS : Hid (seamsGo fb n wd fuel m (acc ++ [(m : Int)]) = seamsOf fb n wd) := Lib.hid (HN.out m HC2.out hc)
            rw [hf'] at hcell
            clear HD HN HO hf hf' HC2
            go_wp2_with (at_builtin; go_loud (refine wpList_append_own _ rfl _ _ 40 rfl w6.heap.size 3 i0 (.int .i64 0) 1 8 Tryz.underlying40 hi hz0 hz1 hz2 rfl (by decide) _ _ _ rfl (hown.alloc _) ⟨_, 0, none⟩ 1 1 [.int .i64 m] rfl rfl ?c1 ?c2 ?c3 ?c4 ?c5 ?_))
            try case c1 =>
              intro j u hj
              match j, hj with
              | 0, hj => simp at hj; subst hj; simp [Addr.add]
            case c2 => first | rfl | (intro u hu; simp at hu; subst hu; rfl)
            case c3 => unfold maxLen; omega
            case c4 => omega
            case c5 => first | omega | (simp; omega)
            intro v' w7 hown' hgrow _
            have hB7 : Below w6.heap.size w6 w7 := (hb.alloc hbs _).grown hgrow (by simp; omega) (owns_block hown)
            have hown7 : w7.ownsRow w6.heap.size 3 1 v' (acc ++ [(m : Int)]).length ((acc ++ [(m : Int)]).map (Value.int .i64)) := by simpa using hown'
            have hlen7 : ((acc ++ [(m : Int)]).length : Int) ≤ m := by simp; omega
            clear hown' hgrow hown hcell
            go_wp2_with fail
            go_roundw
            case rel => exact ⟨m, acc ++ [(m : Int)], fuel, rfl, by omega, by omega, hlen7, by omega, hown7, hB7, HS⟩
            case measure => simp [intOf]; omega
    · have HE : Hid (seamsOf fb n wd = some acc) := Lib.hid (HG.out.symm.trans (go_end fb n wd at0 fuel acc hgo))
      clear HG
      go_wp2_with fail
      go_returns
      unfold SeamsEnd
      rw [HE.out]
      exact ⟨hBw, _, rfl, owns_base hown (by omega)⟩

set_option maxRecDepth 100000 in
set_option maxHeartbeats 4000000 in
theorem seams_4 (sz h wd : Int) (a : Option Addr) (cap len : Nat) (fb : Int → Bool) (w : World) (s0 : 0 ≤ sz) (s1 : sz ≤ 200) (s2 : 4 ≤ sz)
    (HV : Hid (∀ W, Below w.heap.size w W → Calls Tryz.prog 30 #[.agg #[.int .i64 4, .int .i64 sz, .int .i64 h, .slice a len cap]] W fun e w' => e = .returned (.bool true) ∧ Below W.heap.size W w'))
    (HC : Hid (∀ W, Below w.heap.size w W → Calls Tryz.prog 43 #[.slice a len cap, .int .i64 sz] W fun e w' => ∃ g, e = .returned (.slice (some ⟨g, 0, none⟩) sz.toNat sz.toNat) ∧ Row W.heap.size w' g sz.toNat (fun c => fb c) ∧ Below W.heap.size W w'))
    (hwd : btw wd 1 200 = true) :
    Calls Tryz.prog 24 #[.agg #[.int .i64 4, .int .i64 sz, .int .i64 h, .slice a len cap], .int .i64 wd] w (SeamsEnd w (seamsOf fb sz wd)) := by
  obtain ⟨w1, w2⟩ := (btw_iff _ _ _).1 hwd
  have HW := Lib.hid hwd
  clear hwd
  obtain ⟨i0, hi, hz0, hz1, hz2⟩ := info_parts intInfo
  go_enter Tryz.func24, Tryz.ntmps24
  go_wp2_with fail
  refine (HV.out _ ((Below.refl _ _).alloc (Nat.le_refl _) _)).mono ?_
  rintro e w3 ⟨rfl, hb3⟩
  have hs3 : w.heap.size + 1 ≤ w3.heap.size := by have := hb3.size; simpa using this
  have hB3 : Below w.heap.size w w3 := ((Below.refl _ _).alloc (Nat.le_refl _) _).trans (hb3.mono (by simp))
  have p0 := hb3.cell (p := ⟨w.heap.size, 0, none⟩) (by simp)
  have p1 := hb3.cell (p := ⟨w.heap.size, 1, none⟩) (by simp)
  have p2 := hb3.cell (p := ⟨w.heap.size, 2, none⟩) (by simp)
  have p3 := hb3.cell (p := ⟨w.heap.size, 3, none⟩) (by simp)
  simp [go_sem] at p0 p1 p2 p3
  clear hb3
  go_wp2_with (first | (go_at_call 37; refine (between_any _ _ _ _).mono ?_; rintro e w' ⟨rfl, rfl⟩; rw [HW.out]) | fail)
  refine (figureOf_octagon _ _ _ _).mono ?_
  rintro e w4 ⟨rfl, hb4⟩
  have hs4 := hb4.size
  have p3' := (hb4.cell (p := ⟨w.heap.size, 3, none⟩) (by show w.heap.size < w3.heap.size; omega)).trans p3
  clear p0 p1 p2 p3
  go_wp2_with fail
  refine (octagon_extent _ _).mono ?_
  rintro e w5 ⟨rfl, hb5⟩
  have hs5 := hb5.size
  have p3 := (hb5.cell (p := ⟨w.heap.size, 3, none⟩) (by show w.heap.size < w4.heap.size; omega)).trans p3'
  have hB5 : Below w.heap.size w w5 := hB3.trans ((hb4.mono (by omega)).trans (hb5.mono (by omega)))
  clear p3' hb4 hb5 hB3
  go_wp2_with fail
  refine (HC.out _ hB5).mono ?_
  rintro e w6 ⟨g, rfl, hrow, hb6⟩
  have hs6 := hb6.size
  have hB6 : Below w.heap.size w w6 := hB5.trans (hb6.mono (by omega))
  obtain ⟨n, rfl⟩ : ∃ n : Nat, sz = n := ⟨sz.toNat, by omega⟩
  rw [Int.toNat_natCast] at hrow ⊢
  have hgl : g < w6.heap.size := block_lt (hrow.cell (show 0 < n by omega))
  have hgb : w5.heap.size ≤ g := owns_block hrow g rfl
  have HR := Lib.hid hrow
  clear hrow hB5 hb6 p3
  go_wp2_with fail
  go_loopw [9, 10] (fun v i wr => ∃ (at0 : Int) (acc : List Int) (fuel : Nat), i = .int .i64 at0 ∧ 0 ≤ at0 ∧ at0 ≤ n ∧ (acc.length : Int) ≤ at0 ∧ (n : Int) < at0 + fuel ∧ wr.ownsRow w6.heap.size 3 1 v acc.length (acc.map (Value.int .i64)) ∧ Below w6.heap.size w6 wr ∧ Hid (seamsGo fb n wd fuel at0 acc = seamsOf fb n wd)) (fun _ i _ => ((n : Int) - intOf i).toNat)
  case atStart => exact ⟨0, [], n + 1, rfl, by omega, by omega, by simp, by omega, World.ownsRow_nil _ _ _ _, Below.refl _ _, Lib.hid rfl⟩
  case round =>
    obtain ⟨at0, acc, fuel, rfl, a0, a1, a2, a3, hown, hb, HG⟩ := hrel
    obtain ⟨fuel, rfl⟩ : ∃ f', fuel = f' + 1 := ⟨fuel - 1, by omega⟩
    have hbs := hb.size
    have hBw : Below w.heap.size w wr := hB6.trans (hb.mono hB6.size)
    have HRW := Lib.hid (HR.out.below hb)
    by_cases hgo : (n : Int) - at0 > wd
    · have HN : Hid (∀ c, down fb at0 wd.toNat = c → c ≠ at0 → seamsGo fb n wd fuel c (acc ++ [c]) = seamsOf fb n wd) := Lib.hid fun c hd hc => (go_next fb n wd at0 c fuel acc hgo hd hc).symm.trans HG.out
      have HO : Hid (down fb at0 wd.toNat = at0 → seamsOf fb n wd = none) := Lib.hid fun hd => HG.out.symm.trans (go_none fb n wd at0 fuel acc hgo hd)
      clear HG
      go_wp2_with fail
      go_loop [11] (fun i => ∃ c : Int, i = .int .i64 c ∧ at0 ≤ c ∧ c ≤ at0 + wd ∧ Hid (down fb at0 (c - at0).toNat = down fb at0 wd.toNat)) (fun i => (intOf i - at0).toNat)
      case atStart => exact ⟨at0 + wd, rfl, by omega, by omega, Lib.hid (by rw [show at0 + wd - at0 = wd from by omega])⟩
      case round =>
        obtain ⟨c, rfl, c0, c1, HD⟩ := hrel
        by_cases hc : c = at0
        · subst hc
          have HE : Hid (seamsOf fb n wd = none) := Lib.hid (HO.out (by rw [← HD.out]; exact down_zero fb c))
          clear HD HN HO
          go_wp2_with fail
          go_returns
          unfold SeamsEnd
          rw [HE.out]
          exact ⟨hBw, rfl⟩
        · obtain ⟨m, rfl⟩ : ∃ m : Nat, c = m := ⟨c.toNat, by omega⟩
          have hcell := HRW.out.cell (show m < n by omega)
          by_cases hf : fb m = true
          · have HD2 : Hid (down fb at0 ((m : Int) - 1 - at0).toNat = down fb at0 wd.toNat) := Lib.hid ((down_hit fb at0 m (by omega) hf).symm.trans HD.out)
            rw [hf] at hcell
            clear HD HN HO hf
            go_wp2_with fail
            go_round
            case rel => exact ⟨(m : Int) - 1, by go_num, by omega, by omega, HD2⟩
            case measure => simp [intOf]; omega
          · have hf' : fb m = false := by simpa using hf
            have HC2 : Hid (down fb at0 wd.toNat = m) := Lib.hid (HD.out.symm.trans (down_free fb at0 m (by omega) hf'))
            have HS : Hid (seamsGo fb n wd fuel m (acc ++ [(m : Int)]) = seamsOf fb n wd) := Lib.hid (HN.out m HC2.out hc)
            rw [hf'] at hcell
            clear HD HN HO hf hf' HC2
            go_wp2_with (at_builtin; go_loud (refine wpList_append_own _ rfl _ _ 40 rfl w6.heap.size 3 i0 (.int .i64 0) 1 8 Tryz.underlying40 hi hz0 hz1 hz2 rfl (by decide) _ _ _ rfl (hown.alloc _) ⟨_, 0, none⟩ 1 1 [.int .i64 m] rfl rfl ?c1 ?c2 ?c3 ?c4 ?c5 ?_))
            try case c1 =>
              intro j u hj
              match j, hj with
              | 0, hj => simp at hj; subst hj; simp [Addr.add]
            case c2 => first | rfl | (intro u hu; simp at hu; subst hu; rfl)
            case c3 => unfold maxLen; omega
            case c4 => omega
            case c5 => first | omega | (simp; omega)
            intro v' w7 hown' hgrow _
            have hB7 : Below w6.heap.size w6 w7 := (hb.alloc hbs _).grown hgrow (by simp; omega) (owns_block hown)
            have hown7 : w7.ownsRow w6.heap.size 3 1 v' (acc ++ [(m : Int)]).length ((acc ++ [(m : Int)]).map (Value.int .i64)) := by simpa using hown'
            have hlen7 : ((acc ++ [(m : Int)]).length : Int) ≤ m := by simp; omega
            clear hown' hgrow hown hcell
            go_wp2_with fail
            go_roundw
            case rel => exact ⟨m, acc ++ [(m : Int)], fuel, rfl, by omega, by omega, hlen7, by omega, hown7, hB7, HS⟩
            case measure => simp [intOf]; omega
    · have HE : Hid (seamsOf fb n wd = some acc) := Lib.hid (HG.out.symm.trans (go_end fb n wd at0 fuel acc hgo))
      clear HG
      go_wp2_with fail
      go_returns
      unfold SeamsEnd
      rw [HE.out]
      exact ⟨hBw, _, rfl, owns_base hown (by omega)⟩

set_option maxRecDepth 100000 in
set_option maxHeartbeats 4000000 in
theorem seams_5 (sz h wd : Int) (a : Option Addr) (cap len : Nat) (fb : Int → Bool) (w : World) (s0 : 0 ≤ sz) (s1 : sz ≤ 200) (s2 : 4 ≤ sz)
    (HV : Hid (∀ W, Below w.heap.size w W → Calls Tryz.prog 30 #[.agg #[.int .i64 5, .int .i64 sz, .int .i64 h, .slice a len cap]] W fun e w' => e = .returned (.bool true) ∧ Below W.heap.size W w'))
    (HC : Hid (∀ W, Below w.heap.size w W → Calls Tryz.prog 43 #[.slice a len cap, .int .i64 sz] W fun e w' => ∃ g, e = .returned (.slice (some ⟨g, 0, none⟩) sz.toNat sz.toNat) ∧ Row W.heap.size w' g sz.toNat (fun c => fb c) ∧ Below W.heap.size W w'))
    (hwd : btw wd 1 200 = true) :
    Calls Tryz.prog 24 #[.agg #[.int .i64 5, .int .i64 sz, .int .i64 h, .slice a len cap], .int .i64 wd] w (SeamsEnd w (seamsOf fb sz wd)) := by
  obtain ⟨w1, w2⟩ := (btw_iff _ _ _).1 hwd
  have HW := Lib.hid hwd
  clear hwd
  obtain ⟨i0, hi, hz0, hz1, hz2⟩ := info_parts intInfo
  go_enter Tryz.func24, Tryz.ntmps24
  go_wp2_with fail
  refine (HV.out _ ((Below.refl _ _).alloc (Nat.le_refl _) _)).mono ?_
  rintro e w3 ⟨rfl, hb3⟩
  have hs3 : w.heap.size + 1 ≤ w3.heap.size := by have := hb3.size; simpa using this
  have hB3 : Below w.heap.size w w3 := ((Below.refl _ _).alloc (Nat.le_refl _) _).trans (hb3.mono (by simp))
  have p0 := hb3.cell (p := ⟨w.heap.size, 0, none⟩) (by simp)
  have p1 := hb3.cell (p := ⟨w.heap.size, 1, none⟩) (by simp)
  have p2 := hb3.cell (p := ⟨w.heap.size, 2, none⟩) (by simp)
  have p3 := hb3.cell (p := ⟨w.heap.size, 3, none⟩) (by simp)
  simp [go_sem] at p0 p1 p2 p3
  clear hb3
  go_wp2_with (first | (go_at_call 37; refine (between_any _ _ _ _).mono ?_; rintro e w' ⟨rfl, rfl⟩; rw [HW.out]) | fail)
  refine (figureOf_up _ _ _ _).mono ?_
  rintro e w4 ⟨rfl, hb4⟩
  have hs4 := hb4.size
  have p3' := (hb4.cell (p := ⟨w.heap.size, 3, none⟩) (by show w.heap.size < w3.heap.size; omega)).trans p3
  clear p0 p1 p2 p3
  go_wp2_with fail
  refine (up_extent _ _ s0 s1).mono ?_
  rintro e w5 ⟨rfl, hb5⟩
  have hs5 := hb5.size
  have p3 := (hb5.cell (p := ⟨w.heap.size, 3, none⟩) (by show w.heap.size < w4.heap.size; omega)).trans p3'
  have hB5 : Below w.heap.size w w5 := hB3.trans ((hb4.mono (by omega)).trans (hb5.mono (by omega)))
  clear p3' hb4 hb5 hB3
  go_wp2_with fail
  refine (HC.out _ hB5).mono ?_
  rintro e w6 ⟨g, rfl, hrow, hb6⟩
  have hs6 := hb6.size
  have hB6 : Below w.heap.size w w6 := hB5.trans (hb6.mono (by omega))
  obtain ⟨n, rfl⟩ : ∃ n : Nat, sz = n := ⟨sz.toNat, by omega⟩
  rw [Int.toNat_natCast] at hrow ⊢
  have hgl : g < w6.heap.size := block_lt (hrow.cell (show 0 < n by omega))
  have hgb : w5.heap.size ≤ g := owns_block hrow g rfl
  have HR := Lib.hid hrow
  clear hrow hB5 hb6 p3
  go_wp2_with fail
  go_loopw [9, 10] (fun v i wr => ∃ (at0 : Int) (acc : List Int) (fuel : Nat), i = .int .i64 at0 ∧ 0 ≤ at0 ∧ at0 ≤ n ∧ (acc.length : Int) ≤ at0 ∧ (n : Int) < at0 + fuel ∧ wr.ownsRow w6.heap.size 3 1 v acc.length (acc.map (Value.int .i64)) ∧ Below w6.heap.size w6 wr ∧ Hid (seamsGo fb n wd fuel at0 acc = seamsOf fb n wd)) (fun _ i _ => ((n : Int) - intOf i).toNat)
  case atStart => exact ⟨0, [], n + 1, rfl, by omega, by omega, by simp, by omega, World.ownsRow_nil _ _ _ _, Below.refl _ _, Lib.hid rfl⟩
  case round =>
    obtain ⟨at0, acc, fuel, rfl, a0, a1, a2, a3, hown, hb, HG⟩ := hrel
    obtain ⟨fuel, rfl⟩ : ∃ f', fuel = f' + 1 := ⟨fuel - 1, by omega⟩
    have hbs := hb.size
    have hBw : Below w.heap.size w wr := hB6.trans (hb.mono hB6.size)
    have HRW := Lib.hid (HR.out.below hb)
    by_cases hgo : (n : Int) - at0 > wd
    · have HN : Hid (∀ c, down fb at0 wd.toNat = c → c ≠ at0 → seamsGo fb n wd fuel c (acc ++ [c]) = seamsOf fb n wd) := Lib.hid fun c hd hc => (go_next fb n wd at0 c fuel acc hgo hd hc).symm.trans HG.out
      have HO : Hid (down fb at0 wd.toNat = at0 → seamsOf fb n wd = none) := Lib.hid fun hd => HG.out.symm.trans (go_none fb n wd at0 fuel acc hgo hd)
      clear HG
      go_wp2_with fail
      go_loop [11] (fun i => ∃ c : Int, i = .int .i64 c ∧ at0 ≤ c ∧ c ≤ at0 + wd ∧ Hid (down fb at0 (c - at0).toNat = down fb at0 wd.toNat)) (fun i => (intOf i - at0).toNat)
      case atStart => exact ⟨at0 + wd, rfl, by omega, by omega, Lib.hid (by rw [show at0 + wd - at0 = wd from by omega])⟩
      case round =>
        obtain ⟨c, rfl, c0, c1, HD⟩ := hrel
        by_cases hc : c = at0
        · subst hc
          have HE : Hid (seamsOf fb n wd = none) := Lib.hid (HO.out (by rw [← HD.out]; exact down_zero fb c))
          clear HD HN HO
          go_wp2_with fail
          go_returns
          unfold SeamsEnd
          rw [HE.out]
          exact ⟨hBw, rfl⟩
        · obtain ⟨m, rfl⟩ : ∃ m : Nat, c = m := ⟨c.toNat, by omega⟩
          have hcell := HRW.out.cell (show m < n by omega)
          by_cases hf : fb m = true
          · have HD2 : Hid (down fb at0 ((m : Int) - 1 - at0).toNat = down fb at0 wd.toNat) := Lib.hid ((down_hit fb at0 m (by omega) hf).symm.trans HD.out)
            rw [hf] at hcell
            clear HD HN HO hf
            go_wp2_with fail
            go_round
            case rel => exact ⟨(m : Int) - 1, by go_num, by omega, by omega, HD2⟩
            case measure => simp [intOf]; omega
          · have hf' : fb m = false := by simpa using hf
            have HC2 : Hid (down fb at0 wd.toNat = m) := Lib.hid (HD.out.symm.trans (down_free fb at0 m (by omega) hf'))
            have HS : Hid (seamsGo fb n wd fuel m (acc ++ [(m : Int)]) = seamsOf fb n wd) := Lib.hid (HN.out m HC2.out hc)
            rw [hf'] at hcell
            clear HD HN HO hf hf' HC2
            go_wp2_with (at_builtin; go_loud (refine wpList_append_own _ rfl _ _ 40 rfl w6.heap.size 3 i0 (.int .i64 0) 1 8 Tryz.underlying40 hi hz0 hz1 hz2 rfl (by decide) _ _ _ rfl (hown.alloc _) ⟨_, 0, none⟩ 1 1 [.int .i64 m] rfl rfl ?c1 ?c2 ?c3 ?c4 ?c5 ?_))
            try case c1 =>
              intro j u hj
              match j, hj with
              | 0, hj => simp at hj; subst hj; simp [Addr.add]
            case c2 => first | rfl | (intro u hu; simp at hu; subst hu; rfl)
            case c3 => unfold maxLen; omega
            case c4 => omega
            case c5 => first | omega | (simp; omega)
            intro v' w7 hown' hgrow _
            have hB7 : Below w6.heap.size w6 w7 := (hb.alloc hbs _).grown hgrow (by simp; omega) (owns_block hown)
            have hown7 : w7.ownsRow w6.heap.size 3 1 v' (acc ++ [(m : Int)]).length ((acc ++ [(m : Int)]).map (Value.int .i64)) := by simpa using hown'
            have hlen7 : ((acc ++ [(m : Int)]).length : Int) ≤ m := by simp; omega
            clear hown' hgrow hown hcell
            go_wp2_with fail
            go_roundw
            case rel => exact ⟨m, acc ++ [(m : Int)], fuel, rfl, by omega, by omega, hlen7, by omega, hown7, hB7, HS⟩
            case measure => simp [intOf]; omega
    · have HE : Hid (seamsOf fb n wd = some acc) := Lib.hid (HG.out.symm.trans (go_end fb n wd at0 fuel acc hgo))
      clear HG
      go_wp2_with fail
      go_returns
      unfold SeamsEnd
      rw [HE.out]
      exact ⟨hBw, _, rfl, owns_base hown (by omega)⟩

set_option maxRecDepth 100000 in
set_option maxHeartbeats 4000000 in
theorem seams_6 (sz h wd : Int) (a : Option Addr) (cap len : Nat) (fb : Int → Bool) (w : World) (s0 : 0 ≤ sz) (s1 : sz ≤ 200) (s2 : 4 ≤ sz)
    (HV : Hid (∀ W, Below w.heap.size w W → Calls Tryz.prog 30 #[.agg #[.int .i64 6, .int .i64 sz, .int .i64 h, .slice a len cap]] W fun e w' => e = .returned (.bool true) ∧ Below W.heap.size W w'))
    (HC : Hid (∀ W, Below w.heap.size w W → Calls Tryz.prog 43 #[.slice a len cap, .int .i64 sz] W fun e w' => ∃ g, e = .returned (.slice (some ⟨g, 0, none⟩) sz.toNat sz.toNat) ∧ Row W.heap.size w' g sz.toNat (fun c => fb c) ∧ Below W.heap.size W w'))
    (hwd : btw wd 1 200 = true) :
    Calls Tryz.prog 24 #[.agg #[.int .i64 6, .int .i64 sz, .int .i64 h, .slice a len cap], .int .i64 wd] w (SeamsEnd w (seamsOf fb sz wd)) := by
  obtain ⟨w1, w2⟩ := (btw_iff _ _ _).1 hwd
  have HW := Lib.hid hwd
  clear hwd
  obtain ⟨i0, hi, hz0, hz1, hz2⟩ := info_parts intInfo
  go_enter Tryz.func24, Tryz.ntmps24
  go_wp2_with fail
  refine (HV.out _ ((Below.refl _ _).alloc (Nat.le_refl _) _)).mono ?_
  rintro e w3 ⟨rfl, hb3⟩
  have hs3 : w.heap.size + 1 ≤ w3.heap.size := by have := hb3.size; simpa using this
  have hB3 : Below w.heap.size w w3 := ((Below.refl _ _).alloc (Nat.le_refl _) _).trans (hb3.mono (by simp))
  have p0 := hb3.cell (p := ⟨w.heap.size, 0, none⟩) (by simp)
  have p1 := hb3.cell (p := ⟨w.heap.size, 1, none⟩) (by simp)
  have p2 := hb3.cell (p := ⟨w.heap.size, 2, none⟩) (by simp)
  have p3 := hb3.cell (p := ⟨w.heap.size, 3, none⟩) (by simp)
  simp [go_sem] at p0 p1 p2 p3
  clear hb3
  go_wp2_with (first | (go_at_call 37; refine (between_any _ _ _ _).mono ?_; rintro e w' ⟨rfl, rfl⟩; rw [HW.out]) | fail)
  refine (figureOf_down _ _ _ _).mono ?_
  rintro e w4 ⟨rfl, hb4⟩
  have hs4 := hb4.size
  have p3' := (hb4.cell (p := ⟨w.heap.size, 3, none⟩) (by show w.heap.size < w3.heap.size; omega)).trans p3
  clear p0 p1 p2 p3
  go_wp2_with fail
  refine (down_extent _ _ s0 s1).mono ?_
  rintro e w5 ⟨rfl, hb5⟩
  have hs5 := hb5.size
  have p3 := (hb5.cell (p := ⟨w.heap.size, 3, none⟩) (by show w.heap.size < w4.heap.size; omega)).trans p3'
  have hB5 : Below w.heap.size w w5 := hB3.trans ((hb4.mono (by omega)).trans (hb5.mono (by omega)))
  clear p3' hb4 hb5 hB3
  go_wp2_with fail
  refine (HC.out _ hB5).mono ?_
  rintro e w6 ⟨g, rfl, hrow, hb6⟩
  have hs6 := hb6.size
  have hB6 : Below w.heap.size w w6 := hB5.trans (hb6.mono (by omega))
  obtain ⟨n, rfl⟩ : ∃ n : Nat, sz = n := ⟨sz.toNat, by omega⟩
  rw [Int.toNat_natCast] at hrow ⊢
  have hgl : g < w6.heap.size := block_lt (hrow.cell (show 0 < n by omega))
  have hgb : w5.heap.size ≤ g := owns_block hrow g rfl
  have HR := Lib.hid hrow
  clear hrow hB5 hb6 p3
  go_wp2_with fail
  go_loopw [9, 10] (fun v i wr => ∃ (at0 : Int) (acc : List Int) (fuel : Nat), i = .int .i64 at0 ∧ 0 ≤ at0 ∧ at0 ≤ n ∧ (acc.length : Int) ≤ at0 ∧ (n : Int) < at0 + fuel ∧ wr.ownsRow w6.heap.size 3 1 v acc.length (acc.map (Value.int .i64)) ∧ Below w6.heap.size w6 wr ∧ Hid (seamsGo fb n wd fuel at0 acc = seamsOf fb n wd)) (fun _ i _ => ((n : Int) - intOf i).toNat)
  case atStart => exact ⟨0, [], n + 1, rfl, by omega, by omega, by simp, by omega, World.ownsRow_nil _ _ _ _, Below.refl _ _, Lib.hid rfl⟩
  case round =>
    obtain ⟨at0, acc, fuel, rfl, a0, a1, a2, a3, hown, hb, HG⟩ := hrel
    obtain ⟨fuel, rfl⟩ : ∃ f', fuel = f' + 1 := ⟨fuel - 1, by omega⟩
    have hbs := hb.size
    have hBw : Below w.heap.size w wr := hB6.trans (hb.mono hB6.size)
    have HRW := Lib.hid (HR.out.below hb)
    by_cases hgo : (n : Int) - at0 > wd
    · have HN : Hid (∀ c, down fb at0 wd.toNat = c → c ≠ at0 → seamsGo fb n wd fuel c (acc ++ [c]) = seamsOf fb n wd) := Lib.hid fun c hd hc => (go_next fb n wd at0 c fuel acc hgo hd hc).symm.trans HG.out
      have HO : Hid (down fb at0 wd.toNat = at0 → seamsOf fb n wd = none) := Lib.hid fun hd => HG.out.symm.trans (go_none fb n wd at0 fuel acc hgo hd)
      clear HG
      go_wp2_with fail
      go_loop [11] (fun i => ∃ c : Int, i = .int .i64 c ∧ at0 ≤ c ∧ c ≤ at0 + wd ∧ Hid (down fb at0 (c - at0).toNat = down fb at0 wd.toNat)) (fun i => (intOf i - at0).toNat)
      case atStart => exact ⟨at0 + wd, rfl, by omega, by omega, Lib.hid (by rw [show at0 + wd - at0 = wd from by omega])⟩
      case round =>
        obtain ⟨c, rfl, c0, c1, HD⟩ := hrel
        by_cases hc : c = at0
        · subst hc
          have HE : Hid (seamsOf fb n wd = none) := Lib.hid (HO.out (by rw [← HD.out]; exact down_zero fb c))
          clear HD HN HO
          go_wp2_with fail
          go_returns
          unfold SeamsEnd
          rw [HE.out]
          exact ⟨hBw, rfl⟩
        · obtain ⟨m, rfl⟩ : ∃ m : Nat, c = m := ⟨c.toNat, by omega⟩
          have hcell := HRW.out.cell (show m < n by omega)
          by_cases hf : fb m = true
          · have HD2 : Hid (down fb at0 ((m : Int) - 1 - at0).toNat = down fb at0 wd.toNat) := Lib.hid ((down_hit fb at0 m (by omega) hf).symm.trans HD.out)
            rw [hf] at hcell
            clear HD HN HO hf
            go_wp2_with fail
            go_round
            case rel => exact ⟨(m : Int) - 1, by go_num, by omega, by omega, HD2⟩
            case measure => simp [intOf]; omega
          · have hf' : fb m = false := by simpa using hf
            have HC2 : Hid (down fb at0 wd.toNat = m) := Lib.hid (HD.out.symm.trans (down_free fb at0 m (by omega) hf'))
            have HS : Hid (seamsGo fb n wd fuel m (acc ++ [(m : Int)]) = seamsOf fb n wd) := Lib.hid (HN.out m HC2.out hc)
            rw [hf'] at hcell
            clear HD HN HO hf hf' HC2
            go_wp2_with (at_builtin; go_loud (refine wpList_append_own _ rfl _ _ 40 rfl w6.heap.size 3 i0 (.int .i64 0) 1 8 Tryz.underlying40 hi hz0 hz1 hz2 rfl (by decide) _ _ _ rfl (hown.alloc _) ⟨_, 0, none⟩ 1 1 [.int .i64 m] rfl rfl ?c1 ?c2 ?c3 ?c4 ?c5 ?_))
            try case c1 =>
              intro j u hj
              match j, hj with
              | 0, hj => simp at hj; subst hj; simp [Addr.add]
            case c2 => first | rfl | (intro u hu; simp at hu; subst hu; rfl)
            case c3 => unfold maxLen; omega
            case c4 => omega
            case c5 => first | omega | (simp; omega)
            intro v' w7 hown' hgrow _
            have hB7 : Below w6.heap.size w6 w7 := (hb.alloc hbs _).grown hgrow (by simp; omega) (owns_block hown)
            have hown7 : w7.ownsRow w6.heap.size 3 1 v' (acc ++ [(m : Int)]).length ((acc ++ [(m : Int)]).map (Value.int .i64)) := by simpa using hown'
            have hlen7 : ((acc ++ [(m : Int)]).length : Int) ≤ m := by simp; omega
            clear hown' hgrow hown hcell
            go_wp2_with fail
            go_roundw
            case rel => exact ⟨m, acc ++ [(m : Int)], fuel, rfl, by omega, by omega, hlen7, by omega, hown7, hB7, HS⟩
            case measure => simp [intOf]; omega
    · have HE : Hid (seamsOf fb n wd = some acc) := Lib.hid (HG.out.symm.trans (go_end fb n wd at0 fuel acc hgo))
      clear HG
      go_wp2_with fail
      go_returns
      unfold SeamsEnd
      rw [HE.out]
      exact ⟨hBw, _, rfl, owns_base hown (by omega)⟩

set_option maxRecDepth 100000 in
theorem seams_any (sh sz h wd : Int) (a : Option Addr) (cap : Nat) (its : List It) (w : World) (hT : Tabs w) (hI : ItemsAt w a its) (hok : faceB sh sz h its = true) (hwd : btw wd 1 200 = true) :
    Calls Tryz.prog 24 #[.agg #[.int .i64 sh, .int .i64 sz, .int .i64 h, .slice a its.length cap], .int .i64 wd] w (SeamsEnd w (seamsOf (forbB its) sz wd)) := by
  have hA : its.all It.ok = true := by unfold faceB at hok; simp only [Bool.and_eq_true] at hok; exact hok.2.2.2.2
  have hN : its.length ≤ 16 := by unfold faceB at hok; simp only [Bool.and_eq_true, decide_eq_true_eq] at hok; exact hok.2.2.2.1
  obtain ⟨h0, h1, s0, s1, hpan⟩ := faceB_bd hok
  have HV : Hid (∀ W, Below w.heap.size w W → Calls Tryz.prog 30 #[.agg #[.int .i64 sh, .int .i64 sz, .int .i64 h, .slice a its.length cap]] W fun e w' => e = .returned (.bool true) ∧ Below W.heap.size W w') := Lib.hid fun W hb => by
    have := valid_any sh sz h a cap its W (hT.below hb).letters (hT.below hb).kinds (hI.below hb)
    rwa [hok] at this
  have HC : Hid (∀ W, Below w.heap.size w W → Calls Tryz.prog 43 #[.slice a its.length cap, .int .i64 sz] W fun e w' => ∃ g, e = .returned (.slice (some ⟨g, 0, none⟩) sz.toNat sz.toNat) ∧ Row W.heap.size w' g sz.toNat (fun c => forbB its c) ∧ Below W.heap.size W w') := Lib.hid fun W hb => cutting_any sz a cap its W (hI.below hb) hA hN (by omega) (by omega)
  have hk : sh = 1 ∨ sh = 2 ∨ sh = 3 ∨ sh = 4 ∨ sh = 5 ∨ sh = 6 := by omega
  rcases hk with rfl | rfl | rfl | rfl | rfl | rfl
  · exact seams_1 sz h wd a cap _ _ w (by omega) s1 s0 HV HC hwd
  · exact seams_2 sz h wd a cap _ _ w (by omega) s1 s0 HV HC hwd
  · exact seams_3 sz h wd a cap _ _ w (by omega) s1 s0 HV HC hwd
  · exact seams_4 sz h wd a cap _ _ w (by omega) s1 s0 HV HC hwd
  · exact seams_5 sz h wd a cap _ _ w (by omega) s1 s0 HV HC hwd
  · exact seams_6 sz h wd a cap _ _ w (by omega) s1 s0 HV HC hwd
end Go.Proofs.YtgpobcfbafiaaabGreatDoor
