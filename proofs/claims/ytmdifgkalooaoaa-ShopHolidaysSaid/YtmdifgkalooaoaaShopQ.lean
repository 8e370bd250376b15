/-
  The walks of Chain of both. By an AI agent.
-/
import Derived.Test.YtmdifgkalooaoaaShopP
import Derived.Test.YtmdifgkalooaoaaShopG
import Derived.Deep.RegionHeld3
namespace Go.Proofs.Ytmdifgkalooaoaa
set_option linter.unusedVariables false
set_option linter.unusedSimpArgs false
open Go.RowKit

set_option maxRecDepth 100000 in
set_option maxHeartbeats 4000000 in
theorem chain_ok (s : Sh) (j : Nat) (w : World) (hI : ShS w s) (hV : ShOk s) (hj : j < s.J.length) :
    Calls Try.prog 28 #[.agg #[.int .i64 s.O, .int .i64 s.C, .slice s.aH s.H.length s.cH, .int .i64 s.M, .slice s.aS s.S.length s.cS, .slice s.aJ s.J.length s.cJ], .int .i64 j] w fun e w' => e = .returned (.tuple #[.int .i64 (chainV s (gj s.J j)), .int .i64 0]) ∧ Below w.heap.size w w' := by
  have HV := Lib.hid (fun W (hW : Below w.heap.size w W) => Valid_sh s W (hI.below hW))
  obtain ⟨hlJ, blk, off, ad, cp, hadr, hc⟩ := hI.2.2
  have HK := Lib.hid (fun W (hW : Below w.heap.size w W) => chain_sh s (ad j) (gj s.J j) (cp j) W (hI.below hW) hV ((hc j hj).2.1.below hW) (hV.2.2.2.2 j hj))
  have c0 := (hc j hj).1
  have HA := Lib.hid (hadr (fun e => by rw [e] at hj; simp at hj))
  have hB := ShBox.start w s 25
  have hf := shB_t hV
  rw [hf] at HV
  have h12 := hV.2.2.2.1
  have HB1 := Lib.hid (btw_t (show (0 : Int) ≤ j by omega) (show (j : Int) ≤ s.J.length - 1 by omega))
  have hj0 : (j : Int) < s.J.length := by omega
  have ws : IntKind.i64.wrap ((s.J.length : Int) - 1) = s.J.length - 1 := IntWalk.i64_in _ (by omega)
  clear hf hI hV hadr hc
  generalize chainV s (gj s.J j) = R at *
  generalize ad j = a1 at *
  generalize (gj s.J j).length = n1 at *
  generalize cp j = c1 at *
  go_enter Try.func28, Try.ntmps28
  go_wp2_with fail
  obtain ⟨wB, hwB⟩ : ∃ wB, w.alloc (.cells #[.int .i64 s.O, .int .i64 s.C, .slice s.aH s.H.length s.cH, .int .i64 s.M, .slice s.aS s.S.length s.cS, .slice s.aJ s.J.length s.cJ] 25) = wB := ⟨_, rfl⟩
  rw [hwB] at hB ⊢
  clear hwB
  refine (HV.out _ hB.1).mono ?_
  rintro e w1 ⟨rfl, hb1⟩
  obtain ⟨hb, p0, p1, p2, p3, p4, p5⟩ := hB.on hb1
  clear hb1 hB HV
  go_wp2_with (go_at_call 53; refine (sbt_any _ _ _ _).mono ?_; rintro e w' ⟨rfl, rfl⟩; rw [HB1.out])
  have c0 := cell_below c0 hb
  have z0 := block_lt p0
  have z1 := block_lt c0
  rw [HA.out] at p5 HK
  have hB := hb
  clear hb
  go_region_held3 (fun w' => w'.cell? ⟨w.heap.size, 0, none⟩ = some (.int .i64 s.O) ∧ w'.cell? ⟨w.heap.size, 1, none⟩ = some (.int .i64 s.C) ∧ w'.cell? ⟨w.heap.size, 2, none⟩ = some (.slice s.aH s.H.length s.cH) ∧ w'.cell? ⟨w.heap.size, 3, none⟩ = some (.int .i64 s.M) ∧ w'.cell? ⟨w.heap.size, 4, none⟩ = some (.slice s.aS s.S.length s.cS) ∧ w'.cell? ⟨w.heap.size, 5, none⟩ = some (.slice (some ⟨blk, off, none⟩) s.J.length s.cJ) ∧ w'.cell? ⟨blk, off + j, none⟩ = some (.slice a1 n1 c1)) (go_keep)
    ((go_at_call 73
      refine (HK.out _ (by first | exact hB.drew | exact hB | exact hB.drew.drew | exact below_drewN hB _ | exact below_drewN hB.drew _)).mono ?_
      rintro E w9 ⟨rfl, hb9⟩
      have p0 := (hb9.cell (p := ⟨w.heap.size, 0, none⟩) z0).trans p0
      have p1 := (hb9.cell (p := ⟨w.heap.size, 1, none⟩) z0).trans p1
      have p2 := (hb9.cell (p := ⟨w.heap.size, 2, none⟩) z0).trans p2
      have p3 := (hb9.cell (p := ⟨w.heap.size, 3, none⟩) z0).trans p3
      have p4 := (hb9.cell (p := ⟨w.heap.size, 4, none⟩) z0).trans p4
      have p5 := (hb9.cell (p := ⟨w.heap.size, 5, none⟩) z0).trans p5
      have c0 := (hb9.cell (p := ⟨blk, off + j, none⟩) z1).trans c0
      have hB : Below w.heap.size w w9 := by first | exact (hB.drew).trans (hb9.mono hB.size) | exact hB.trans (hb9.mono hB.size)
      have z0 := Nat.lt_of_lt_of_le z0 hb9.size
      have z1 := Nat.lt_of_lt_of_le z1 hb9.size))
  all_goals
    go_wp2_with fail
    go_returns
    exact ⟨rfl, hB⟩
theorem chain_arg (s : Sh) (j : Int) (w : World) (hI : ShS w s) (hV : ShOk s) (h : ¬ (0 ≤ j ∧ j < s.J.length)) :
    Calls Try.prog 28 #[.agg #[.int .i64 s.O, .int .i64 s.C, .slice s.aH s.H.length s.cH, .int .i64 s.M, .slice s.aS s.S.length s.cS, .slice s.aJ s.J.length s.cJ], .int .i64 j] w fun e w' => e = .returned (.tuple #[.int .i64 0, .int .i64 2]) ∧ Below w.heap.size w w' := by
  have HV := Lib.hid (fun W (hW : Below w.heap.size w W) => Valid_sh s W (hI.below hW))
  have hB := ShBox.start w s 25
  have hf := shB_t hV
  rw [hf] at HV
  have h12 := hV.2.2.2.1
  have HB1 := Lib.hid (btw_f (n := j) (a := 0) (b := (s.J.length : Int) - 1) (fun g => h ⟨g.1, by omega⟩))
  have ws : IntKind.i64.wrap ((s.J.length : Int) - 1) = s.J.length - 1 := IntWalk.i64_in _ (by omega)
  clear hf hI hV h
  go_enter Try.func28, Try.ntmps28
  go_wp2_with fail
  obtain ⟨wB, hwB⟩ : ∃ wB, w.alloc (.cells #[.int .i64 s.O, .int .i64 s.C, .slice s.aH s.H.length s.cH, .int .i64 s.M, .slice s.aS s.S.length s.cS, .slice s.aJ s.J.length s.cJ] 25) = wB := ⟨_, rfl⟩
  rw [hwB] at hB ⊢
  clear hwB
  refine (HV.out _ hB.1).mono ?_
  rintro e w1 ⟨rfl, hb1⟩
  obtain ⟨hb, p0, p1, p2, p3, p4, p5⟩ := hB.on hb1
  clear hb1 hB HV
  go_wp2_with (go_at_call 53; refine (sbt_any _ _ _ _).mono ?_; rintro e w' ⟨rfl, rfl⟩; rw [HB1.out])
  go_returns
  exact ⟨rfl, hb⟩

set_option maxRecDepth 100000 in
set_option maxHeartbeats 4000000 in
theorem refChain_sh (s : Sh) (j : Nat) (w : World) (hI : ShS w s) (hV : ShOk s) (hj : j < s.J.length) :
    Calls Try.prog 45 #[.agg #[.int .i64 s.O, .int .i64 s.C, .slice s.aH s.H.length s.cH, .int .i64 s.M, .slice s.aS s.S.length s.cS, .slice s.aJ s.J.length s.cJ], .int .i64 j] w fun e w' => e = .returned (.int .i64 (chainV s (gj s.J j))) ∧ Below w.heap.size w w' := by
  have hJ := hV.2.2.2.2 j hj
  have HN := Lib.hid (fun t m t0 t1 m0 m1 W (hW : Below w.heap.size w W) => refNext_sh s t m W (hI.below hW).1 hV.2.1 hV.1.1 hV.1.2.1 hV.1.2.2 t0 t1 m0 m1)
  have HD := Lib.hid (dryK_bd hV hJ)
  have HB0 : Hid (∀ t m, 0 ≤ t → m ≤ s.C - s.O → t ≤ nextV s.O s.C s.H t m ∧ nextV s.O s.C s.H t m ≤ t + 14500000) := Lib.hid fun t m t0 m1 => nextV_bd hV t0 m1
  obtain ⟨hlJ, b0, f0, ad, cp, hadr0, hc0⟩ := hI.2.2
  have cj := (hc0 j hj).1
  have hL := (hc0 j hj).2.1
  have ha := hadr0 (fun e => by rw [e] at hj; simp at hj)
  have hj0 : (j : Int) < s.J.length := by omega
  have hJK : ∀ k, k < (gj s.J j).length → (1 ≤ (gs (gj s.J j) k).2.1 ∧ (gs (gj s.J j) k).2.1 ≤ s.C - s.O) ∧ 0 ≤ (gs (gj s.J j) k).2.2.2 ∧ (gs (gj s.J j) k).2.2.2 ≤ 10000 := fun k hk => ⟨(hJ.2 k hk).2.1, (hJ.2 k hk).2.2.2⟩
  have HJ := Lib.hid hJK
  have h8 := hJ.1
  obtain ⟨⟨o0, o1, o2⟩, _⟩ := hV
  have hB := ShBox.start w s 25
  unfold chainV
  clear hI hJ hJK hadr0 hc0
  generalize gj s.J j = l at *
  generalize ad j = aa at *
  generalize cp j = ca at *
  obtain ⟨hln, hbd, blk, off, hadr, hc⟩ := hL
  have HC := Lib.hid hc
  have HL : Hid (0 < l.length → aa = some ⟨blk, off, none⟩) := Lib.hid fun h => hadr (fun e => by rw [e] at h; simp at h)
  clear hbd hadr hc
  have cq : ∀ O, (w.alloc O).cell? ⟨b0, f0 + j, none⟩ = some (.slice aa l.length ca) := fun O => cell_below cj ((Below.refl _ _).alloc (Nat.le_refl _) _)
  rw [ha] at hB
  go_enter Try.func45, Try.ntmps45
  go_wp2_with fail
  obtain ⟨wB, hwB⟩ : ∃ wB, w.alloc (.cells #[.int .i64 s.O, .int .i64 s.C, .slice s.aH s.H.length s.cH, .int .i64 s.M, .slice s.aS s.S.length s.cS, .slice (some ⟨b0, f0, none⟩) s.J.length s.cJ] 25) = wB := ⟨_, rfl⟩
  rw [hwB] at hB ⊢
  clear hwB cq ha cj
  have HB0' := Lib.hid hB
  clear hB
  go_loopw [5, 6, 8] (fun y x i wr => ∃ k : Nat, k ≤ l.length ∧ i = .int .i64 k ∧ x = .int .i64 (endK s.O s.C s.H l k) ∧ y = .int .i64 (dryK s.O s.C s.H l k) ∧ ShBox w wr s) (fun _ _ i _ => l.length - (intOf i).toNat)
  case atStart => exact ⟨0, Nat.zero_le _, rfl, rfl, rfl, HB0'.out⟩
  case round =>
    clear HB0'
    obtain ⟨k, hk, rfl, rfl, rfl, hB1⟩ := hrel
    have HB := Lib.hid hB1
    obtain ⟨hb, p0, p1, p2, p3, p4, p5⟩ := hB1
    by_cases hlt : k < l.length
    · obtain rfl := HL.out (by omega)
      obtain ⟨c0, c1, c2, c3⟩ := HC.out k hlt
      have c1 := cell_below c1 hb
      have c3 := cell_below c3 hb
      obtain ⟨⟨m0, m1⟩, d0, d1⟩ := HJ.out k hlt
      obtain ⟨t0, t1, e0, e1⟩ := HD.out k hk
      obtain ⟨n0, n1⟩ := HB0.out _ _ t0 m1
      have HS : Hid (endK s.O s.C s.H l (k + 1) = nextV s.O s.C s.H (dryK s.O s.C s.H l k) (gs l k).2.1 + (gs l k).2.1 ∧ dryK s.O s.C s.H l (k + 1) = nextV s.O s.C s.H (dryK s.O s.C s.H l k) (gs l k).2.1 + (gs l k).2.1 + (gs l k).2.2.2) := Lib.hid ⟨rfl, rfl⟩
      have hk8 : k ≤ 8 := by omega
      have HNk := Lib.hid (fun W hW => HN.out (dryK s.O s.C s.H l k) (gs l k).2.1 t0 (by omega) (by omega) m1 W hW)
      clear HC HL HJ HD HB0 HN c0 c2 HB
      generalize nextV s.O s.C s.H (dryK s.O s.C s.H l k) (gs l k).2.1 = v at *
      generalize dryK s.O s.C s.H l k = t at *
      generalize endK s.O s.C s.H l k = en at *
      generalize (gs l k).2.1 = x1 at *
      generalize (gs l k).2.2.2 = x3 at *
      have n3 : (k : Int) < l.length := by omega
      have hB := hb
      have z0 := block_lt p0
      have z1 := block_lt c1
      have ws1 : IntKind.i64.wrap (v + x1) = v + x1 := IntWalk.i64_in _ (by omega)
      clear hb
      go_wp2_with fail
      go_region_held3 (fun w' => w'.cell? ⟨w.heap.size, 0, none⟩ = some (.int .i64 s.O) ∧ w'.cell? ⟨w.heap.size, 1, none⟩ = some (.int .i64 s.C) ∧ w'.cell? ⟨w.heap.size, 2, none⟩ = some (.slice s.aH s.H.length s.cH) ∧ w'.cell? ⟨w.heap.size, 3, none⟩ = some (.int .i64 s.M) ∧ w'.cell? ⟨w.heap.size, 4, none⟩ = some (.slice s.aS s.S.length s.cS) ∧ w'.cell? ⟨w.heap.size, 5, none⟩ = some (.slice s.aJ s.J.length s.cJ) ∧ w'.cell? ⟨blk, off + k * 4 + 1, none⟩ = some (.int .i64 x1) ∧ w'.cell? ⟨blk, off + k * 4 + 3, none⟩ = some (.int .i64 x3)) (go_keep)
        ((go_at_call 34
          refine (HNk.out _ (by first | exact hB.drew | exact hB | exact hB.drew.drew | exact below_drewN hB _ | exact below_drewN hB.drew _)).mono ?_
          rintro E w9 ⟨rfl, hb9⟩
          have p0 := (hb9.cell (p := ⟨w.heap.size, 0, none⟩) z0).trans p0
          have p1 := (hb9.cell (p := ⟨w.heap.size, 1, none⟩) z0).trans p1
          have p2 := (hb9.cell (p := ⟨w.heap.size, 2, none⟩) z0).trans p2
          have p3 := (hb9.cell (p := ⟨w.heap.size, 3, none⟩) z0).trans p3
          have p4 := (hb9.cell (p := ⟨w.heap.size, 4, none⟩) z0).trans p4
          have p5 := (hb9.cell (p := ⟨w.heap.size, 5, none⟩) z0).trans p5
          have c1 := (hb9.cell (p := ⟨blk, off + k * 4 + 1, none⟩) z1).trans c1
          have c3 := (hb9.cell (p := ⟨blk, off + k * 4 + 3, none⟩) z1).trans c3
          have hB : Below w.heap.size w w9 := by first | exact (hB.drew).trans (hb9.mono hB.size) | exact hB.trans (hb9.mono hB.size)
          have z0 := Nat.lt_of_lt_of_le z0 hb9.size
          have z1 := Nat.lt_of_lt_of_le z1 hb9.size))
      all_goals
        go_wp2_with fail
        go_roundw
        case rel => exact ⟨k + 1, by omega, by go_num, by rw [HS.out.1], by rw [HS.out.2], hB, p0, p1, p2, p3, p4, p5⟩
        case measure => simp [intOf]; omega
    · obtain rfl : k = l.length := by omega
      clear HC HL HJ HD HB0 HN hlt
      go_wp2_with fail
      go_ret
      exact ⟨rfl, hb⟩
end Go.Proofs.Ytmdifgkalooaoaa
