/-
  The walks of openBefore, sort.Search and after of package shop. By an AI agent.
-/
import Derived.Test.YtmdifgkalooaoaaShopB
import Derived.Deep.RegionHeld3
namespace Go.Proofs.Ytmdifgkalooaoaa
set_option linter.unusedVariables false
set_option linter.unusedSimpArgs false
open Go.RowKit

theorem ret_i {a b : Int} (h : a = b) : Ending.returned (.int .i64 a) = .returned (.int .i64 b) := by rw [h]

set_option maxRecDepth 100000 in
set_option maxHeartbeats 1000000 in
theorem open_sh (s : Sh) (t : Int) (w : World) (hI : IntsS w s.aH s.H) (hH : HolOk s.H) (o0 : 0 ≤ s.O) (o1 : s.O < s.C) (o2 : s.C ≤ 1440) (t0 : 0 ≤ t) (t1 : t ≤ 10000000000) :
    Calls Try.prog 55 #[.agg #[.int .i64 s.O, .int .i64 s.C, .slice s.aH s.H.length s.cH, .int .i64 s.M, .slice s.aS s.S.length s.cS, .slice s.aJ s.J.length s.cJ], .int .i64 t] w fun e w' => e = .returned (.int .i64 (opnB s.O s.C s.H t)) ∧ Below w.heap.size w w' := by
  have HS := Lib.hid (fun W (hW : Below w.heap.size w W) => search_any s.aH s.H s.cH (t / 1440) W (hI.below hW) hH.asc hH.1)
  have hB := ShBox.start w s 25
  obtain ⟨b0, b1, b2⟩ := preB_bd (O := s.O) (C := s.C) hH.asc hH.pos o1 o2 o0 (d := t / 1440) (by omega)
  have c1 := cnt_bd s.H (t / 1440)
  have h4 := hH.1
  have hT : opnB s.O s.C s.H t = preB s.O s.C s.H (t / 1440) + if hol s.H (t / 1440) then 0 else min (max (t % 1440 - s.O) 0) (s.C - s.O) := rfl
  have HT := Lib.hid hT
  clear hT
  generalize opnB s.O s.C s.H t = R at *
  unfold preB at b1 b2 HT
  generalize cnt s.H (t / 1440) = cc at *
  obtain ⟨q, hq⟩ : ∃ q, (t / 1440 - cc) * (s.C - s.O) = q := ⟨_, rfl⟩
  rw [hq] at b1 b2 HT
  have r0 : 0 ≤ t % 1440 := by omega
  have r1 : t % 1440 < 1440 := by omega
  have HQ := Lib.hid hq
  have d0 : 0 ≤ t / 1440 := by omega
  have d1 : t / 1440 ≤ 10000000000 := by omega
  clear hI hH hq
  go_enter Try.func55, Try.ntmps55
  go_wp2_with fail
  obtain ⟨wB, hwB⟩ : ∃ wB, w.alloc (.cells #[.int .i64 s.O, .int .i64 s.C, .slice s.aH s.H.length s.cH, .int .i64 s.M, .slice s.aS s.S.length s.cS, .slice s.aJ s.J.length s.cJ] 25) = wB := ⟨_, rfl⟩
  rw [hwB] at hB ⊢
  clear hwB
  have HB := Lib.hid hB
  obtain ⟨hb, p0, p1, p2, p3, p4, p5⟩ := hB
  go_quiet (fail)
  have hD := HB.out.drewN nq
  generalize wB.drewN nq = wD at *
  clear HB hb p0 p1 p2 p3 p4 p5
  have HD := Lib.hid hD
  obtain ⟨hb, p0, p1, p2, p3, p4, p5⟩ := hD
  go_wp2_with fail
  refine (HS.out _ hb).mono ?_
  rintro e w1 ⟨rfl, hb1⟩
  obtain ⟨hb, p0, p1, p2, p3, p4, p5⟩ := HD.out.on hb1
  clear HS HD hb1
  cases hh : hol s.H (t / 1440) with
  | true =>
    have hT := HT.out
    rw [hh, if_pos rfl] at hT
    have HT := Lib.hid hT
    clear hT hh
    have hq := HQ.out
    go_wp2_with fail
    go_ret
    exact ⟨ret_i (by have := HT.out; omega), hb⟩
  | false =>
    have hT := HT.out
    rw [hh] at hT
    simp only [Bool.false_eq_true, if_false] at hT
    have HT := Lib.hid hT
    clear hT hh
    have hq := HQ.out
    rcases Int.lt_trichotomy (t % 1440 - s.O) 0 with h1 | h1 | h1
    · go_wp2_with fail
      go_ret
      exact ⟨ret_i (by have := HT.out; omega), hb⟩
    · have h1' : t % 1440 - s.O ≤ 0 := by omega
      have h1'' : 0 ≤ t % 1440 - s.O := by omega
      clear h1
      go_wp2_with fail
      go_ret
      exact ⟨ret_i (by have := HT.out; omega), hb⟩
    · rcases Int.lt_trichotomy (t % 1440 - s.O) (s.C - s.O) with h2 | h2 | h2
      · go_wp2_with fail
        go_ret
        exact ⟨ret_i (by have := HT.out; omega), hb⟩
      · have h1' : t % 1440 - s.O ≤ s.C - s.O := by omega
        have h1'' : s.C - s.O ≤ t % 1440 - s.O := by omega
        clear h2
        go_wp2_with fail
        go_ret
        exact ⟨ret_i (by have := HT.out; omega), hb⟩
      · go_wp2_with fail
        go_ret
        exact ⟨ret_i (by have := HT.out; omega), hb⟩

/-- The cells of a shop's box in a world. -/
def ShAt (W : World) (b : Nat) (s : Sh) : Prop :=
  W.cell? ⟨b, 0, none⟩ = some (.int .i64 s.O) ∧ W.cell? ⟨b, 1, none⟩ = some (.int .i64 s.C) ∧ W.cell? ⟨b, 2, none⟩ = some (.slice s.aH s.H.length s.cH) ∧ W.cell? ⟨b, 3, none⟩ = some (.int .i64 s.M) ∧ W.cell? ⟨b, 4, none⟩ = some (.slice s.aS s.S.length s.cS) ∧ W.cell? ⟨b, 5, none⟩ = some (.slice s.aJ s.J.length s.cJ)
theorem ShAt.on {W W' : World} {b : Nat} {s : Sh} (h : ShAt W b s) (hb : Below W.heap.size W W') : ShAt W' b s :=
  ⟨cell_below h.1 hb, cell_below h.2.1 hb, cell_below h.2.2.1 hb, cell_below h.2.2.2.1 hb, cell_below h.2.2.2.2.1 hb, cell_below h.2.2.2.2.2 hb⟩

set_option maxRecDepth 100000 in
set_option maxHeartbeats 2000000 in
/-- The closure of after: whether so many minutes are open up to t + n. -/
theorem after1_sh (s : Sh) (t R : Int) (n : Nat) (b b1 b2 : Nat) (w : World) (hI : IntsS w s.aH s.H) (hH : HolOk s.H) (o0 : 0 ≤ s.O) (o1 : s.O < s.C) (o2 : s.C ≤ 1440) (t0 : 0 ≤ t) (t1 : t ≤ 1000000000) (n1 : n ≤ 2000000000)
    (hS : ShAt w b s) (c1 : w.cell? ⟨b1, 0, none⟩ = some (.int .i64 t)) (c2 : w.cell? ⟨b2, 0, none⟩ = some (.int .i64 R)) :
    Calls Try.prog 94 #[.int .i64 n, .pointer (some ⟨b, 0, none⟩), .pointer (some ⟨b1, 0, none⟩), .pointer (some ⟨b2, 0, none⟩)] w fun e w' => e = .returned (.bool (decide (R ≤ opnB s.O s.C s.H (t + n)))) ∧ Below w.heap.size w w' := by
  have HO := Lib.hid (fun W (hW : Below w.heap.size w W) => open_sh s (t + n) W (hI.below hW) hH o0 o1 o2 (by omega) (by omega))
  obtain ⟨p0, p1, p2, p3, p4, p5⟩ := hS
  have ws : IntKind.i64.wrap (t + n) = t + n := IntWalk.i64_in _ (by omega)
  have z0 := block_lt p0
  have z1 := block_lt c1
  have z2 := block_lt c2
  have hB := Below.refl w.heap.size w
  generalize opnB s.O s.C s.H (t + n) = v at *
  clear hI hH
  go_enter Try.func94, Try.ntmps94
  go_wp2_with fail
  go_region_held3 (fun w' => w'.cell? ⟨b, 0, none⟩ = some (.int .i64 s.O) ∧ w'.cell? ⟨b, 1, none⟩ = some (.int .i64 s.C) ∧ w'.cell? ⟨b, 2, none⟩ = some (.slice s.aH s.H.length s.cH) ∧ w'.cell? ⟨b, 3, none⟩ = some (.int .i64 s.M) ∧ w'.cell? ⟨b, 4, none⟩ = some (.slice s.aS s.S.length s.cS) ∧ w'.cell? ⟨b, 5, none⟩ = some (.slice s.aJ s.J.length s.cJ) ∧ w'.cell? ⟨b1, 0, none⟩ = some (.int .i64 t) ∧ w'.cell? ⟨b2, 0, none⟩ = some (.int .i64 R)) (go_keep)
    ((go_at_call 55
      refine (HO.out _ (by first | exact hB.drew | exact hB | exact hB.drew.drew | exact below_drewN hB _ | exact below_drewN hB.drew _)).mono ?_
      rintro E w9 ⟨rfl, hb9⟩
      have p0 := (hb9.cell (p := ⟨b, 0, none⟩) z0).trans p0
      have p1 := (hb9.cell (p := ⟨b, 1, none⟩) z0).trans p1
      have p2 := (hb9.cell (p := ⟨b, 2, none⟩) z0).trans p2
      have p3 := (hb9.cell (p := ⟨b, 3, none⟩) z0).trans p3
      have p4 := (hb9.cell (p := ⟨b, 4, none⟩) z0).trans p4
      have p5 := (hb9.cell (p := ⟨b, 5, none⟩) z0).trans p5
      have c1 := (hb9.cell (p := ⟨b1, 0, none⟩) z1).trans c1
      have c2 := (hb9.cell (p := ⟨b2, 0, none⟩) z2).trans c2
      have hB : Below w.heap.size w w9 := by first | exact (hB.drew).trans (hb9.mono hB.size) | exact hB.trans (hb9.mono hB.size)))
  all_goals
    go_wp2_with fail
    go_ret
    exact ⟨rfl, hB⟩

set_option maxRecDepth 100000 in
set_option maxHeartbeats 1000000 in
/-- sort.Search over the closure of after: each call answers p, which stays true. -/
theorem sortSearch_any (N R : Nat) (lb : Array Value) (p : Nat → Bool) (w : World) (hN : N ≤ 2000000000) (hm : ∀ i j, i ≤ j → p i = true → p j = true)
    (hp : ∀ j W, j < N → Below w.heap.size w W → Calls Try.prog 94 (#[.int .i64 j] ++ lb) W fun e w' => e = .returned (.bool (p j)) ∧ Below W.heap.size W w')
    (hR : ∀ n, n ≤ N → (∀ j, j < n → p j = false) → (n < N → p n = true) → n = R) :
    Calls Try.prog 93 #[.int .i64 N, .func (.func 94) #[] lb] w fun e w' => e = .returned (.int .i64 R) ∧ Below w.heap.size w w' := by
  have HP := Lib.hid hp
  have HM := Lib.hid hm
  have HR := Lib.hid hR
  clear hp hm hR
  go_enter Try.func93, Try.ntmps93
  go_wp2_with fail
  go_loopw [5, 6] (fun x y wr => ∃ i j : Nat, i ≤ j ∧ j ≤ N ∧ x = .int .i64 i ∧ y = .int .i64 j ∧ Below w.heap.size w wr ∧ Hid (∀ k, k < i → p k = false) ∧ Hid (∀ k, j ≤ k → k < N → p k = true)) (fun x y _ => (intOf y).toNat - (intOf x).toNat)
  case atStart => exact ⟨0, N, by omega, by omega, rfl, rfl, Below.refl _ _, Lib.hid fun k hk => absurd hk (Nat.not_lt_zero _), Lib.hid fun k h1 h2 => absurd h2 (by omega)⟩
  case round =>
    obtain ⟨i, j, hij, hj, rfl, rfl, hb, HA, HB⟩ := hrel
    by_cases hlt : i < j
    · have HK := Lib.hid (fun W => HP.out ((i + j) / 2) W (by omega))
      have HX : Hid (p ((i + j) / 2) = false → ∀ k, k < (i + j) / 2 + 1 → p k = false) := Lib.hid fun h k hk => by
        cases g : p k with
        | false => rfl
        | true => rw [HM.out k ((i + j) / 2) (by omega) g] at h; cases h
      have HY : Hid (p ((i + j) / 2) = true → ∀ k, (i + j) / 2 ≤ k → k < N → p k = true) := Lib.hid fun h k h1 h2 => HM.out _ _ h1 h
      have hq : (((i + j) / 2 : Nat) : Int) = ((i : Int) + j) / 2 := by omega
      have HQ := Lib.hid hq
      rw [hq] at HK
      clear HP HM HR hq
      cases hpk : p ((i + j) / 2) with
      | true =>
        have HG := Lib.hid (HY.out hpk)
        rw [hpk] at HK
        clear HX HY hpk
        go_wp2_with fail
        refine (HK.out _ hb).mono ?_
        rintro e w1 ⟨rfl, hb1⟩
        go_wp2_with fail
        go_roundw
        case rel => exact ⟨i, (i + j) / 2, by omega, by omega, rfl, by go_num, hb.trans (hb1.mono hb.size), HA, HG⟩
        case measure => simp [intOf]; omega
      | false =>
        have HG := Lib.hid (HX.out hpk)
        rw [hpk] at HK
        clear HX HY hpk
        go_wp2_with fail
        refine (HK.out _ hb).mono ?_
        rintro e w1 ⟨rfl, hb1⟩
        go_wp2_with fail
        go_roundw
        case rel => exact ⟨(i + j) / 2 + 1, j, by omega, hj, by go_num, rfl, hb.trans (hb1.mono hb.size), HG, HB⟩
        case measure => simp [intOf]; omega
    · obtain rfl : i = j := by omega
      have HE := Lib.hid (HR.out i hj HA.out (fun h => HB.out i (Nat.le_refl _) h))
      clear HP HM HR hlt
      go_wp2_with fail
      go_ret
      rw [HE.out]
      exact ⟨rfl, hb⟩
end Go.Proofs.Ytmdifgkalooaoaa
