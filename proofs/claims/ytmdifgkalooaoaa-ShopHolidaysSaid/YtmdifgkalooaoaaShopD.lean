/-
  The walk of after of package shop. By an AI agent.
-/
import Derived.Test.YtmdifgkalooaoaaShopC
namespace Go.Proofs.Ytmdifgkalooaoaa
set_option linter.unusedVariables false
set_option linter.unusedSimpArgs false
open Go.RowKit

set_option maxRecDepth 100000 in
set_option maxHeartbeats 2000000 in
theorem after_sh (s : Sh) (t : Int) (m : Nat) (w : World) (hI : IntsS w s.aH s.H) (hH : HolOk s.H) (o0 : 0 ≤ s.O) (o1 : s.O < s.C) (o2 : s.C ≤ 1440) (t0 : 0 ≤ t) (t1 : t ≤ 1000000000) (m1 : m ≤ 1000000) :
    Calls Try.prog 56 #[.agg #[.int .i64 s.O, .int .i64 s.C, .slice s.aH s.H.length s.cH, .int .i64 s.M, .slice s.aS s.S.length s.cS, .slice s.aJ s.J.length s.cJ], .int .i64 t, .int .i64 m] w fun e w' => e = .returned (.int .i64 (aftV s.O s.C s.H t m)) ∧ Below w.heap.size w w' := by
  have h4 := hH.1
  have HO := Lib.hid (fun W (hW : Below w.heap.size w W) => open_sh s t W (hI.below hW) hH o0 o1 o2 t0 (by omega))
  have HF := Lib.hid (fun (R : Int) (n : Nat) (b b1 b2 : Nat) W (hW : Below w.heap.size w W) n1 => after1_sh s t R n b b1 b2 W (hI.below hW) hH o0 o1 o2 t0 t1 n1)
  obtain ⟨k, hk, hk2⟩ := aft_exists (O := s.O) (C := s.C) hH.asc o0 o1 o2 t m
  have hv := aftV_eq hk
  have hob := opnB_bd (O := s.O) (C := s.C) hH.asc hH.pos o0 o1 o2 t0
  have HU : Hid (∀ n : Nat, n ≤ 1440 * (m + s.H.length) → (∀ j, j < n → decide (opnB s.O s.C s.H t + m ≤ opnB s.O s.C s.H (t + j)) = false) → (n < 1440 * (m + s.H.length) → decide (opnB s.O s.C s.H t + m ≤ opnB s.O s.C s.H (t + n)) = true) → n = k) := Lib.hid fun n h1 h2 h3 => by
    have := (aft_of hH.asc o0 o1 o2 h1 (fun j hj => by have := h2 j hj; rw [decide_eq_false_iff_not] at this; omega) (fun h => by have := h3 h; rwa [decide_eq_true_iff] at this)).unique hk
    omega
  have HMo : Hid (∀ i j : Nat, i ≤ j → decide (opnB s.O s.C s.H t + m ≤ opnB s.O s.C s.H (t + i)) = true → decide (opnB s.O s.C s.H t + m ≤ opnB s.O s.C s.H (t + j)) = true) := Lib.hid fun i j hij h => by
    rw [decide_eq_true_iff] at h ⊢
    have := opnB_mono (O := s.O) (C := s.C) (l := s.H) hH.asc o0 o1 o2 (show t + (i : Int) ≤ t + j by omega)
    omega
  rw [hv]
  have hB := ShBox.start w s 25
  have HSS := Lib.hid (fun (lb : Array Value) W hp => sortSearch_any (1440 * (m + s.H.length)) k lb (fun j => decide (opnB s.O s.C s.H t + m ≤ opnB s.O s.C s.H (t + j))) W (by omega) HMo.out hp HU.out)
  clear HU HMo hv hk
  go_enter Try.func56, Try.ntmps56
  go_wp2_with fail
  obtain ⟨wB, hwB⟩ : ∃ wB, (w.alloc (.cells #[.int .i64 s.O, .int .i64 s.C, .slice s.aH s.H.length s.cH, .int .i64 s.M, .slice s.aS s.S.length s.cS, .slice s.aJ s.J.length s.cJ] 25)).alloc (.cells #[.int .i64 t] 3) = wB := ⟨_, rfl⟩
  have hB2 : ShBox w wB s := by rw [← hwB]; exact hB.on ((Below.refl _ _).alloc (Nat.le_refl _) _)
  have ct : wB.cell? ⟨w.heap.size + 1, 0, none⟩ = some (.int .i64 t) := by rw [← hwB]; simp [go_sem]
  rw [hwB]
  clear hwB hB
  refine (HO.out _ hB2.1).mono ?_
  rintro e w1 ⟨rfl, hb1⟩
  have ct := cell_below ct hb1
  have hB3 := hB2.on hb1
  clear hB2 hb1 HO
  have HB3 := Lib.hid hB3
  obtain ⟨hb, p0, p1, p2, p3, p4, p5⟩ := hB3
  generalize opnB s.O s.C s.H t = v at *
  obtain ⟨v0, v1⟩ := hob
  have z1 := block_lt ct
  have q1 : ∀ o O, (w1.alloc O).cell? ⟨w.heap.size, o, none⟩ = w1.cell? ⟨w.heap.size, o, none⟩ := fun o O => ((Below.refl w1.heap.size w1).alloc (Nat.le_refl _) O).cell (p := ⟨w.heap.size, o, none⟩) (by simp; omega)
  have q2 : ∀ o O, (w1.alloc O).cell? ⟨w.heap.size + 1, o, none⟩ = w1.cell? ⟨w.heap.size + 1, o, none⟩ := fun o O => ((Below.refl w1.heap.size w1).alloc (Nat.le_refl _) O).cell (p := ⟨w.heap.size + 1, o, none⟩) (by simp; omega)
  go_wp2_with fail
  obtain ⟨wC, hwC⟩ : ∃ wC, w1.alloc (.cells #[.int .i64 (v + m)] 3) = wC := ⟨_, rfl⟩
  have hbC : Below w1.heap.size w1 wC := by rw [← hwC]; exact (Below.refl _ _).alloc (Nat.le_refl _) _
  have c2 : wC.cell? ⟨w1.heap.size, 0, none⟩ = some (.int .i64 (v + m)) := by rw [← hwC]; simp [go_sem]
  have hBC := HB3.out.on hbC
  have ct := cell_below ct hbC
  have HP2 : Hid (∀ X, Below wC.heap.size wC X → ∀ j W, j < 1440 * (m + s.H.length) → Below X.heap.size X W → Calls Try.prog 94 (#[.int .i64 j] ++ #[.pointer (some ⟨w.heap.size, 0, none⟩), .pointer (some ⟨w.heap.size + 1, 0, none⟩), .pointer (some ⟨w1.heap.size, 0, none⟩)]) W fun e w' => e = .returned (.bool (decide (v + m ≤ opnB s.O s.C s.H (t + j)))) ∧ Below W.heap.size W w') := Lib.hid fun X hX j W hj hW =>
    have hXW := hX.trans (hW.mono hX.size)
    HF.out (v + m) j w.heap.size (w.heap.size + 1) w1.heap.size W ((hBC.on hXW).1) (by omega) (hBC.on hXW).2 (cell_below ct hXW) (cell_below c2 hXW)
  have hN : ((1440 * (m + s.H.length) : Nat) : Int) = ((m : Int) + s.H.length) * 1440 := by omega
  rw [hN] at HSS
  have ws : IntKind.i64.wrap (t + k) = t + k := IntWalk.i64_in _ (by omega)
  have hB : Below w.heap.size w wC := hBC.1
  have hC := Below.refl wC.heap.size wC
  have z2 := block_lt ct
  rw [hwC]
  clear hwC hN hb p0 p1 p2 p3 p4 p5 hbC HB3 HF z1 q1 q2 c2
  go_region_held3 (fun w' => w'.cell? ⟨w.heap.size + 1, 0, none⟩ = some (.int .i64 t)) (go_keep)
    ((go_at_call 93
      refine (HSS.out _ _ (HP2.out _ (by first | exact hC.drew | exact hC | exact hC.drew.drew | exact below_drewN hC _ | exact below_drewN hC.drew _))).mono ?_
      rintro E w9 ⟨rfl, hb9⟩
      have ct := (hb9.cell (p := ⟨w.heap.size + 1, 0, none⟩) z2).trans ct
      have hB : Below w.heap.size w w9 := by first | exact (hB.drew).trans (hb9.mono hB.size) | exact hB.trans (hb9.mono hB.size)))
  all_goals
    go_wp2_with fail
    go_ret
    exact ⟨rfl, hB⟩
end Go.Proofs.Ytmdifgkalooaoaa
