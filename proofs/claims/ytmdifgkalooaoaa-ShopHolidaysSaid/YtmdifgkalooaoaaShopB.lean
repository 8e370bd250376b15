/-
  The walks of between, within and next of package shop. By an AI agent.
-/
import Derived.Test.YtmdifgkalooaoaaShopA
namespace Go.Proofs.Ytmdifgkalooaoaa
set_option linter.unusedVariables false
set_option linter.unusedSimpArgs false
open Go.RowKit

/-- A world in which the box of a shop lies behind w. -/
def ShBox (w W : World) (s : Sh) : Prop :=
  Below w.heap.size w W ∧ W.cell? ⟨w.heap.size, 0, none⟩ = some (.int .i64 s.O) ∧ W.cell? ⟨w.heap.size, 1, none⟩ = some (.int .i64 s.C) ∧ W.cell? ⟨w.heap.size, 2, none⟩ = some (.slice s.aH s.H.length s.cH) ∧ W.cell? ⟨w.heap.size, 3, none⟩ = some (.int .i64 s.M) ∧ W.cell? ⟨w.heap.size, 4, none⟩ = some (.slice s.aS s.S.length s.cS) ∧ W.cell? ⟨w.heap.size, 5, none⟩ = some (.slice s.aJ s.J.length s.cJ)
theorem ShBox.start (w : World) (s : Sh) (T : TypeId) : ShBox w (w.alloc (.cells #[.int .i64 s.O, .int .i64 s.C, .slice s.aH s.H.length s.cH, .int .i64 s.M, .slice s.aS s.S.length s.cS, .slice s.aJ s.J.length s.cJ] T)) s :=
  ⟨(Below.refl _ _).alloc (Nat.le_refl _) _, by simp [go_sem], by simp [go_sem], by simp [go_sem], by simp [go_sem], by simp [go_sem], by simp [go_sem]⟩
theorem ShBox.on {w W W' : World} {s : Sh} (h : ShBox w W s) (hb : Below W.heap.size W W') : ShBox w W' s :=
  ⟨h.1.trans (hb.mono h.1.size), cell_below h.2.1 hb, cell_below h.2.2.1 hb, cell_below h.2.2.2.1 hb, cell_below h.2.2.2.2.1 hb, cell_below h.2.2.2.2.2.1 hb, cell_below h.2.2.2.2.2.2 hb⟩
theorem ShBox.drewN {w W : World} {s : Sh} (h : ShBox w W s) (n : Nat) : ShBox w (W.drewN n) s := h.on (below_drewN (Below.refl _ _) n)

set_option maxHeartbeats 400000 in
theorem sbt_any (n a b : Int) (w : World) :
    Calls Try.prog 53 #[.int .i64 n, .int .i64 a, .int .i64 b] w fun e w' => e = .returned (.bool (btw n a b)) ∧ w = w' := by
  by_cases h1 : a ≤ n
  · by_cases h2 : n ≤ b
    · rw [btw_t h1 h2]
      go_enter Try.func53, Try.ntmps53
      go_wp2
      go_ret
      exact ⟨rfl, rfl⟩
    · rw [btw_f (fun h => h2 h.2)]
      go_enter Try.func53, Try.ntmps53
      go_wp2
      go_ret
      exact ⟨rfl, rfl⟩
  · rw [btw_f (fun h => h1 h.1)]
    go_enter Try.func53, Try.ntmps53
    go_wp2
    go_ret
    exact ⟨rfl, rfl⟩
theorem sbt_q {n a b : Int} {v : Bool} (h : btw n a b = v) (w : World) :
    Calls Try.prog 53 #[.int .i64 n, .int .i64 a, .int .i64 b] w fun e w' => e = .returned (.bool v) ∧ w' = w := (sbt_any n a b w).mono fun e w' g => ⟨by rw [← h]; exact g.1, g.2.symm⟩

open Classical in
noncomputable def inShB (O C : Int) (l : List Int) (t m : Int) : Bool := decide (InSh O C l t m)
theorem inShB_iff {O C : Int} {l : List Int} {t m : Int} : inShB O C l t m = true ↔ InSh O C l t m := by unfold inShB; simp
theorem inShB_t {O C : Int} {l : List Int} {t m : Int} (h : InSh O C l t m) : inShB O C l t m = true := inShB_iff.2 h
theorem inShB_f {O C : Int} {l : List Int} {t m : Int} (h : ¬ InSh O C l t m) : inShB O C l t m = false := by rw [Bool.eq_false_iff]; exact fun g => h (inShB_iff.1 g)

set_option maxRecDepth 100000 in
set_option maxHeartbeats 1000000 in
theorem within_sh (s : Sh) (t m : Int) (w : World) (hI : IntsS w s.aH s.H) (hH : HolOk s.H) (o0 : 0 ≤ s.O) (o1 : s.O < s.C) (o2 : s.C ≤ 1440) (t0 : 0 ≤ t) (t1 : t ≤ 100000000000) (m0 : -100000 ≤ m) (m1 : m ≤ 100000) :
    Calls Try.prog 60 #[.agg #[.int .i64 s.O, .int .i64 s.C, .slice s.aH s.H.length s.cH, .int .i64 s.M, .slice s.aS s.S.length s.cS, .slice s.aJ s.J.length s.cJ], .int .i64 t, .int .i64 m] w fun e w' => e = .returned (.bool (inShB s.O s.C s.H t m)) ∧ Below w.heap.size w w' := by
  have HS := Lib.hid (fun W (hW : Below w.heap.size w W) => search_any s.aH s.H s.cH (t / 1440) W (hI.below hW) hH.asc hH.1)
  have hB := ShBox.start w s 25
  have hd0 : 0 ≤ t / 1440 := by omega
  have r0 : 0 ≤ t % 1440 := by omega
  have r1 : t % 1440 < 1440 := by omega
  have HT : Hid (inShB s.O s.C s.H t m = (!(hol s.H (t / 1440)) && (decide (s.O ≤ t % 1440) && decide (t % 1440 + m ≤ s.C)))) := Lib.hid (by
    rw [Bool.eq_iff_iff, inShB_iff]; unfold InSh; simp)
  generalize inShB s.O s.C s.H t m = R at *
  generalize hol s.H (t / 1440) = hh at *
  generalize cnt s.H (t / 1440) = cc at *
  clear hI hH
  go_enter Try.func60, Try.ntmps60
  go_wp2_with fail
  obtain ⟨wB, hwB⟩ : ∃ wB, w.alloc (.cells #[.int .i64 s.O, .int .i64 s.C, .slice s.aH s.H.length s.cH, .int .i64 s.M, .slice s.aS s.S.length s.cS, .slice s.aJ s.J.length s.cJ] 25) = wB := ⟨_, rfl⟩
  rw [hwB] at hB ⊢
  clear hwB
  refine (HS.out _ hB.1).mono ?_
  rintro e w1 ⟨rfl, hb1⟩
  have hB1 := hB.on hb1
  obtain ⟨hb, p0, p1, p2, p3, p4, p5⟩ := hB1
  clear hB hb1 HS
  go_wp2_with fail
  all_goals
    go_ret
    exact ⟨by rw [HT.out]; simp_all <;> omega, hb⟩

set_option maxRecDepth 100000 in
set_option maxHeartbeats 1000000 in
theorem next_sh (s : Sh) (t m : Int) (w : World) (hI : IntsS w s.aH s.H) (hH : HolOk s.H) (o0 : 0 ≤ s.O) (o1 : s.O < s.C) (o2 : s.C ≤ 1440) (t0 : 0 ≤ t) (t1 : t ≤ 10000000000) (m0 : -100000 ≤ m) (m1 : m ≤ s.C - s.O) :
    Calls Try.prog 54 #[.agg #[.int .i64 s.O, .int .i64 s.C, .slice s.aH s.H.length s.cH, .int .i64 s.M, .slice s.aS s.S.length s.cS, .slice s.aJ s.J.length s.cJ], .int .i64 t, .int .i64 m] w fun e w' => e = .returned (.int .i64 (nextV s.O s.C s.H t m)) ∧ Below w.heap.size w w' := by
  have HW := Lib.hid (fun W (hW : Below w.heap.size w W) u u0 u1 => within_sh s u m W (hI.below hW) hH o0 o1 o2 u0 u1 m0 (by omega))
  have hB := ShBox.start w s 25
  have HV : Hid (∀ x, IsNext s.O s.C s.H t m x → nextV s.O s.C s.H t m = x) := Lib.hid fun x h => nextV_eq h
  have HE : Hid (∀ d, 10000 < d → hol s.H d = false) := Lib.hid fun d hd => hol_late hH.late hd
  generalize nextV s.O s.C s.H t m = R at *
  have hd0 : 0 ≤ t / 1440 := by omega
  clear hI hH
  go_enter Try.func54, Try.ntmps54
  go_wp2_with fail
  obtain ⟨wB, hwB⟩ : ∃ wB, w.alloc (.cells #[.int .i64 s.O, .int .i64 s.C, .slice s.aH s.H.length s.cH, .int .i64 s.M, .slice s.aS s.S.length s.cS, .slice s.aJ s.J.length s.cJ] 25) = wB := ⟨_, rfl⟩
  rw [hwB] at hB ⊢
  clear hwB
  go_loopw [7] (fun i wr => ∃ d : Int, t / 1440 ≤ d ∧ d ≤ max (t / 1440 + 1) 10001 ∧ i = .int .i64 d ∧ ShBox w wr s ∧ Hid (NoSh s.O s.C s.H t m (1440 * d))) (fun i _ => (max (t / 1440 + 1) 10001 + 1 - intOf i).toNat)
  case atStart => exact ⟨t / 1440, by omega, by omega, rfl, hB, Lib.hid fun y h1 h2 => by omega⟩
  case round =>
    obtain ⟨d, hd1, hd2, rfl, hB1, HN⟩ := hrel
    obtain ⟨hb, p0, p1, p2, p3, p4, p5⟩ := hB1
    have hs1 := stDay_bd (O := s.O) (t := t) (d := d) o0 (by omega) (by omega)
    have HHit : Hid (InSh s.O s.C s.H (stDay s.O t d) m → R = stDay s.O t d) := Lib.hid fun h => HV.out _ (next_hit o0 (by omega) (by omega) HN.out h)
    have HMiss : Hid (¬ InSh s.O s.C s.H (stDay s.O t d) m → NoSh s.O s.C s.H t m (1440 * (d + 1)) ∧ d + 1 ≤ max (t / 1440 + 1) 10001) := Lib.hid fun h => ⟨next_miss o0 (by omega) (by omega) HN.out h, by
      by_cases g : d + 1 ≤ max (t / 1440 + 1) 10001
      · exact g
      · exact absurd (next_late o0 o1 o2 m1 (HE.out d (by omega)) (by omega)) h⟩
    obtain ⟨s1, s2, s3, s4⟩ := hs1
    have hX : stDay s.O t d = max t (1440 * d + s.O) := rfl
    have HX := Lib.hid hX
    clear HV HE HN hX
    generalize stDay s.O t d = x at *
    have hx3 : (t < d * 1440 + s.O ∧ x = d * 1440 + s.O) ∨ ((t ≤ d * 1440 + s.O ∧ d * 1440 + s.O ≤ t) ∧ x = t) ∨ (d * 1440 + s.O < t ∧ x = t) := by have := HX.out; omega
    clear HX
    have B3 : ShBox w wr s := ⟨hb, p0, p1, p2, p3, p4, p5⟩
    have HB3 := Lib.hid B3
    clear B3
    by_cases hs : InSh s.O s.C s.H x m
    · have HR := Lib.hid (HHit.out hs)
      have HI := Lib.hid (inShB_t hs)
      clear HHit HMiss hs
      rcases hx3 with ⟨hl, rfl⟩ | ⟨hl, rfl⟩ | ⟨hl, rfl⟩
      all_goals
        go_wp2_with fail
        refine (HW.out _ hb _ (by omega) (by omega)).mono ?_
        rintro e w1 ⟨rfl, hb1⟩
        first | rw [HI.out] | (rw [show d * 1440 + s.O = t by omega, HI.out])
        go_wp2_with fail
        go_ret
        rw [HR.out]
        exact ⟨rfl, hb.trans (hb1.mono hb.size)⟩
    · obtain ⟨hn1, hn2⟩ := HMiss.out hs
      have HR := Lib.hid hn1
      have HI := Lib.hid (inShB_f hs)
      clear HHit HMiss hs hn1
      rcases hx3 with ⟨hl, rfl⟩ | ⟨hl, rfl⟩ | ⟨hl, rfl⟩
      all_goals
        go_wp2_with fail
        refine (HW.out _ hb _ (by omega) (by omega)).mono ?_
        rintro e w1 ⟨rfl, hb1⟩
        first | rw [HI.out] | (rw [show d * 1440 + s.O = t by omega, HI.out])
        go_wp2_with fail
        go_roundw
        case rel => exact ⟨d + 1, by omega, hn2, rfl, HB3.out.on hb1, HR⟩
        case measure => simp [intOf]; omega
end Go.Proofs.Ytmdifgkalooaoaa
