/-
  The walks of long, and of the reference's within, step and Valid. By an AI agent.
-/
import Derived.Test.YtmdifgkalooaoaaShopJ
namespace Go.Proofs.Ytmdifgkalooaoaa
set_option linter.unusedVariables false
set_option linter.unusedSimpArgs false
open Go.RowKit

/-- A bool is returned. -/
def SomeB (e : Ending) : Prop := ∃ b : Bool, e = .returned (.bool b)

set_option maxRecDepth 100000 in
set_option maxHeartbeats 1000000 in
theorem long_sh (s : Sh) (w : World) (hI : ShS w s) :
    Calls Try.prog 18 #[.agg #[.int .i64 s.O, .int .i64 s.C, .slice s.aH s.H.length s.cH, .int .i64 s.M, .slice s.aS s.S.length s.cS, .slice s.aJ s.J.length s.cJ]] w fun e w' => SomeB e ∧ Below w.heap.size w w' := by
  have hlH := hI.1.1
  have hlS := hI.2.1.1
  obtain ⟨hlJ, blk, off, ad, cp, hadr, hc⟩ := hI.2.2
  have HC : Hid (∀ k, k < s.J.length → w.cell? ⟨blk, off + k, none⟩ = some (.slice (ad k) (gj s.J k).length (cp k)) ∧ (gj s.J k).length ≤ 9223372036854775807) := Lib.hid fun k hk => ⟨(hc k hk).1, (hc k hk).2.1.1⟩
  have HL : Hid (0 < s.J.length → s.aJ = some ⟨blk, off, none⟩) := Lib.hid fun h => hadr (fun e => by rw [e] at h; simp at h)
  have hB := ShBox.start w s 25
  clear hI hc hadr
  go_enter Try.func18, Try.ntmps18
  go_wp2_with fail
  all_goals first
    | (go_ret; exact ⟨⟨_, rfl⟩, hB.1⟩)
    | skip
  obtain ⟨wB, hwB⟩ : ∃ wB, w.alloc (.cells #[.int .i64 s.O, .int .i64 s.C, .slice s.aH s.H.length s.cH, .int .i64 s.M, .slice s.aS s.S.length s.cS, .slice s.aJ s.J.length s.cJ] 25) = wB := ⟨_, rfl⟩
  rw [hwB] at hB ⊢
  clear hwB
  go_loopw [3] (fun i wr => ∃ k : Nat, k ≤ s.J.length ∧ i = .int .i64 k ∧ ShBox w wr s) (fun i _ => s.J.length - (intOf i).toNat)
  case atStart => exact ⟨0, Nat.zero_le _, rfl, hB⟩
  case round =>
    clear hB
    obtain ⟨k, hk, rfl, hB1⟩ := hrel
    have HB := Lib.hid hB1
    obtain ⟨hb, p0, p1, p2, p3, p4, p5⟩ := hB1
    by_cases hlt : k < s.J.length
    · have ha := HL.out (by omega)
      obtain ⟨c0, hln⟩ := HC.out k hlt
      have c0 := cell_below c0 hb
      have n3 : (k : Int) < s.J.length := by omega
      rw [ha] at p5
      clear ha HC HL
      generalize (gj s.J k).length = n at *
      by_cases hn : 20 < n
      · have hn' : (20 : Int) < n := by omega
        go_wp2_with fail
        go_ret
        exact ⟨⟨_, rfl⟩, hb⟩
      · have hn' : ¬ (20 : Int) < n := by omega
        go_wp2_with fail
        go_roundw
        case rel => exact ⟨k + 1, by omega, by go_num, HB.out⟩
        case measure => simp [intOf]; omega
    · obtain rfl : k = s.J.length := by omega
      clear HC HL hlt
      go_wp2_with fail
      go_ret
      exact ⟨⟨_, rfl⟩, hb⟩

theorem rin_any (n a b : Int) (w : World) :
    Calls Try.prog 48 #[.int .i64 n, .int .i64 a, .int .i64 b] w fun e w' => e = .returned (.bool (btw n a b)) ∧ w = w' := by
  by_cases h1 : a ≤ n
  · by_cases h2 : n ≤ b
    · rw [btw_t h1 h2]
      go_enter Try.func48, Try.ntmps48
      go_wp2
      go_ret
      exact ⟨rfl, rfl⟩
    · rw [btw_f (fun h => h2 h.2)]
      go_enter Try.func48, Try.ntmps48
      go_wp2
      go_ret
      exact ⟨rfl, rfl⟩
  · rw [btw_f (fun h => h1 h.1)]
    go_enter Try.func48, Try.ntmps48
    go_wp2
    go_ret
    exact ⟨rfl, rfl⟩
theorem rin_q {n a b : Int} {v : Bool} (h : btw n a b = v) (w : World) :
    Calls Try.prog 48 #[.int .i64 n, .int .i64 a, .int .i64 b] w fun e w' => e = .returned (.bool v) ∧ w' = w := (rin_any n a b w).mono fun e w' g => ⟨by rw [← h]; exact g.1, g.2.symm⟩

set_option maxRecDepth 100000 in
set_option maxHeartbeats 1000000 in
theorem step_sh (s : Sh) (x : Stp) (w : World) (o0 : 0 ≤ s.O) (o1 : s.O < s.C) (o2 : s.C ≤ 1440) (m0 : 1 ≤ s.M) (m1 : s.M ≤ 6) :
    Calls Try.prog 49 #[.agg #[.int .i64 s.O, .int .i64 s.C, .slice s.aH s.H.length s.cH, .int .i64 s.M, .slice s.aS s.S.length s.cS, .slice s.aJ s.J.length s.cJ], .agg #[.int .i64 x.1, .int .i64 x.2.1, .int .i64 x.2.2.1, .int .i64 x.2.2.2]] w fun e w' => e = .returned (.bool (stpB s.O s.C s.M x)) ∧ Below w.heap.size w w' := by
  unfold stpB
  obtain ⟨x0, x1, x2, x3⟩ := x
  dsimp only
  generalize hg0 : btw x0 0 (s.M - 1) = g0
  generalize hg1 : btw x1 1 (s.C - s.O) = g1
  generalize hg2 : btw x2 0 9 = g2
  generalize hg3 : btw x3 0 10000 = g3
  have G0 := Lib.hid hg0
  have G1 := Lib.hid hg1
  have G2 := Lib.hid hg2
  have G3 := Lib.hid hg3
  clear hg0 hg1 hg2 hg3
  go_enter Try.func49, Try.ntmps49
  go_wp2_with (go_at_call 48; refine (rin_any _ _ _ _).mono ?_; rintro e w' ⟨rfl, rfl⟩; first | rw [G0.out] | rw [G1.out] | rw [G2.out] | rw [G3.out])
  all_goals
    go_ret
    exact ⟨by first | rfl | simp_all, ((Below.refl _ _).alloc (Nat.le_refl _) _).alloc (by simp) _⟩
end Go.Proofs.Ytmdifgkalooaoaa
