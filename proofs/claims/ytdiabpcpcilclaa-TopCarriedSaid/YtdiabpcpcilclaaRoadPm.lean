/-
  The reference's versions, Valid, Length and At. By an AI agent.
-/
import Derived.Test.YtdiabpcpcilclaaRoadPl
import Derived.Test.YtdiabpcpcilclaaRoadF
namespace Go.Proofs.Ytdiabpcpcilclaa
set_option linter.unusedVariables false
set_option linter.unusedSimpArgs false
open Go.RowKit

/-- What versions returns. -/
def VerE (w : World) (N L : Int) (l : List Chg) (u v : Int) (e : Ending) (w' : World) : Prop := (errL N L l [u, v] = 0 ∧ ∃ b c, e = .returned (.tuple #[.slice b (l.length + 1) c, .int .i64 0]) ∧ IntsC w' b (lensL L l l.length) ∧ Below w.heap.size w w') ∨ (errL N L l [u, v] ≠ 0 ∧ e = .returned (.tuple #[.slice none 0 0, .int .i64 (errL N L l [u, v])]) ∧ Below w.heap.size w w')
theorem win_f {u v : Int} {n : Nat} (h : u < 0 ∨ (n : Int) < u ∨ v < 0 ∨ (n : Int) < v) : winB 0 n [u, v] = false := by
  rw [win2, ← Bool.not_eq_true, Bool.and_eq_true, btw_iff, btw_iff]; omega
theorem win_t {u v : Int} {n : Nat} (h : (0 ≤ u ∧ u ≤ n) ∧ 0 ≤ v ∧ v ≤ n) : winB 0 n [u, v] = true := by
  rw [win2, Bool.and_eq_true, btw_iff, btw_iff]; exact h
set_option maxRecDepth 100000 in
set_option maxHeartbeats 1000000 in
theorem versions_any (N L : Int) (a : Option Addr) (l : List Chg) (ca : Nat) (u v : Int) (w : World) (hA : QuadS w a l) :
    Calls Try.prog 36 #[.agg #[.int .i64 N, .int .i64 L, .slice a l.length ca], .int .i64 u, .int .i64 v] w (VerE w N L l u v) := by
  have HLn := Lib.hid (fun W (hW : Below w.heap.size w W) => lengths_any N L a l ca W (hA.below hW))
  have hlen := hA.1
  clear hA
  by_cases hr : RoadOk N L l
  · have h40 := hr.2.2.1
    have hcase : u < 0 ∨ (0 ≤ u ∧ (l.length : Int) + 1 ≤ u) ∨ (0 ≤ u ∧ u < (l.length : Int) + 1 ∧ v < 0) ∨ (0 ≤ u ∧ u < (l.length : Int) + 1 ∧ 0 ≤ v ∧ (l.length : Int) + 1 ≤ v) ∨ (0 ≤ u ∧ u < (l.length : Int) + 1 ∧ 0 ≤ v ∧ v < (l.length : Int) + 1) := by omega
    have HLn : Hid (∀ W, Below w.heap.size w W → Calls Try.prog 51 #[.agg #[.int .i64 N, .int .i64 L, .slice a l.length ca]] W fun e w' => ∃ b c, e = .returned (.tuple #[.slice b (l.length + 1) c, .bool true]) ∧ IntsC w' b (lensL L l l.length) ∧ Below W.heap.size W w') := Lib.hid fun W hW => (HLn.out W hW).mono fun e w' h => by
      rcases h with ⟨_, h⟩ | ⟨h, _⟩
      · exact h
      · exact absurd hr h
    have HE : Hid (∀ W, (u < 0 ∨ (l.length : Int) < u ∨ v < 0 ∨ (l.length : Int) < v) → Below w.heap.size w W → VerE w N L l u v (.returned (.tuple #[.slice none 0 0, .int .i64 61])) W) := Lib.hid fun W h hW => by
      have he := errL_ver hr (win_f h)
      exact .inr ⟨by rw [he]; decide, by rw [he], hW⟩
    have HG : Hid (∀ b c W, ((0 ≤ u ∧ u ≤ (l.length : Int)) ∧ 0 ≤ v ∧ v ≤ (l.length : Int)) → IntsC W b (lensL L l l.length) → Below w.heap.size w W → VerE w N L l u v (.returned (.tuple #[.slice b (l.length + 1) c, .int .i64 0])) W) := Lib.hid fun b c W h h1 h2 => .inl ⟨errL_ok hr (win_t h), b, c, rfl, h1, h2⟩
    rcases hcase with c1 | ⟨c1, c2⟩ | ⟨c1, c2, c3⟩ | ⟨c1, c2, c3, c4⟩ | ⟨c1, c2, c3, c4⟩
    · 
      go_enter Try.func36, Try.ntmps36
      go_wp2_with fail
      obtain ⟨wB, hwB⟩ : ∃ wB, w.alloc (.cells #[.int .i64 N, .int .i64 L, .slice a l.length ca] 24) = wB := ⟨_, rfl⟩
      have hB := RdBox.start w N L a l ca 24
      rw [hwB] at hB ⊢
      clear hwB
      have HB := Lib.hid hB
      obtain ⟨hb, p0, p1, p2⟩ := hB
      refine (HLn.out _ hb).mono ?_
      rintro e w1 ⟨b, c, rfl, hI, hb1⟩
      have hI := Lib.hid hI
      have HB := Lib.hid (HB.out.on hb1)
      obtain ⟨hb, p0, p1, p2⟩ := HB.out
      clear hb1
      go_wp2_with fail
      go_ret2
      exact HE.out _ (by omega) hb
    · 
      go_enter Try.func36, Try.ntmps36
      go_wp2_with fail
      obtain ⟨wB, hwB⟩ : ∃ wB, w.alloc (.cells #[.int .i64 N, .int .i64 L, .slice a l.length ca] 24) = wB := ⟨_, rfl⟩
      have hB := RdBox.start w N L a l ca 24
      rw [hwB] at hB ⊢
      clear hwB
      have HB := Lib.hid hB
      obtain ⟨hb, p0, p1, p2⟩ := hB
      refine (HLn.out _ hb).mono ?_
      rintro e w1 ⟨b, c, rfl, hI, hb1⟩
      have hI := Lib.hid hI
      have HB := Lib.hid (HB.out.on hb1)
      obtain ⟨hb, p0, p1, p2⟩ := HB.out
      clear hb1
      go_wp2_with fail
      go_ret2
      exact HE.out _ (by omega) hb
    · 
      go_enter Try.func36, Try.ntmps36
      go_wp2_with fail
      obtain ⟨wB, hwB⟩ : ∃ wB, w.alloc (.cells #[.int .i64 N, .int .i64 L, .slice a l.length ca] 24) = wB := ⟨_, rfl⟩
      have hB := RdBox.start w N L a l ca 24
      rw [hwB] at hB ⊢
      clear hwB
      have HB := Lib.hid hB
      obtain ⟨hb, p0, p1, p2⟩ := hB
      refine (HLn.out _ hb).mono ?_
      rintro e w1 ⟨b, c, rfl, hI, hb1⟩
      have hI := Lib.hid hI
      have HB := Lib.hid (HB.out.on hb1)
      obtain ⟨hb, p0, p1, p2⟩ := HB.out
      clear hb1
      go_wp2_with fail
      go_ret2
      exact HE.out _ (by omega) hb
    · 
      go_enter Try.func36, Try.ntmps36
      go_wp2_with fail
      obtain ⟨wB, hwB⟩ : ∃ wB, w.alloc (.cells #[.int .i64 N, .int .i64 L, .slice a l.length ca] 24) = wB := ⟨_, rfl⟩
      have hB := RdBox.start w N L a l ca 24
      rw [hwB] at hB ⊢
      clear hwB
      have HB := Lib.hid hB
      obtain ⟨hb, p0, p1, p2⟩ := hB
      refine (HLn.out _ hb).mono ?_
      rintro e w1 ⟨b, c, rfl, hI, hb1⟩
      have hI := Lib.hid hI
      have HB := Lib.hid (HB.out.on hb1)
      obtain ⟨hb, p0, p1, p2⟩ := HB.out
      clear hb1
      go_wp2_with fail
      go_ret2
      exact HE.out _ (by omega) hb
    · 
      go_enter Try.func36, Try.ntmps36
      go_wp2_with fail
      obtain ⟨wB, hwB⟩ : ∃ wB, w.alloc (.cells #[.int .i64 N, .int .i64 L, .slice a l.length ca] 24) = wB := ⟨_, rfl⟩
      have hB := RdBox.start w N L a l ca 24
      rw [hwB] at hB ⊢
      clear hwB
      have HB := Lib.hid hB
      obtain ⟨hb, p0, p1, p2⟩ := hB
      refine (HLn.out _ hb).mono ?_
      rintro e w1 ⟨b, c, rfl, hI, hb1⟩
      have hI := Lib.hid hI
      have HB := Lib.hid (HB.out.on hb1)
      obtain ⟨hb, p0, p1, p2⟩ := HB.out
      clear hb1
      go_wp2_with fail
      go_ret2
      exact HG.out _ _ _ ⟨⟨c1, by omega⟩, c3, by omega⟩ hI.out hb
  · have he := errL_road (N := N) (L := L) (l := l) hr [u, v]
    have HLn : Hid (∀ W, Below w.heap.size w W → Calls Try.prog 51 #[.agg #[.int .i64 N, .int .i64 L, .slice a l.length ca]] W fun e w' => e = .returned (.tuple #[.slice none 0 0, .bool false]) ∧ Below W.heap.size W w') := Lib.hid fun W hW => (HLn.out W hW).mono fun e w' h => by
      rcases h with ⟨h, _⟩ | ⟨_, h⟩
      · exact absurd h hr
      · exact h
    have HE : Hid (∀ W, Below w.heap.size w W → VerE w N L l u v (.returned (.tuple #[.slice none 0 0, .int .i64 60])) W) := Lib.hid fun W hW => .inr ⟨by rw [he]; decide, by rw [he], hW⟩
    go_enter Try.func36, Try.ntmps36
    go_wp2_with fail
    obtain ⟨wB, hwB⟩ : ∃ wB, w.alloc (.cells #[.int .i64 N, .int .i64 L, .slice a l.length ca] 24) = wB := ⟨_, rfl⟩
    have hB := RdBox.start w N L a l ca 24
    rw [hwB] at hB ⊢
    clear hwB
    have HB := Lib.hid hB
    obtain ⟨hb, p0, p1, p2⟩ := hB
    refine (HLn.out _ hb).mono ?_
    rintro e w1 ⟨rfl, hb1⟩
    have HB := Lib.hid (HB.out.on hb1)
    obtain ⟨hb, p0, p1, p2⟩ := HB.out
    clear hb1
    go_wp2_with fail
    go_ret2
    exact HE.out _ hb

theorem refValid_any (N L : Int) (a : Option Addr) (l : List Chg) (ca : Nat) (w : World) (hA : QuadS w a l) :
    Calls Try.prog 26 #[.agg #[.int .i64 N, .int .i64 L, .slice a l.length ca]] w fun e w' => e = .returned (.bool (roadB N L l)) ∧ Below w.heap.size w w' := by
  have HLn : Hid (∀ W, Below w.heap.size w W → Calls Try.prog 51 #[.agg #[.int .i64 N, .int .i64 L, .slice a l.length ca]] W fun e w' => (∃ b n c, e = .returned (.tuple #[.slice b n c, .bool (roadB N L l)])) ∧ Below W.heap.size W w') := Lib.hid fun W hW => (lengths_any N L a l ca W (hA.below hW)).mono fun e w' h => by
    rcases h with ⟨h, b, c, he, _, hb⟩ | ⟨h, he, hb⟩
    · exact ⟨⟨b, _, c, by rw [he, roadB_t h]⟩, hb⟩
    · exact ⟨⟨none, 0, 0, by rw [he, roadB_f h]⟩, hb⟩
  generalize roadB N L l = RB at *
  clear hA
  go_enter Try.func26, Try.ntmps26
  go_wp2_with fail
  obtain ⟨wB, hwB⟩ : ∃ wB, w.alloc (.cells #[.int .i64 N, .int .i64 L, .slice a l.length ca] 24) = wB := ⟨_, rfl⟩
  have hB := RdBox.start w N L a l ca 24
  rw [hwB] at hB ⊢
  clear hwB
  have HB := Lib.hid hB
  obtain ⟨hb, p0, p1, p2⟩ := hB
  refine (HLn.out _ hb).mono ?_
  rintro e w1 ⟨⟨b, n, c, rfl⟩, hb1⟩
  have HB := Lib.hid (HB.out.on hb1)
  obtain ⟨hb, p0, p1, p2⟩ := HB.out
  clear hb1
  go_wp2_with fail
  go_ret
  exact ⟨rfl, hb⟩

theorem err_two (N L : Int) (l : List Chg) (v : Int) : errL N L l [v, v] = errL N L l [v] := by
  unfold errL; rw [win1, win2, Bool.and_self]
end Go.Proofs.Ytdiabpcpcilclaa
