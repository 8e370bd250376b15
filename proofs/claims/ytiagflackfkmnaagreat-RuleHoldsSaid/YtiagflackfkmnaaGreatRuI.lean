/-
  Edicts in memory; edictValid of package rule. By an AI agent.
-/
import Derived.Test.YtiagflackfkmnaaGreatRuG
import Derived.Deep.RegionHeld3
import Derived.BigQuiet
namespace Go.Proofs.YtiagflackfkmnaaGreat
set_option linter.unusedVariables false
set_option linter.unusedSimpArgs false
open Go.RowKit

/-- An edict. -/
structure Edc where
  n : Int
  tp : Int
  v : Int
  d : Int
  fr : Int
  tt : Int
  st : Int
  en : Int
def ge (l : List Edc) (i : Nat) : Edc := l.getD i ⟨0, 0, 0, 0, 0, 0, 0, 0⟩
/-- A slice of edicts. -/
def EdS (w : World) (a : Option Addr) (l : List Edc) : Prop :=
  l.length ≤ 9223372036854775807 ∧ ∃ (blk off : Nat), (l ≠ [] → a = some ⟨blk, off, none⟩) ∧ ∀ i, i < l.length → (w.cell? ⟨blk, off + i * 8, none⟩ = some (.int .i64 (ge l i).n) ∧ w.cell? ⟨blk, off + i * 8 + 1, none⟩ = some (.int .i64 (ge l i).tp) ∧ w.cell? ⟨blk, off + i * 8 + 2, none⟩ = some (.int .i64 (ge l i).v) ∧ w.cell? ⟨blk, off + i * 8 + 3, none⟩ = some (.int .i64 (ge l i).d) ∧ w.cell? ⟨blk, off + i * 8 + 4, none⟩ = some (.int .i64 (ge l i).fr) ∧ w.cell? ⟨blk, off + i * 8 + 5, none⟩ = some (.int .i64 (ge l i).tt) ∧ w.cell? ⟨blk, off + i * 8 + 6, none⟩ = some (.int .i64 (ge l i).st) ∧ w.cell? ⟨blk, off + i * 8 + 7, none⟩ = some (.int .i64 (ge l i).en))
theorem EdS.below {w w' : World} {a : Option Addr} {l : List Edc} (h : EdS w a l) (hb : Below w.heap.size w w') : EdS w' a l := by
  obtain ⟨h0, blk, off, h2, h3⟩ := h
  exact ⟨h0, blk, off, h2, fun i hi => by
    obtain ⟨c0, c1, c2, c3, c4, c5, c6, c7⟩ := h3 i hi
    exact ⟨cell_below c0 hb, cell_below c1 hb, cell_below c2 hb, cell_below c3 hb, cell_below c4 hb, cell_below c5 hb, cell_below c6 hb, cell_below c7 hb⟩⟩
/-- May a topic have a value? -/
def edV (tp v : Int) : Bool := (tp == 1 && btw v 10 200) || (tp == 2 && v == 1)
/-- Is an edict valid, its number aside? -/
def edcB (L : Int) (s : Edc) : Bool := edV s.tp s.v && dirB s.d && decide (0 ≤ s.fr) && decide (s.fr < s.tt) && decide (s.tt ≤ L) && timeB s.st s.en
set_option maxRecDepth 100000 in
set_option maxHeartbeats 2000000 in
theorem edictValid_r (L : Int) (a : Option Addr) (js : List Int) (ca : Nat) (s : Edc) (w : World) :
    Calls Tryz.prog 116 #[.agg #[.int .i64 L, .slice a js.length ca], .agg #[.int .i64 s.n, .int .i64 s.tp, .int .i64 s.v, .int .i64 s.d, .int .i64 s.fr, .int .i64 s.tt, .int .i64 s.st, .int .i64 s.en]] w fun e w' => e = .returned (.bool (edcB L s)) ∧ Below w.heap.size w w' := by
  obtain ⟨n, tp, v, d, fr, tt, st, en⟩ := s
  simp only []
  have H1 := Lib.hid (fun W => within_r 10 200 v W)
  have H2 := Lib.hid (fun W => isDir_r d W)
  have H4 := Lib.hid (fun W => isTime_r st en W)
  by_cases h1 : tp = 1
  · subst h1
    cases g0 : btw v 10 200 with
    | true =>
      rw [g0] at H1
      have gv : edV 1 v = true := by unfold edV; rw [g0]; rfl
      cases g1 : dirB d with
      | false =>
        rw [g1] at H2
        have HR : Hid (edcB L ⟨n, 1, v, d, fr, tt, st, en⟩ = false) := Lib.hid (by unfold edcB; simp only []; rw [gv, g1]; simp)
        clear g0 gv g1
        go_enter Tryz.func116, Tryz.ntmps116
        go_wp2_with fail
        obtain ⟨wB, hwB⟩ : ∃ wB, (w.alloc (.cells #[.int .i64 L, .slice a js.length ca] 24)).alloc (.cells #[.int .i64 n, .int .i64 1, .int .i64 v, .int .i64 d, .int .i64 fr, .int .i64 tt, .int .i64 st, .int .i64 en] 94) = wB := ⟨_, rfl⟩
        have hb : Below w.heap.size w wB := by rw [← hwB]; exact ((Below.refl _ _).alloc (Nat.le_refl _) _).alloc (by simp) _
        have p0 : wB.cell? ⟨w.heap.size, 0, none⟩ = some (.int .i64 L) := by rw [← hwB]; simp [go_sem]
        have q1 : wB.cell? ⟨w.heap.size + 1, 1, none⟩ = some (.int .i64 1) := by rw [← hwB]; simp [go_sem]
        have q2 : wB.cell? ⟨w.heap.size + 1, 2, none⟩ = some (.int .i64 v) := by rw [← hwB]; simp [go_sem]
        have q3 : wB.cell? ⟨w.heap.size + 1, 3, none⟩ = some (.int .i64 d) := by rw [← hwB]; simp [go_sem]
        have q4 : wB.cell? ⟨w.heap.size + 1, 4, none⟩ = some (.int .i64 fr) := by rw [← hwB]; simp [go_sem]
        have q5 : wB.cell? ⟨w.heap.size + 1, 5, none⟩ = some (.int .i64 tt) := by rw [← hwB]; simp [go_sem]
        have q6 : wB.cell? ⟨w.heap.size + 1, 6, none⟩ = some (.int .i64 st) := by rw [← hwB]; simp [go_sem]
        have q7 : wB.cell? ⟨w.heap.size + 1, 7, none⟩ = some (.int .i64 en) := by rw [← hwB]; simp [go_sem]
        rw [hwB]
        clear hwB
        go_wp2_with (first | (go_at_call 79; refine (H1.out _).mono ?_; rintro e w7 ⟨rfl, rfl⟩) | (go_at_call 46; refine (H2.out _).mono ?_; rintro e w7 ⟨rfl, rfl⟩) | (go_at_call 140; refine (H4.out _).mono ?_; rintro e w7 ⟨rfl, rfl⟩))
        go_ret
        exact ⟨by rw [HR.out]; rfl, hb⟩
      | true =>
        rw [g1] at H2
        by_cases f0 : 0 ≤ fr
        · by_cases f1 : fr < tt
          · by_cases f2 : tt ≤ L
            · have HT : Hid (∀ z, timeB st en = z → edcB L ⟨n, 1, v, d, fr, tt, st, en⟩ = z) := Lib.hid (fun z hz => by unfold edcB; simp only []; rw [gv, g1, decide_eq_true f0, decide_eq_true f1, decide_eq_true f2, hz]; simp)
              have HR := Lib.hid (HT.out _ rfl)
              clear HT g0 gv g1
              generalize timeB st en = B at *
              go_enter Tryz.func116, Tryz.ntmps116
              go_wp2_with fail
              obtain ⟨wB, hwB⟩ : ∃ wB, (w.alloc (.cells #[.int .i64 L, .slice a js.length ca] 24)).alloc (.cells #[.int .i64 n, .int .i64 1, .int .i64 v, .int .i64 d, .int .i64 fr, .int .i64 tt, .int .i64 st, .int .i64 en] 94) = wB := ⟨_, rfl⟩
              have hb : Below w.heap.size w wB := by rw [← hwB]; exact ((Below.refl _ _).alloc (Nat.le_refl _) _).alloc (by simp) _
              have p0 : wB.cell? ⟨w.heap.size, 0, none⟩ = some (.int .i64 L) := by rw [← hwB]; simp [go_sem]
              have q1 : wB.cell? ⟨w.heap.size + 1, 1, none⟩ = some (.int .i64 1) := by rw [← hwB]; simp [go_sem]
              have q2 : wB.cell? ⟨w.heap.size + 1, 2, none⟩ = some (.int .i64 v) := by rw [← hwB]; simp [go_sem]
              have q3 : wB.cell? ⟨w.heap.size + 1, 3, none⟩ = some (.int .i64 d) := by rw [← hwB]; simp [go_sem]
              have q4 : wB.cell? ⟨w.heap.size + 1, 4, none⟩ = some (.int .i64 fr) := by rw [← hwB]; simp [go_sem]
              have q5 : wB.cell? ⟨w.heap.size + 1, 5, none⟩ = some (.int .i64 tt) := by rw [← hwB]; simp [go_sem]
              have q6 : wB.cell? ⟨w.heap.size + 1, 6, none⟩ = some (.int .i64 st) := by rw [← hwB]; simp [go_sem]
              have q7 : wB.cell? ⟨w.heap.size + 1, 7, none⟩ = some (.int .i64 en) := by rw [← hwB]; simp [go_sem]
              rw [hwB]
              clear hwB
              go_wp2_with (first | (go_at_call 79; refine (H1.out _).mono ?_; rintro e w7 ⟨rfl, rfl⟩) | (go_at_call 46; refine (H2.out _).mono ?_; rintro e w7 ⟨rfl, rfl⟩) | (go_at_call 140; refine (H4.out _).mono ?_; rintro e w7 ⟨rfl, rfl⟩))
              go_ret
              exact ⟨by rw [HR.out]; cases B <;> rfl, hb⟩
            · have HR : Hid (edcB L ⟨n, 1, v, d, fr, tt, st, en⟩ = false) := Lib.hid (by unfold edcB; simp only []; rw [gv, g1, decide_eq_true f0, decide_eq_true f1, decide_eq_false f2]; simp)
              clear g0 gv g1
              go_enter Tryz.func116, Tryz.ntmps116
              go_wp2_with fail
              obtain ⟨wB, hwB⟩ : ∃ wB, (w.alloc (.cells #[.int .i64 L, .slice a js.length ca] 24)).alloc (.cells #[.int .i64 n, .int .i64 1, .int .i64 v, .int .i64 d, .int .i64 fr, .int .i64 tt, .int .i64 st, .int .i64 en] 94) = wB := ⟨_, rfl⟩
              have hb : Below w.heap.size w wB := by rw [← hwB]; exact ((Below.refl _ _).alloc (Nat.le_refl _) _).alloc (by simp) _
              have p0 : wB.cell? ⟨w.heap.size, 0, none⟩ = some (.int .i64 L) := by rw [← hwB]; simp [go_sem]
              have q1 : wB.cell? ⟨w.heap.size + 1, 1, none⟩ = some (.int .i64 1) := by rw [← hwB]; simp [go_sem]
              have q2 : wB.cell? ⟨w.heap.size + 1, 2, none⟩ = some (.int .i64 v) := by rw [← hwB]; simp [go_sem]
              have q3 : wB.cell? ⟨w.heap.size + 1, 3, none⟩ = some (.int .i64 d) := by rw [← hwB]; simp [go_sem]
              have q4 : wB.cell? ⟨w.heap.size + 1, 4, none⟩ = some (.int .i64 fr) := by rw [← hwB]; simp [go_sem]
              have q5 : wB.cell? ⟨w.heap.size + 1, 5, none⟩ = some (.int .i64 tt) := by rw [← hwB]; simp [go_sem]
              have q6 : wB.cell? ⟨w.heap.size + 1, 6, none⟩ = some (.int .i64 st) := by rw [← hwB]; simp [go_sem]
              have q7 : wB.cell? ⟨w.heap.size + 1, 7, none⟩ = some (.int .i64 en) := by rw [← hwB]; simp [go_sem]
              rw [hwB]
              clear hwB
              go_wp2_with (first | (go_at_call 79; refine (H1.out _).mono ?_; rintro e w7 ⟨rfl, rfl⟩) | (go_at_call 46; refine (H2.out _).mono ?_; rintro e w7 ⟨rfl, rfl⟩) | (go_at_call 140; refine (H4.out _).mono ?_; rintro e w7 ⟨rfl, rfl⟩))
              go_ret
              exact ⟨by rw [HR.out]; rfl, hb⟩
          · have HR : Hid (edcB L ⟨n, 1, v, d, fr, tt, st, en⟩ = false) := Lib.hid (by unfold edcB; simp only []; rw [gv, g1, decide_eq_true f0, decide_eq_false f1]; simp)
            clear g0 gv g1
            go_enter Tryz.func116, Tryz.ntmps116
            go_wp2_with fail
            obtain ⟨wB, hwB⟩ : ∃ wB, (w.alloc (.cells #[.int .i64 L, .slice a js.length ca] 24)).alloc (.cells #[.int .i64 n, .int .i64 1, .int .i64 v, .int .i64 d, .int .i64 fr, .int .i64 tt, .int .i64 st, .int .i64 en] 94) = wB := ⟨_, rfl⟩
            have hb : Below w.heap.size w wB := by rw [← hwB]; exact ((Below.refl _ _).alloc (Nat.le_refl _) _).alloc (by simp) _
            have p0 : wB.cell? ⟨w.heap.size, 0, none⟩ = some (.int .i64 L) := by rw [← hwB]; simp [go_sem]
            have q1 : wB.cell? ⟨w.heap.size + 1, 1, none⟩ = some (.int .i64 1) := by rw [← hwB]; simp [go_sem]
            have q2 : wB.cell? ⟨w.heap.size + 1, 2, none⟩ = some (.int .i64 v) := by rw [← hwB]; simp [go_sem]
            have q3 : wB.cell? ⟨w.heap.size + 1, 3, none⟩ = some (.int .i64 d) := by rw [← hwB]; simp [go_sem]
            have q4 : wB.cell? ⟨w.heap.size + 1, 4, none⟩ = some (.int .i64 fr) := by rw [← hwB]; simp [go_sem]
            have q5 : wB.cell? ⟨w.heap.size + 1, 5, none⟩ = some (.int .i64 tt) := by rw [← hwB]; simp [go_sem]
            have q6 : wB.cell? ⟨w.heap.size + 1, 6, none⟩ = some (.int .i64 st) := by rw [← hwB]; simp [go_sem]
            have q7 : wB.cell? ⟨w.heap.size + 1, 7, none⟩ = some (.int .i64 en) := by rw [← hwB]; simp [go_sem]
            rw [hwB]
            clear hwB
            go_wp2_with (first | (go_at_call 79; refine (H1.out _).mono ?_; rintro e w7 ⟨rfl, rfl⟩) | (go_at_call 46; refine (H2.out _).mono ?_; rintro e w7 ⟨rfl, rfl⟩) | (go_at_call 140; refine (H4.out _).mono ?_; rintro e w7 ⟨rfl, rfl⟩))
            go_ret
            exact ⟨by rw [HR.out]; rfl, hb⟩
        · have HR : Hid (edcB L ⟨n, 1, v, d, fr, tt, st, en⟩ = false) := Lib.hid (by unfold edcB; simp only []; rw [gv, g1, decide_eq_false f0]; simp)
          clear g0 gv g1
          go_enter Tryz.func116, Tryz.ntmps116
          go_wp2_with fail
          obtain ⟨wB, hwB⟩ : ∃ wB, (w.alloc (.cells #[.int .i64 L, .slice a js.length ca] 24)).alloc (.cells #[.int .i64 n, .int .i64 1, .int .i64 v, .int .i64 d, .int .i64 fr, .int .i64 tt, .int .i64 st, .int .i64 en] 94) = wB := ⟨_, rfl⟩
          have hb : Below w.heap.size w wB := by rw [← hwB]; exact ((Below.refl _ _).alloc (Nat.le_refl _) _).alloc (by simp) _
          have p0 : wB.cell? ⟨w.heap.size, 0, none⟩ = some (.int .i64 L) := by rw [← hwB]; simp [go_sem]
          have q1 : wB.cell? ⟨w.heap.size + 1, 1, none⟩ = some (.int .i64 1) := by rw [← hwB]; simp [go_sem]
          have q2 : wB.cell? ⟨w.heap.size + 1, 2, none⟩ = some (.int .i64 v) := by rw [← hwB]; simp [go_sem]
          have q3 : wB.cell? ⟨w.heap.size + 1, 3, none⟩ = some (.int .i64 d) := by rw [← hwB]; simp [go_sem]
          have q4 : wB.cell? ⟨w.heap.size + 1, 4, none⟩ = some (.int .i64 fr) := by rw [← hwB]; simp [go_sem]
          have q5 : wB.cell? ⟨w.heap.size + 1, 5, none⟩ = some (.int .i64 tt) := by rw [← hwB]; simp [go_sem]
          have q6 : wB.cell? ⟨w.heap.size + 1, 6, none⟩ = some (.int .i64 st) := by rw [← hwB]; simp [go_sem]
          have q7 : wB.cell? ⟨w.heap.size + 1, 7, none⟩ = some (.int .i64 en) := by rw [← hwB]; simp [go_sem]
          rw [hwB]
          clear hwB
          go_wp2_with (first | (go_at_call 79; refine (H1.out _).mono ?_; rintro e w7 ⟨rfl, rfl⟩) | (go_at_call 46; refine (H2.out _).mono ?_; rintro e w7 ⟨rfl, rfl⟩) | (go_at_call 140; refine (H4.out _).mono ?_; rintro e w7 ⟨rfl, rfl⟩))
          go_ret
          exact ⟨by rw [HR.out]; rfl, hb⟩

    | false =>
      rw [g0] at H1
      have gv : edV 1 v = false := by unfold edV; rw [g0]; rfl
      have HR : Hid (edcB L ⟨n, 1, v, d, fr, tt, st, en⟩ = false) := Lib.hid (by unfold edcB; simp only []; rw [gv]; simp)
      clear g0 gv
      go_enter Tryz.func116, Tryz.ntmps116
      go_wp2_with fail
      obtain ⟨wB, hwB⟩ : ∃ wB, (w.alloc (.cells #[.int .i64 L, .slice a js.length ca] 24)).alloc (.cells #[.int .i64 n, .int .i64 1, .int .i64 v, .int .i64 d, .int .i64 fr, .int .i64 tt, .int .i64 st, .int .i64 en] 94) = wB := ⟨_, rfl⟩
      have hb : Below w.heap.size w wB := by rw [← hwB]; exact ((Below.refl _ _).alloc (Nat.le_refl _) _).alloc (by simp) _
      have p0 : wB.cell? ⟨w.heap.size, 0, none⟩ = some (.int .i64 L) := by rw [← hwB]; simp [go_sem]
      have q1 : wB.cell? ⟨w.heap.size + 1, 1, none⟩ = some (.int .i64 1) := by rw [← hwB]; simp [go_sem]
      have q2 : wB.cell? ⟨w.heap.size + 1, 2, none⟩ = some (.int .i64 v) := by rw [← hwB]; simp [go_sem]
      have q3 : wB.cell? ⟨w.heap.size + 1, 3, none⟩ = some (.int .i64 d) := by rw [← hwB]; simp [go_sem]
      have q4 : wB.cell? ⟨w.heap.size + 1, 4, none⟩ = some (.int .i64 fr) := by rw [← hwB]; simp [go_sem]
      have q5 : wB.cell? ⟨w.heap.size + 1, 5, none⟩ = some (.int .i64 tt) := by rw [← hwB]; simp [go_sem]
      have q6 : wB.cell? ⟨w.heap.size + 1, 6, none⟩ = some (.int .i64 st) := by rw [← hwB]; simp [go_sem]
      have q7 : wB.cell? ⟨w.heap.size + 1, 7, none⟩ = some (.int .i64 en) := by rw [← hwB]; simp [go_sem]
      rw [hwB]
      clear hwB
      go_wp2_with (first | (go_at_call 79; refine (H1.out _).mono ?_; rintro e w7 ⟨rfl, rfl⟩) | (go_at_call 46; refine (H2.out _).mono ?_; rintro e w7 ⟨rfl, rfl⟩) | (go_at_call 140; refine (H4.out _).mono ?_; rintro e w7 ⟨rfl, rfl⟩))
      go_ret
      exact ⟨by rw [HR.out]; rfl, hb⟩
  · by_cases h2 : tp = 2
    · subst h2
      by_cases h3 : v = 1
      · subst h3
        have gv : edV 2 1 = true := by decide
        cases g1 : dirB d with
        | false =>
          rw [g1] at H2
          have HR : Hid (edcB L ⟨n, 2, 1, d, fr, tt, st, en⟩ = false) := Lib.hid (by unfold edcB; simp only []; rw [gv, g1]; simp)
          clear gv g1
          go_enter Tryz.func116, Tryz.ntmps116
          go_wp2_with fail
          obtain ⟨wB, hwB⟩ : ∃ wB, (w.alloc (.cells #[.int .i64 L, .slice a js.length ca] 24)).alloc (.cells #[.int .i64 n, .int .i64 2, .int .i64 1, .int .i64 d, .int .i64 fr, .int .i64 tt, .int .i64 st, .int .i64 en] 94) = wB := ⟨_, rfl⟩
          have hb : Below w.heap.size w wB := by rw [← hwB]; exact ((Below.refl _ _).alloc (Nat.le_refl _) _).alloc (by simp) _
          have p0 : wB.cell? ⟨w.heap.size, 0, none⟩ = some (.int .i64 L) := by rw [← hwB]; simp [go_sem]
          have q1 : wB.cell? ⟨w.heap.size + 1, 1, none⟩ = some (.int .i64 2) := by rw [← hwB]; simp [go_sem]
          have q2 : wB.cell? ⟨w.heap.size + 1, 2, none⟩ = some (.int .i64 1) := by rw [← hwB]; simp [go_sem]
          have q3 : wB.cell? ⟨w.heap.size + 1, 3, none⟩ = some (.int .i64 d) := by rw [← hwB]; simp [go_sem]
          have q4 : wB.cell? ⟨w.heap.size + 1, 4, none⟩ = some (.int .i64 fr) := by rw [← hwB]; simp [go_sem]
          have q5 : wB.cell? ⟨w.heap.size + 1, 5, none⟩ = some (.int .i64 tt) := by rw [← hwB]; simp [go_sem]
          have q6 : wB.cell? ⟨w.heap.size + 1, 6, none⟩ = some (.int .i64 st) := by rw [← hwB]; simp [go_sem]
          have q7 : wB.cell? ⟨w.heap.size + 1, 7, none⟩ = some (.int .i64 en) := by rw [← hwB]; simp [go_sem]
          rw [hwB]
          clear hwB
          go_wp2_with (first | (go_at_call 79; refine (H1.out _).mono ?_; rintro e w7 ⟨rfl, rfl⟩) | (go_at_call 46; refine (H2.out _).mono ?_; rintro e w7 ⟨rfl, rfl⟩) | (go_at_call 140; refine (H4.out _).mono ?_; rintro e w7 ⟨rfl, rfl⟩))
          go_ret
          exact ⟨by rw [HR.out]; rfl, hb⟩
        | true =>
          rw [g1] at H2
          by_cases f0 : 0 ≤ fr
          · by_cases f1 : fr < tt
            · by_cases f2 : tt ≤ L
              · have HT : Hid (∀ z, timeB st en = z → edcB L ⟨n, 2, 1, d, fr, tt, st, en⟩ = z) := Lib.hid (fun z hz => by unfold edcB; simp only []; rw [gv, g1, decide_eq_true f0, decide_eq_true f1, decide_eq_true f2, hz]; simp)
                have HR := Lib.hid (HT.out _ rfl)
                clear HT gv g1
                generalize timeB st en = B at *
                go_enter Tryz.func116, Tryz.ntmps116
                go_wp2_with fail
                obtain ⟨wB, hwB⟩ : ∃ wB, (w.alloc (.cells #[.int .i64 L, .slice a js.length ca] 24)).alloc (.cells #[.int .i64 n, .int .i64 2, .int .i64 1, .int .i64 d, .int .i64 fr, .int .i64 tt, .int .i64 st, .int .i64 en] 94) = wB := ⟨_, rfl⟩
                have hb : Below w.heap.size w wB := by rw [← hwB]; exact ((Below.refl _ _).alloc (Nat.le_refl _) _).alloc (by simp) _
                have p0 : wB.cell? ⟨w.heap.size, 0, none⟩ = some (.int .i64 L) := by rw [← hwB]; simp [go_sem]
                have q1 : wB.cell? ⟨w.heap.size + 1, 1, none⟩ = some (.int .i64 2) := by rw [← hwB]; simp [go_sem]
                have q2 : wB.cell? ⟨w.heap.size + 1, 2, none⟩ = some (.int .i64 1) := by rw [← hwB]; simp [go_sem]
                have q3 : wB.cell? ⟨w.heap.size + 1, 3, none⟩ = some (.int .i64 d) := by rw [← hwB]; simp [go_sem]
                have q4 : wB.cell? ⟨w.heap.size + 1, 4, none⟩ = some (.int .i64 fr) := by rw [← hwB]; simp [go_sem]
                have q5 : wB.cell? ⟨w.heap.size + 1, 5, none⟩ = some (.int .i64 tt) := by rw [← hwB]; simp [go_sem]
                have q6 : wB.cell? ⟨w.heap.size + 1, 6, none⟩ = some (.int .i64 st) := by rw [← hwB]; simp [go_sem]
                have q7 : wB.cell? ⟨w.heap.size + 1, 7, none⟩ = some (.int .i64 en) := by rw [← hwB]; simp [go_sem]
                rw [hwB]
                clear hwB
                go_wp2_with (first | (go_at_call 79; refine (H1.out _).mono ?_; rintro e w7 ⟨rfl, rfl⟩) | (go_at_call 46; refine (H2.out _).mono ?_; rintro e w7 ⟨rfl, rfl⟩) | (go_at_call 140; refine (H4.out _).mono ?_; rintro e w7 ⟨rfl, rfl⟩))
                go_ret
                exact ⟨by rw [HR.out]; cases B <;> rfl, hb⟩
              · have HR : Hid (edcB L ⟨n, 2, 1, d, fr, tt, st, en⟩ = false) := Lib.hid (by unfold edcB; simp only []; rw [gv, g1, decide_eq_true f0, decide_eq_true f1, decide_eq_false f2]; simp)
                clear gv g1
                go_enter Tryz.func116, Tryz.ntmps116
                go_wp2_with fail
                obtain ⟨wB, hwB⟩ : ∃ wB, (w.alloc (.cells #[.int .i64 L, .slice a js.length ca] 24)).alloc (.cells #[.int .i64 n, .int .i64 2, .int .i64 1, .int .i64 d, .int .i64 fr, .int .i64 tt, .int .i64 st, .int .i64 en] 94) = wB := ⟨_, rfl⟩
                have hb : Below w.heap.size w wB := by rw [← hwB]; exact ((Below.refl _ _).alloc (Nat.le_refl _) _).alloc (by simp) _
                have p0 : wB.cell? ⟨w.heap.size, 0, none⟩ = some (.int .i64 L) := by rw [← hwB]; simp [go_sem]
                have q1 : wB.cell? ⟨w.heap.size + 1, 1, none⟩ = some (.int .i64 2) := by rw [← hwB]; simp [go_sem]
                have q2 : wB.cell? ⟨w.heap.size + 1, 2, none⟩ = some (.int .i64 1) := by rw [← hwB]; simp [go_sem]
                have q3 : wB.cell? ⟨w.heap.size + 1, 3, none⟩ = some (.int .i64 d) := by rw [← hwB]; simp [go_sem]
                have q4 : wB.cell? ⟨w.heap.size + 1, 4, none⟩ = some (.int .i64 fr) := by rw [← hwB]; simp [go_sem]
                have q5 : wB.cell? ⟨w.heap.size + 1, 5, none⟩ = some (.int .i64 tt) := by rw [← hwB]; simp [go_sem]
                have q6 : wB.cell? ⟨w.heap.size + 1, 6, none⟩ = some (.int .i64 st) := by rw [← hwB]; simp [go_sem]
                have q7 : wB.cell? ⟨w.heap.size + 1, 7, none⟩ = some (.int .i64 en) := by rw [← hwB]; simp [go_sem]
                rw [hwB]
                clear hwB
                go_wp2_with (first | (go_at_call 79; refine (H1.out _).mono ?_; rintro e w7 ⟨rfl, rfl⟩) | (go_at_call 46; refine (H2.out _).mono ?_; rintro e w7 ⟨rfl, rfl⟩) | (go_at_call 140; refine (H4.out _).mono ?_; rintro e w7 ⟨rfl, rfl⟩))
                go_ret
                exact ⟨by rw [HR.out]; rfl, hb⟩
            · have HR : Hid (edcB L ⟨n, 2, 1, d, fr, tt, st, en⟩ = false) := Lib.hid (by unfold edcB; simp only []; rw [gv, g1, decide_eq_true f0, decide_eq_false f1]; simp)
              clear gv g1
              go_enter Tryz.func116, Tryz.ntmps116
              go_wp2_with fail
              obtain ⟨wB, hwB⟩ : ∃ wB, (w.alloc (.cells #[.int .i64 L, .slice a js.length ca] 24)).alloc (.cells #[.int .i64 n, .int .i64 2, .int .i64 1, .int .i64 d, .int .i64 fr, .int .i64 tt, .int .i64 st, .int .i64 en] 94) = wB := ⟨_, rfl⟩
              have hb : Below w.heap.size w wB := by rw [← hwB]; exact ((Below.refl _ _).alloc (Nat.le_refl _) _).alloc (by simp) _
              have p0 : wB.cell? ⟨w.heap.size, 0, none⟩ = some (.int .i64 L) := by rw [← hwB]; simp [go_sem]
              have q1 : wB.cell? ⟨w.heap.size + 1, 1, none⟩ = some (.int .i64 2) := by rw [← hwB]; simp [go_sem]
              have q2 : wB.cell? ⟨w.heap.size + 1, 2, none⟩ = some (.int .i64 1) := by rw [← hwB]; simp [go_sem]
              have q3 : wB.cell? ⟨w.heap.size + 1, 3, none⟩ = some (.int .i64 d) := by rw [← hwB]; simp [go_sem]
              have q4 : wB.cell? ⟨w.heap.size + 1, 4, none⟩ = some (.int .i64 fr) := by rw [← hwB]; simp [go_sem]
              have q5 : wB.cell? ⟨w.heap.size + 1, 5, none⟩ = some (.int .i64 tt) := by rw [← hwB]; simp [go_sem]
              have q6 : wB.cell? ⟨w.heap.size + 1, 6, none⟩ = some (.int .i64 st) := by rw [← hwB]; simp [go_sem]
              have q7 : wB.cell? ⟨w.heap.size + 1, 7, none⟩ = some (.int .i64 en) := by rw [← hwB]; simp [go_sem]
              rw [hwB]
              clear hwB
              go_wp2_with (first | (go_at_call 79; refine (H1.out _).mono ?_; rintro e w7 ⟨rfl, rfl⟩) | (go_at_call 46; refine (H2.out _).mono ?_; rintro e w7 ⟨rfl, rfl⟩) | (go_at_call 140; refine (H4.out _).mono ?_; rintro e w7 ⟨rfl, rfl⟩))
              go_ret
              exact ⟨by rw [HR.out]; rfl, hb⟩
          · have HR : Hid (edcB L ⟨n, 2, 1, d, fr, tt, st, en⟩ = false) := Lib.hid (by unfold edcB; simp only []; rw [gv, g1, decide_eq_false f0]; simp)
            clear gv g1
            go_enter Tryz.func116, Tryz.ntmps116
            go_wp2_with fail
            obtain ⟨wB, hwB⟩ : ∃ wB, (w.alloc (.cells #[.int .i64 L, .slice a js.length ca] 24)).alloc (.cells #[.int .i64 n, .int .i64 2, .int .i64 1, .int .i64 d, .int .i64 fr, .int .i64 tt, .int .i64 st, .int .i64 en] 94) = wB := ⟨_, rfl⟩
            have hb : Below w.heap.size w wB := by rw [← hwB]; exact ((Below.refl _ _).alloc (Nat.le_refl _) _).alloc (by simp) _
            have p0 : wB.cell? ⟨w.heap.size, 0, none⟩ = some (.int .i64 L) := by rw [← hwB]; simp [go_sem]
            have q1 : wB.cell? ⟨w.heap.size + 1, 1, none⟩ = some (.int .i64 2) := by rw [← hwB]; simp [go_sem]
            have q2 : wB.cell? ⟨w.heap.size + 1, 2, none⟩ = some (.int .i64 1) := by rw [← hwB]; simp [go_sem]
            have q3 : wB.cell? ⟨w.heap.size + 1, 3, none⟩ = some (.int .i64 d) := by rw [← hwB]; simp [go_sem]
            have q4 : wB.cell? ⟨w.heap.size + 1, 4, none⟩ = some (.int .i64 fr) := by rw [← hwB]; simp [go_sem]
            have q5 : wB.cell? ⟨w.heap.size + 1, 5, none⟩ = some (.int .i64 tt) := by rw [← hwB]; simp [go_sem]
            have q6 : wB.cell? ⟨w.heap.size + 1, 6, none⟩ = some (.int .i64 st) := by rw [← hwB]; simp [go_sem]
            have q7 : wB.cell? ⟨w.heap.size + 1, 7, none⟩ = some (.int .i64 en) := by rw [← hwB]; simp [go_sem]
            rw [hwB]
            clear hwB
            go_wp2_with (first | (go_at_call 79; refine (H1.out _).mono ?_; rintro e w7 ⟨rfl, rfl⟩) | (go_at_call 46; refine (H2.out _).mono ?_; rintro e w7 ⟨rfl, rfl⟩) | (go_at_call 140; refine (H4.out _).mono ?_; rintro e w7 ⟨rfl, rfl⟩))
            go_ret
            exact ⟨by rw [HR.out]; rfl, hb⟩

      · have gv : edV 2 v = false := by unfold edV; simp [h3]
        have HR : Hid (edcB L ⟨n, 2, v, d, fr, tt, st, en⟩ = false) := Lib.hid (by unfold edcB; simp only []; rw [gv]; simp)
        clear gv
        go_enter Tryz.func116, Tryz.ntmps116
        go_wp2_with fail
        obtain ⟨wB, hwB⟩ : ∃ wB, (w.alloc (.cells #[.int .i64 L, .slice a js.length ca] 24)).alloc (.cells #[.int .i64 n, .int .i64 2, .int .i64 v, .int .i64 d, .int .i64 fr, .int .i64 tt, .int .i64 st, .int .i64 en] 94) = wB := ⟨_, rfl⟩
        have hb : Below w.heap.size w wB := by rw [← hwB]; exact ((Below.refl _ _).alloc (Nat.le_refl _) _).alloc (by simp) _
        have p0 : wB.cell? ⟨w.heap.size, 0, none⟩ = some (.int .i64 L) := by rw [← hwB]; simp [go_sem]
        have q1 : wB.cell? ⟨w.heap.size + 1, 1, none⟩ = some (.int .i64 2) := by rw [← hwB]; simp [go_sem]
        have q2 : wB.cell? ⟨w.heap.size + 1, 2, none⟩ = some (.int .i64 v) := by rw [← hwB]; simp [go_sem]
        have q3 : wB.cell? ⟨w.heap.size + 1, 3, none⟩ = some (.int .i64 d) := by rw [← hwB]; simp [go_sem]
        have q4 : wB.cell? ⟨w.heap.size + 1, 4, none⟩ = some (.int .i64 fr) := by rw [← hwB]; simp [go_sem]
        have q5 : wB.cell? ⟨w.heap.size + 1, 5, none⟩ = some (.int .i64 tt) := by rw [← hwB]; simp [go_sem]
        have q6 : wB.cell? ⟨w.heap.size + 1, 6, none⟩ = some (.int .i64 st) := by rw [← hwB]; simp [go_sem]
        have q7 : wB.cell? ⟨w.heap.size + 1, 7, none⟩ = some (.int .i64 en) := by rw [← hwB]; simp [go_sem]
        rw [hwB]
        clear hwB
        go_wp2_with (first | (go_at_call 79; refine (H1.out _).mono ?_; rintro e w7 ⟨rfl, rfl⟩) | (go_at_call 46; refine (H2.out _).mono ?_; rintro e w7 ⟨rfl, rfl⟩) | (go_at_call 140; refine (H4.out _).mono ?_; rintro e w7 ⟨rfl, rfl⟩))
        go_ret
        exact ⟨by rw [HR.out]; rfl, hb⟩
    · have gv : edV tp v = false := by unfold edV; simp [h1, h2]
      have HR : Hid (edcB L ⟨n, tp, v, d, fr, tt, st, en⟩ = false) := Lib.hid (by unfold edcB; simp only []; rw [gv]; simp)
      clear gv
      go_enter Tryz.func116, Tryz.ntmps116
      go_wp2_with fail
      obtain ⟨wB, hwB⟩ : ∃ wB, (w.alloc (.cells #[.int .i64 L, .slice a js.length ca] 24)).alloc (.cells #[.int .i64 n, .int .i64 tp, .int .i64 v, .int .i64 d, .int .i64 fr, .int .i64 tt, .int .i64 st, .int .i64 en] 94) = wB := ⟨_, rfl⟩
      have hb : Below w.heap.size w wB := by rw [← hwB]; exact ((Below.refl _ _).alloc (Nat.le_refl _) _).alloc (by simp) _
      have p0 : wB.cell? ⟨w.heap.size, 0, none⟩ = some (.int .i64 L) := by rw [← hwB]; simp [go_sem]
      have q1 : wB.cell? ⟨w.heap.size + 1, 1, none⟩ = some (.int .i64 tp) := by rw [← hwB]; simp [go_sem]
      have q2 : wB.cell? ⟨w.heap.size + 1, 2, none⟩ = some (.int .i64 v) := by rw [← hwB]; simp [go_sem]
      have q3 : wB.cell? ⟨w.heap.size + 1, 3, none⟩ = some (.int .i64 d) := by rw [← hwB]; simp [go_sem]
      have q4 : wB.cell? ⟨w.heap.size + 1, 4, none⟩ = some (.int .i64 fr) := by rw [← hwB]; simp [go_sem]
      have q5 : wB.cell? ⟨w.heap.size + 1, 5, none⟩ = some (.int .i64 tt) := by rw [← hwB]; simp [go_sem]
      have q6 : wB.cell? ⟨w.heap.size + 1, 6, none⟩ = some (.int .i64 st) := by rw [← hwB]; simp [go_sem]
      have q7 : wB.cell? ⟨w.heap.size + 1, 7, none⟩ = some (.int .i64 en) := by rw [← hwB]; simp [go_sem]
      rw [hwB]
      clear hwB
      go_wp2_with (first | (go_at_call 79; refine (H1.out _).mono ?_; rintro e w7 ⟨rfl, rfl⟩) | (go_at_call 46; refine (H2.out _).mono ?_; rintro e w7 ⟨rfl, rfl⟩) | (go_at_call 140; refine (H4.out _).mono ?_; rintro e w7 ⟨rfl, rfl⟩))
      go_ret
      exact ⟨by rw [HR.out]; rfl, hb⟩
end Go.Proofs.YtiagflackfkmnaaGreat
