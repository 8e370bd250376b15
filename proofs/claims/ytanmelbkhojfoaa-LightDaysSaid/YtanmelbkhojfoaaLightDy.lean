/-
  What the law LightDays wants of Value and Due. By an AI agent.
-/
import Derived.Test.YtanmelbkhojfoaaLightVD
namespace Go.Proofs.Ytanmelbkhojfoaa
set_option linter.unusedVariables false
set_option linter.unusedSimpArgs false
open Go.RowKit

theorem days_mono {l : List (Int × Int)} (h : MesOk l) : ∀ n i, i + n < l.length → (gp l i).1 ≤ (gp l (i + n)).1
  | 0, i, _ => Int.le_refl _
  | n + 1, i, hn => by
    have ih := days_mono h n i (by omega)
    have := (h.2.2 (i + n + 1) (by omega)).1
    rw [meE] at this
    rw [← Nat.add_assoc]; omega
theorem lastIx_last {l : List (Int × Int)} {m : Nat} (hm : l.length = m + 1) {D : Int} (h : (gp l m).1 ≤ D) : lastIx l D l.length = m := by rw [hm, lastIx, if_pos h]
/-- Value on a day from the last measure on. -/
theorem value_last (z0 z1 z2 z3 : Int) (s : Nat) (a : Option Addr) (l : List (Int × Int)) (cap : Nat) (m : Nat) (hm : l.length = m + 1) (hcap : l.length ≤ cap) (hb : hisB z0 z1 z2 z3 s l = true) (D : Int) (q : Nat) (h1 : (gp l m).1 ≤ D) (h2 : D ≤ 100000) (hq : (D - (gp l m).1) / 365 = (q : Int)) (w : World) (hP : PairsS w a l) :
    Calls Try.prog 41 #[.agg #[.int .i64 z0, .int .i64 z1, .int .i64 z2, .int .i64 z3], .int .i64 s, .slice a l.length cap, .int .i64 D] w fun e w' => e = .returned (.tuple #[.int .i64 (agV (gp l m).2 (keepOf z0 z1 z2 z3 s) q), .int .i64 0]) ∧ Below w.heap.size w w' := by
  have hM := (hisB_iff.1 hb).2.2.2.2.2
  have h0 := days_mono hM m 0 (by omega)
  rw [Nat.zero_add] at h0
  have hd := (mes_day hM (show 0 < l.length by omega)).1
  have hv : valB z0 z1 z2 z3 s l D = true := by unfold valB; rw [hb, btw_t (by omega) h2]; rfl
  have := Value_any z0 z1 z2 z3 s D a l cap w hP hcap (by unfold I64; omega)
  have e1 : valV z0 z1 z2 z3 s l D = agV (gp l m).2 (keepOf z0 z1 z2 z3 s) q := by unfold valV; rw [if_pos hv, lastIx_last hm h1, hq, Int.toNat_natCast]
  have e2 : valE z0 z1 z2 z3 s l D = 0 := by unfold valE; rw [if_pos hv]
  rwa [e1, e2] at this
theorem due_some_any (z0 z1 z2 z3 least : Int) (s : Nat) (a : Option Addr) (l : List (Int × Int)) (cap : Nat) (m : Nat) (hm : l.length = m + 1) (hb : hisB z0 z1 z2 z3 s l = true) (hl : btw least 0 100000 = true) (y : Nat) (hy : dueIx (gp l m).2 (keepOf z0 z1 z2 z3 s) least (dueN (gp l m).1) = some y) (dv : Int) (hdv : dv = (gp l m).1 + y * 365) (w : World) (hP : PairsS w a l) :
    Calls Try.prog 43 #[.agg #[.int .i64 z0, .int .i64 z1, .int .i64 z2, .int .i64 z3], .int .i64 s, .slice a l.length cap, .int .i64 least] w fun e w' => e = .returned (.tuple #[.int .i64 dv, .bool true, .int .i64 0]) ∧ Below w.heap.size w w' := by
  obtain ⟨l0, l1⟩ := (btw_iff _ _ _).1 hl
  refine (due_any z0 z1 z2 z3 s least a l cap w hP (by unfold I64; omega)).mono fun e w' h => ⟨?_, h.2⟩
  have hD : dueB z0 z1 z2 z3 s l least = true := by unfold dueB; rw [hb, hl]; rfl
  have hm1 : l.length - 1 = m := by omega
  have g := due_some (v := dv) hD (by rw [hm1]; exact hy) (by rw [hm1]; exact hdv)
  have h1 := h.1
  unfold DueEnd at h1 g
  rw [h1, ← g]
theorem due_none_any (z0 z1 z2 z3 least : Int) (s : Nat) (a : Option Addr) (l : List (Int × Int)) (cap : Nat) (m : Nat) (hm : l.length = m + 1) (hb : hisB z0 z1 z2 z3 s l = true) (hl : btw least 0 100000 = true) (hy : dueIx (gp l m).2 (keepOf z0 z1 z2 z3 s) least (dueN (gp l m).1) = none) (w : World) (hP : PairsS w a l) :
    Calls Try.prog 43 #[.agg #[.int .i64 z0, .int .i64 z1, .int .i64 z2, .int .i64 z3], .int .i64 s, .slice a l.length cap, .int .i64 least] w fun e w' => e = .returned (.tuple #[.int .i64 0, .bool false, .int .i64 0]) ∧ Below w.heap.size w w' := by
  obtain ⟨l0, l1⟩ := (btw_iff _ _ _).1 hl
  refine (due_any z0 z1 z2 z3 s least a l cap w hP (by unfold I64; omega)).mono fun e w' h => ⟨?_, h.2⟩
  have hD : dueB z0 z1 z2 z3 s l least = true := by unfold dueB; rw [hb, hl]; rfl
  have hm1 : l.length - 1 = m := by omega
  have g := due_none hD (by rw [hm1]; exact hy)
  have h1 := h.1
  unfold DueEnd at h1 g
  rw [h1, ← g]
end Go.Proofs.Ytanmelbkhojfoaa
