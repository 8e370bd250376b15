/-
  Seams where it refuses; the law's sameInts; the walk of the law FaceSeams: it answers true. By an AI agent.
-/
import Derived.Test.YtgpobcfbafiaaabGreatDoorSeamsD
namespace Go.Proofs.YtgpobcfbafiaaabGreatDoor
open Go.RowKit

/-- A list of ints in memory. -/
def IntsAt (w : World) (v : Value) (l : List Int) : Prop := ∃ a cap, v = .slice a l.length cap ∧ (l ≠ [] → ∃ g, a = some ⟨g, 0, none⟩ ∧ ∀ j (h : j < l.length), w.cell? ⟨g, j, none⟩ = some (.int .i64 l[j]))
theorem ints_of {w : World} {base : Nat} {v : Value} {l : List Int} (h : w.ownsRow base 3 1 v l.length (l.map (Value.int .i64))) : IntsAt w v l := by
  rcases h.2 with ⟨rfl, h1⟩ | ⟨g, cap, cur, rfl, _⟩
  · have e : l = [] := by simpa using h1
    subst e
    exact ⟨none, 0, rfl, fun h => absurd rfl h⟩
  · refine ⟨some ⟨g, 0, none⟩, cap, rfl, fun _ => ⟨g, rfl, fun j hj => ?_⟩⟩
    rw [World.ownsRow.cellAt h j (by omega)]
    simp [hj]
theorem IntsAt.below {w w' : World} {v : Value} {l : List Int} (h : IntsAt w v l) (hb : Below w.heap.size w w') : IntsAt w' v l := by
  obtain ⟨a, cap, e, h1⟩ := h
  refine ⟨a, cap, e, fun hn => ?_⟩
  obtain ⟨g, hg, h2⟩ := h1 hn
  refine ⟨g, hg, fun j hj => ?_⟩
  have hl := block_lt (h2 j hj)
  exact (hb.cell (p := ⟨g, j, none⟩) hl).trans (h2 j hj)

theorem seamsGo_len (fb : Int → Bool) (w wd : Int) : ∀ (f : Nat) (a : Int) (acc l : List Int), seamsGo fb w wd f a acc = some l → l.length ≤ acc.length + f
  | 0, a, acc, l, h => by unfold seamsGo at h; cases h
  | f + 1, a, acc, l, h => by
    unfold seamsGo at h
    split at h
    · split at h
      · cases h
      · have := seamsGo_len fb w wd f _ _ l h
        simp at this
        omega
    · injection h with h; subst h; omega
theorem seams_len (fb : Int → Bool) (w wd : Int) (l : List Int) (hw : w ≤ 200) (h : seamsOf fb w wd = some l) : l.length ≤ 100000 := by
  have := seamsGo_len fb w wd _ _ _ l h
  simp at this
  omega

set_option maxRecDepth 100000 in
set_option maxHeartbeats 1000000 in
theorem seams_face (sh sz h wd : Int) (v : Value) (w : World)
    (HV : Hid (∀ W, Below w.heap.size w W → Calls Tryz.prog 30 #[.agg #[.int .i64 sh, .int .i64 sz, .int .i64 h, v]] W fun e w' => e = .returned (.bool false) ∧ Below W.heap.size W w')) :
    Calls Tryz.prog 24 #[.agg #[.int .i64 sh, .int .i64 sz, .int .i64 h, v], .int .i64 wd] w fun e w' => e = .returned (.tuple #[.slice none 0 0, .int .i64 10]) ∧ Below w.heap.size w w' := by
  go_enter Tryz.func24, Tryz.ntmps24
  go_wp2_with fail
  refine (HV.out _ ((Below.refl _ _).alloc (Nat.le_refl _) _)).mono ?_
  rintro e w3 ⟨rfl, hb3⟩
  have hB3 : Below w.heap.size w w3 := ((Below.refl _ _).alloc (Nat.le_refl _) _).trans (hb3.mono (by simp))
  go_wp2_with fail
  go_returns
  exact ⟨rfl, hB3⟩

set_option maxRecDepth 100000 in
set_option maxHeartbeats 1000000 in
theorem seams_arg (sh sz h wd : Int) (v : Value) (w : World)
    (HV : Hid (∀ W, Below w.heap.size w W → Calls Tryz.prog 30 #[.agg #[.int .i64 sh, .int .i64 sz, .int .i64 h, v]] W fun e w' => e = .returned (.bool true) ∧ Below W.heap.size W w')) (hwd : btw wd 1 200 = false) :
    Calls Tryz.prog 24 #[.agg #[.int .i64 sh, .int .i64 sz, .int .i64 h, v], .int .i64 wd] w fun e w' => e = .returned (.tuple #[.slice none 0 0, .int .i64 2]) ∧ Below w.heap.size w w' := by
  have HW := Lib.hid hwd
  clear hwd
  go_enter Tryz.func24, Tryz.ntmps24
  go_wp2_with fail
  refine (HV.out _ ((Below.refl _ _).alloc (Nat.le_refl _) _)).mono ?_
  rintro e w3 ⟨rfl, hb3⟩
  have hB3 : Below w.heap.size w w3 := ((Below.refl _ _).alloc (Nat.le_refl _) _).trans (hb3.mono (by simp))
  go_wp2_with (first | (go_at_call 37; refine (between_any _ _ _ _).mono ?_; rintro e w' ⟨rfl, rfl⟩; rw [HW.out]) | fail)
  go_returns
  exact ⟨rfl, hB3⟩

end Go.Proofs.YtgpobcfbafiaaabGreatDoor
