/-
  The walk of Same at two faces of one kind. By an AI agent.
-/
import Derived.Test.YtgpobcfbafiaaabGreatDoorFaceF
import Derived.Handy
namespace Go.Proofs.YtgpobcfbafiaaabGreatDoor
open Go.RowKit

/-- A face's four cells. -/
def FaceBox (w : World) (b : Nat) (sh sz h : Int) (v : Value) : Prop :=
  w.cell? ⟨b, 0, none⟩ = some (.int .i64 sh) ∧ w.cell? ⟨b, 1, none⟩ = some (.int .i64 sz) ∧ w.cell? ⟨b, 2, none⟩ = some (.int .i64 h) ∧ w.cell? ⟨b, 3, none⟩ = some v
theorem FaceBox.below {w w' : World} {b B : Nat} {sh sz h : Int} {v : Value} (hf : FaceBox w b sh sz h v) (hb : Below B w w') (hl : b < B) : FaceBox w' b sh sz h v := by
  have hx : ∀ o, w'.cell? ⟨b, o, none⟩ = w.cell? ⟨b, o, none⟩ := fun o => hb.cell (p := ⟨b, o, none⟩) hl
  unfold FaceBox
  rw [hx, hx, hx, hx]
  exact hf

set_option maxRecDepth 100000 in
set_option maxHeartbeats 4000000 in
/-- Same of two faces that are the same. -/
theorem same_eq (sh sz h : Int) (a b : Option Addr) (ca cb : Nat) (its : List It) (w : World) (hA : ItemsAt w a its) (hB : ItemsAt w b its) :
    Calls Tryz.prog 18 #[.agg #[.int .i64 sh, .int .i64 sz, .int .i64 h, .slice a its.length ca], .agg #[.int .i64 sh, .int .i64 sz, .int .i64 h, .slice b its.length cb]] w fun e w' => e = .returned (.bool true) ∧ Below w.heap.size w w' := by
  obtain ⟨hlen, _, ba, oa, hadra, hita⟩ := hA
  obtain ⟨_, _, bb, ob, hadrb, hitb⟩ := hB
  have n1 : (sh != sh) = false := by simp
  have n2 : (sz != sz) = false := by simp
  have n3 : (h != h) = false := by simp
  have n4 : ((its.length : Int) != its.length) = false := by simp
  go_enter Tryz.func18, Tryz.ntmps18
  go_wp2_with fail
  go_loopw [5] (fun i wr => ∃ k : Nat, k ≤ its.length ∧ i = .int .i64 k ∧ FaceBox wr w.heap.size sh sz h (.slice a its.length ca) ∧ FaceBox wr (w.heap.size + 1) sh sz h (.slice b its.length cb) ∧ Below w.heap.size w wr) (fun i _ => its.length - (intOf i).toNat)
  case atStart => exact ⟨0, Nat.zero_le _, rfl, by simp [FaceBox, go_sem], by simp [FaceBox, go_sem], ((Below.refl _ _).alloc (Nat.le_refl _) _).alloc (by simp) _⟩
  case round =>
    obtain ⟨k, hk, rfl, ⟨p0, p1, p2, p3⟩, ⟨q0, q1, q2, q3⟩, hbb⟩ := hrel
    by_cases hlt : k < its.length
    · obtain rfl := hadra (fun h => by rw [h] at hlt; simp at hlt)
      obtain rfl := hadrb (fun h => by rw [h] at hlt; simp at hlt)
      have ha' := (hita k hlt).below hbb
      have hb' := (hitb k hlt).below hbb
      clear hita hitb hadra hadrb
      generalize its[k] = x at *
      obtain ⟨i0, i1, i2, i3, i4, i5, i6⟩ := ha'
      obtain ⟨j0, j1, j2, j3, j4, j5, j6⟩ := hb'
      have g0 : (0 : Int) ≤ (k : Int) := by omega
      have g1 : (k : Int) < its.length := by omega
      go_wp2_with fail
      go_quiet (fail)
      go_wp2_with fail
      go_roundw
      case rel => exact ⟨k + 1, by omega, by go_num, ⟨p0, p1, p2, p3⟩, ⟨q0, q1, q2, q3⟩, below_drewN hbb _⟩
      case measure => simp [intOf]; omega
    · go_wp2_with fail
      go_ret
      exact ⟨rfl, hbb⟩
end Go.Proofs.YtgpobcfbafiaaabGreatDoor
