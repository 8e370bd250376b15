/-
  The walk of the law CutFits: it answers true. By an AI agent.
-/
import Derived.Test.YtkmonaeajejamaaCutH
namespace Go.Proofs.Ytkmonaeajejamaa
set_option linter.unusedVariables false
set_option linter.unusedSimpArgs false
open Go.RowKit

set_option maxRecDepth 100000 in
set_option maxHeartbeats 4000000 in
theorem cutFits_any (L K : Int) (aa : Option Addr) (l : List (Int × Int)) (ca : Nat) (ap : Option Addr) (q : List Int) (cq : Nat) (w : World) (hA : PairsS w aa l) (hQ : IntsS w ap q) :
    Calls Try.prog 3 #[.agg #[.int .i64 L, .int .i64 K, .slice aa l.length ca], .slice ap q.length cq] w fun E w' => E = .returned (.bool true) ∧ Below w.heap.size w w' := by
  have hlA := hA.1
  have hlQ := hQ.1
  have HW : Hid (∀ W, Calls Try.prog 15 #[.agg #[.int .i64 L, .int .i64 K, .slice aa l.length ca], .slice none 0 0] W fun e w' => SB e ∧ Below W.heap.size W w') := Lib.hid fun W => wideNil_any L K aa l ca W hlA
  have HF := Lib.hid (fun W (hW : Below w.heap.size w W) => Fits_any L K aa l ca ap q cq W (hA.below hW) (hQ.below hW))
  have HR := Lib.hid (fun W (hW : Below w.heap.size w W) => refFits_any L K aa l ca ap q cq W (hA.below hW) (hQ.below hW))
  have HV := Lib.hid (fun W (hW : Below w.heap.size w W) => Valid_any L K aa l ca W (hA.below hW))
  have HU := Lib.hid (fun W (hW : Below w.heap.size w W) => refValid_any L K aa l ca W (hA.below hW))
  have H1 := Lib.hid awake_any
  have hS := InBox.start w L K (.slice aa l.length ca) 24
  clear hA hQ
  generalize fitsV L K l q = fv at *
  generalize fitsE L K l q = fe at *
  generalize cutB L K l = cb at *
  have hv1 : (fv == fv) = true := by simp
  have hv2 : (cb == cb) = true := by simp
  go_enter Try.func3, Try.ntmps3
  go_wp2_with fail
  refine (HW.out _).mono ?_
  rintro E w1 ⟨⟨b, rfl⟩, hb1⟩
  have hS1 := hS.on hb1
  clear hb1 hS
  by_cases hsh : b = true ∨ (30 : Int) < q.length
  · obtain ⟨hB, p0, p1, p2⟩ := hS1
    have hw : ∀ x, (b || decide ((30 : Int) < q.length)) = x → x = true := fun x hx => by rw [← hx]; simpa using hsh
    rcases (show b = true ∨ (b = false ∧ (30 : Int) < q.length) by cases b <;> simp_all) with rfl | ⟨rfl, hq⟩
    · clear hw hsh
      go_wp2_with fail
      refine (H1.out _).mono ?_
      rintro E w2 ⟨rfl, hb2⟩
      go_wp2_with fail
      go_ret
      exact ⟨rfl, hB.trans (hb2.mono hB.size)⟩
    · clear hw hsh
      go_wp2_with fail
      refine (H1.out _).mono ?_
      rintro E w2 ⟨rfl, hb2⟩
      go_wp2_with fail
      go_ret
      exact ⟨rfl, hB.trans (hb2.mono hB.size)⟩
  · have hq : ¬ (30 : Int) < q.length := fun h => hsh (.inr h)
    obtain rfl : b = false := by simpa using fun h => hsh (.inl h)
    clear hsh
    obtain ⟨hB, p0, p1, p2⟩ := hS1
    go_wp2_with fail
    refine (HF.out _ hB).mono ?_
    rintro E w2 ⟨rfl, hb2⟩
    obtain ⟨hB, p0, p1, p2⟩ := InBox.on ⟨hB, p0, p1, p2⟩ hb2
    go_wp2_with fail
    refine (HR.out _ hB).mono ?_
    rintro E w3 ⟨rfl, hb3⟩
    obtain ⟨hB, p0, p1, p2⟩ := InBox.on ⟨hB, p0, p1, p2⟩ hb3
    have hz := block_lt p0
    clear hb2 hb3
    go_wp2_with fail
    go_region_held3 (fun w' => w'.cell? ⟨w.heap.size, 0, none⟩ = some (.int .i64 L) ∧ w'.cell? ⟨w.heap.size, 1, none⟩ = some (.int .i64 K) ∧ w'.cell? ⟨w.heap.size, 2, none⟩ = some (.slice aa l.length ca)) (go_keep)
      (first
        | (go_at_call 19
           refine (HV.out _ (by first | exact hB.drew | exact hB | exact hB.drew.drew | exact below_drewN hB _ | exact below_drewN hB.drew _)).mono ?_
           rintro E w9 ⟨rfl, hb9⟩
           have p0 := (hb9.cell (p := ⟨w.heap.size, 0, none⟩) hz).trans p0
           have p1 := (hb9.cell (p := ⟨w.heap.size, 1, none⟩) hz).trans p1
           have p2 := (hb9.cell (p := ⟨w.heap.size, 2, none⟩) hz).trans p2
           have hB : Below w.heap.size w w9 := by first | exact (hB.drew).trans (hb9.mono hB.size) | exact hB.trans (hb9.mono hB.size)
           have hz := Nat.lt_of_lt_of_le hz hb9.size)
        | (go_at_call 20
           refine (HU.out _ (by first | exact hB.drew | exact hB | exact hB.drew.drew | exact below_drewN hB _ | exact below_drewN hB.drew _)).mono ?_
           rintro E w9 ⟨rfl, hb9⟩
           have p0 := (hb9.cell (p := ⟨w.heap.size, 0, none⟩) hz).trans p0
           have p1 := (hb9.cell (p := ⟨w.heap.size, 1, none⟩) hz).trans p1
           have p2 := (hb9.cell (p := ⟨w.heap.size, 2, none⟩) hz).trans p2
           have hB : Below w.heap.size w w9 := by first | exact (hB.drew).trans (hb9.mono hB.size) | exact hB.trans (hb9.mono hB.size)
           have hz := Nat.lt_of_lt_of_le hz hb9.size)
        | (go_at_call 16
           refine (H1.out _).mono ?_
           rintro E w9 ⟨rfl, hb9⟩
           have p0 := (hb9.cell (p := ⟨w.heap.size, 0, none⟩) hz).trans p0
           have p1 := (hb9.cell (p := ⟨w.heap.size, 1, none⟩) hz).trans p1
           have p2 := (hb9.cell (p := ⟨w.heap.size, 2, none⟩) hz).trans p2
           have hB : Below w.heap.size w w9 := by first | exact (hB.drew).trans (hb9.mono hB.size) | exact hB.trans (hb9.mono hB.size)
           have hz := Nat.lt_of_lt_of_le hz hb9.size))
    all_goals
      go_wp2_with fail
      go_ret
      exact ⟨rfl, hB⟩
end Go.Proofs.Ytkmonaeajejamaa
