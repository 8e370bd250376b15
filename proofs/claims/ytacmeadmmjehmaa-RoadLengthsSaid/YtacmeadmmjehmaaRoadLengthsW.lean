/-
  The law RoadLengths: it answers true. By an AI agent.
-/
import Derived.Test.YtacmeadmmjehmaaRoadPm
import Derived.Test.YtacmeadmmjehmaaRoadAw
import Derived.Deep.RegionHeld3
namespace Go.Proofs.Ytacmeadmmjehmaa
set_option linter.unusedVariables false
set_option linter.unusedSimpArgs false
open Go.RowKit

set_option maxRecDepth 100000 in
set_option maxHeartbeats 4000000 in
theorem roadLengths_any (N L : Int) (a : Option Addr) (l : List Chg) (ca : Nat) (v d : Int) (w : World) (hQ : QuadS w a l) (hca : l.length ≤ ca) :
    Calls Try.prog 3 #[.agg #[.int .i64 N, .int .i64 L, .slice a l.length ca], .int .i64 v, .int .i64 d] w fun e w' => e = .returned (.bool true) ∧ Below w.heap.size w w' := by
  have HA := Lib.hid awake_any
  have HM := Lib.hid (fun W (hW : Below w.heap.size w W) => many_any N L a l ca W (hQ.below hW))
  have H1 := Lib.hid (fun W (hW : Below w.heap.size w W) => Length_any N L a l ca v W (hQ.below hW) hca)
  have H2 := Lib.hid (fun W (hW : Below w.heap.size w W) => refLength_any N L a l ca v W (hQ.below hW))
  have H3 := Lib.hid (fun W (hW : Below w.heap.size w W) => At_any N L a l ca d W (hQ.below hW))
  have H4 := Lib.hid (fun W (hW : Below w.heap.size w W) => refAt_any N L a l ca d W (hQ.below hW))
  have H5 := Lib.hid (fun W (hW : Below w.heap.size w W) => Valid_any N L a l ca W (hQ.below hW))
  have H6 := Lib.hid (fun W (hW : Below w.heap.size w W) => refValid_any N L a l ca W (hQ.below hW))
  clear hQ hca
  generalize lenV N L l v = x1 at *
  generalize errL N L l [v] = x2 at *
  generalize atV N L l d = x3 at *
  generalize atE N L l d = x4 at *
  generalize roadB N L l = x5 at *
  have e1 : (x1 == x1) = true := by simp
  have e2 : (x2 == x2) = true := by simp
  have e3 : (x3 == x3) = true := by simp
  have e4 : (x4 == x4) = true := by simp
  have e5 : (x5 == x5) = true := by simp
  cases hm : decide (60 < l.length) with
  | true =>
    rw [hm] at HM
    clear hm H1 H2 H3 H4 H5 H6
    go_enter Try.func3, Try.ntmps3
    go_wp2_with fail
    obtain ⟨wB, hwB⟩ : ∃ wB, w.alloc (.cells #[.int .i64 N, .int .i64 L, .slice a l.length ca] 24) = wB := ⟨_, rfl⟩
    have hB := RdBox.start w N L a l ca 24
    rw [hwB] at hB ⊢
    clear hwB
    have HB := Lib.hid hB
    obtain ⟨hb, p0, p1, p2⟩ := hB
    refine (HM.out _ hb).mono ?_
    rintro e w1 ⟨rfl, hb1⟩
    have HB := Lib.hid (HB.out.on hb1)
    obtain ⟨hb, p0, p1, p2⟩ := HB.out
    clear hb1
    go_wp2_with fail
    refine (HA.out _).mono ?_
    rintro e w9 ⟨rfl, hb9⟩
    go_wp2_with fail
    go_ret
    exact ⟨rfl, below_on hb hb9⟩

  | false =>
    rw [hm] at HM
    clear hm
    go_enter Try.func3, Try.ntmps3
    go_wp2_with fail
    obtain ⟨wB, hwB⟩ : ∃ wB, w.alloc (.cells #[.int .i64 N, .int .i64 L, .slice a l.length ca] 24) = wB := ⟨_, rfl⟩
    have hB := RdBox.start w N L a l ca 24
    rw [hwB] at hB ⊢
    clear hwB
    have HB := Lib.hid hB
    obtain ⟨hb, p0, p1, p2⟩ := hB
    refine (HM.out _ hb).mono ?_
    rintro e w1 ⟨rfl, hb1⟩
    have HB := Lib.hid (HB.out.on hb1)
    obtain ⟨hb, p0, p1, p2⟩ := HB.out
    clear hb1
    go_wp2_with fail
    refine (H1.out _ hb).mono ?_
    rintro e w2 ⟨rfl, hb2⟩
    have HB := Lib.hid (HB.out.on hb2)
    obtain ⟨hb, p0, p1, p2⟩ := HB.out
    clear hb2
    go_wp2_with fail
    refine (H2.out _ hb).mono ?_
    rintro e w3 ⟨rfl, hb3⟩
    have HB := Lib.hid (HB.out.on hb3)
    obtain ⟨hb, p0, p1, p2⟩ := HB.out
    clear hb3
    go_wp2_with fail
    refine (H3.out _ hb).mono ?_
    rintro e w4 ⟨rfl, hb4⟩
    have HB := Lib.hid (HB.out.on hb4)
    obtain ⟨hb, p0, p1, p2⟩ := HB.out
    clear hb4
    go_wp2_with fail
    refine (H4.out _ hb).mono ?_
    rintro e w5 ⟨rfl, hb5⟩
    have HB := Lib.hid (HB.out.on hb5)
    obtain ⟨hb, p0, p1, p2⟩ := HB.out
    clear hb5
    go_wp2_with fail
    have hB := hb
    have hz := block_lt p0
    clear HB hb HM H1 H2 H3 H4
    go_region_held3 (fun w' => w'.cell? ⟨w.heap.size, 0, none⟩ = some (.int .i64 N) ∧ w'.cell? ⟨w.heap.size, 1, none⟩ = some (.int .i64 L) ∧ w'.cell? ⟨w.heap.size, 2, none⟩ = some (.slice a l.length ca)) (go_keep)
      (first
        | (go_at_call 21
           refine (H5.out _ (by first | exact hB.drew | exact hB | exact hB.drew.drew | exact below_drewN hB _ | exact below_drewN hB.drew _)).mono ?_
           rintro E w9 ⟨rfl, hb9⟩
           have p0 := (hb9.cell (p := ⟨w.heap.size, 0, none⟩) hz).trans p0
           have p1 := (hb9.cell (p := ⟨w.heap.size, 1, none⟩) hz).trans p1
           have p2 := (hb9.cell (p := ⟨w.heap.size, 2, none⟩) hz).trans p2
           have hB : Below w.heap.size w w9 := by first | exact (hB.drew).trans (hb9.mono hB.size) | exact hB.trans (hb9.mono hB.size)
           have hz := Nat.lt_of_lt_of_le hz hb9.size)
        | (go_at_call 22
           refine (H6.out _ (by first | exact hB.drew | exact hB | exact hB.drew.drew | exact below_drewN hB _ | exact below_drewN hB.drew _)).mono ?_
           rintro E w9 ⟨rfl, hb9⟩
           have p0 := (hb9.cell (p := ⟨w.heap.size, 0, none⟩) hz).trans p0
           have p1 := (hb9.cell (p := ⟨w.heap.size, 1, none⟩) hz).trans p1
           have p2 := (hb9.cell (p := ⟨w.heap.size, 2, none⟩) hz).trans p2
           have hB : Below w.heap.size w w9 := by first | exact (hB.drew).trans (hb9.mono hB.size) | exact hB.trans (hb9.mono hB.size)
           have hz := Nat.lt_of_lt_of_le hz hb9.size)
        | (go_at_call 16
           refine (HA.out _).mono ?_
           rintro E w9 ⟨rfl, hb9⟩
           have p0 := (hb9.cell (p := ⟨w.heap.size, 0, none⟩) hz).trans p0
           have p1 := (hb9.cell (p := ⟨w.heap.size, 1, none⟩) hz).trans p1
           have p2 := (hb9.cell (p := ⟨w.heap.size, 2, none⟩) hz).trans p2
           have hB : Below w.heap.size w w9 := by first | exact (hB.drew).trans (hb9.mono hB.size) | exact hB.trans (hb9.mono hB.size)
           have hz := Nat.lt_of_lt_of_le hz hb9.size))
    all_goals
      go_wp2_with fail
      go_ret
      exact ⟨rfl, (by first | exact hB.drew | exact hB | exact hB.drew.drew | exact below_drewN hB _ | exact below_drewN hB.drew _)⟩

end Go.Proofs.Ytacmeadmmjehmaa
