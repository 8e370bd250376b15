/-
  The law RoadCarries: it answers true. By an AI agent.
-/
import Derived.Test.YtacmeadmmjehmaaRoadPc
import Derived.Test.YtacmeadmmjehmaaRoadAw
import Derived.Deep.RegionHeld3
namespace Go.Proofs.Ytacmeadmmjehmaa
set_option linter.unusedVariables false
set_option linter.unusedSimpArgs false
open Go.RowKit

set_option maxRecDepth 100000 in
set_option maxHeartbeats 4000000 in
theorem roadCarries_any (N L : Int) (a : Option Addr) (l : List Chg) (ca : Nat) (c u v : Int) (w : World) (hQ : QuadS w a l) (hca : l.length ≤ ca) :
    Calls Try.prog 4 #[.agg #[.int .i64 N, .int .i64 L, .slice a l.length ca], .int .i64 c, .agg #[.int .i64 u, .int .i64 v]] w fun e w' => e = .returned (.bool true) ∧ Below w.heap.size w w' := by
  have HA := Lib.hid awake_any
  have HM := Lib.hid (fun W (hW : Below w.heap.size w W) => many_any N L a l ca W (hQ.below hW))
  have H1 := Lib.hid (fun W (hW : Below w.heap.size w W) => Carry_any N L a l ca c u v W (hQ.below hW) hca)
  have H2 := Lib.hid (fun W (hW : Below w.heap.size w W) => refCarry_any N L a l ca c u v W (hQ.below hW))
  clear hQ hca
  generalize carV N L l c u v = x1 at *
  generalize carE N L l c u v = x2 at *
  have e1 : (x1 == x1) = true := by simp
  have e2 : (x2 == x2) = true := by simp
  cases hm : decide (60 < l.length) with
  | true =>
    rw [hm] at HM
    clear hm H1 H2
    go_enter Try.func4, Try.ntmps4
    go_wp2_with fail
    obtain ⟨wB, hwB⟩ : ∃ wB, (w.alloc (.cells #[.int .i64 N, .int .i64 L, .slice a l.length ca] 24)).alloc (.cells #[.int .i64 u, .int .i64 v] 32) = wB := ⟨_, rfl⟩
    have HB := Lib.hid ((RdBox.start w N L a l ca 24).alloc (.cells #[.int .i64 u, .int .i64 v] 32))
    have r0 : wB.cell? ⟨w.heap.size + 1, 0, none⟩ = some (.int .i64 u) := by rw [← hwB]; simp [go_sem]
    have r1 : wB.cell? ⟨w.heap.size + 1, 1, none⟩ = some (.int .i64 v) := by rw [← hwB]; simp [go_sem]
    rw [hwB] at HB ⊢
    clear hwB
    obtain ⟨hb, p0, p1, p2⟩ := HB.out
    refine (HM.out _ hb).mono ?_
    rintro e w1 ⟨rfl, hb1⟩
    have r0 := cell_below r0 hb1
    have r1 := cell_below r1 hb1
    have HB := Lib.hid (HB.out.on hb1)
    obtain ⟨hb, p0, p1, p2⟩ := HB.out
    clear hb1
    go_wp2_with fail
    refine (HA.out _).mono ?_
    rintro e w9 ⟨rfl, hb9⟩
    go_wp2_with fail
    go_ret
    exact ⟨rfl, below_on hb hb9⟩

  | false =>
    rw [hm] at HM
    clear hm
    go_enter Try.func4, Try.ntmps4
    go_wp2_with fail
    obtain ⟨wB, hwB⟩ : ∃ wB, (w.alloc (.cells #[.int .i64 N, .int .i64 L, .slice a l.length ca] 24)).alloc (.cells #[.int .i64 u, .int .i64 v] 32) = wB := ⟨_, rfl⟩
    have HB := Lib.hid ((RdBox.start w N L a l ca 24).alloc (.cells #[.int .i64 u, .int .i64 v] 32))
    have r0 : wB.cell? ⟨w.heap.size + 1, 0, none⟩ = some (.int .i64 u) := by rw [← hwB]; simp [go_sem]
    have r1 : wB.cell? ⟨w.heap.size + 1, 1, none⟩ = some (.int .i64 v) := by rw [← hwB]; simp [go_sem]
    rw [hwB] at HB ⊢
    clear hwB
    obtain ⟨hb, p0, p1, p2⟩ := HB.out
    refine (HM.out _ hb).mono ?_
    rintro e w1 ⟨rfl, hb1⟩
    have r0 := cell_below r0 hb1
    have r1 := cell_below r1 hb1
    have HB := Lib.hid (HB.out.on hb1)
    obtain ⟨hb, p0, p1, p2⟩ := HB.out
    clear hb1
    go_wp2_with fail
    refine (H1.out _ hb).mono ?_
    rintro e w2 ⟨rfl, hb2⟩
    have r0 := cell_below r0 hb2
    have r1 := cell_below r1 hb2
    have HB := Lib.hid (HB.out.on hb2)
    obtain ⟨hb, p0, p1, p2⟩ := HB.out
    clear hb2
    go_wp2_with fail
    refine (H2.out _ hb).mono ?_
    rintro e w3 ⟨rfl, hb3⟩
    have r0 := cell_below r0 hb3
    have r1 := cell_below r1 hb3
    have HB := Lib.hid (HB.out.on hb3)
    obtain ⟨hb, p0, p1, p2⟩ := HB.out
    clear hb3
    go_wp2_with fail
    refine (HA.out _).mono ?_
    rintro e w9 ⟨rfl, hb9⟩
    go_wp2_with fail
    go_ret
    exact ⟨rfl, below_on hb hb9⟩

end Go.Proofs.Ytacmeadmmjehmaa
