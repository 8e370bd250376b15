/-
  The law RoadKept: it answers true. By an AI agent.
-/
import Derived.Test.YtdiabpcpcilclaaRoadPq
import Derived.Test.YtdiabpcpcilclaaRoadAw
import Derived.Deep.RegionHeld3
namespace Go.Proofs.Ytdiabpcpcilclaa
set_option linter.unusedVariables false
set_option linter.unusedSimpArgs false
open Go.RowKit

set_option maxRecDepth 100000 in
set_option maxHeartbeats 2000000 in
theorem roadKept_any (N L : Int) (a : Option Addr) (l : List Chg) (ca : Nat) (x y u v : Int) (w : World) (hQ : QuadS w a l) (hca : l.length ≤ ca) (hx : I64 x) (hy : I64 y) :
    Calls Try.prog 3 #[.agg #[.int .i64 N, .int .i64 L, .slice a l.length ca], .agg #[.int .i64 x, .int .i64 y], .agg #[.int .i64 u, .int .i64 v]] w fun e w' => e = .returned (.bool true) ∧ Below w.heap.size w w' := by
  have HA := Lib.hid awake_any
  have HM := Lib.hid (fun W (hW : Below w.heap.size w W) => many_any N L a l ca W (hQ.below hW))
  have HK := Lib.hid (fun W (hW : Below w.heap.size w W) => Kept_any N L a l ca x y u v W (hQ.below hW) hca)
  have HR := Lib.hid (fun W (hW : Below w.heap.size w W) => refKept_any N L a l ca x y u v W (hQ.below hW))
  have HG := Lib.hid (fun W (hW : Below w.heap.size w W) => Gone_any N L a l ca u v W (hQ.below hW) hca)
  have HS := Lib.hid (fun W (hW : Below w.heap.size w W) => refGone_any N L a l ca u v W (hQ.below hW))
  generalize kpL N L l x y u v = Q at *
  generalize kpE N L l x y u v = E0 at *
  generalize goV N L l u v = G at *
  generalize errL N L l [u, v] = E1 at *
  clear hQ hca hx hy
  cases hm : decide (60 < l.length) with
  | true =>
    rw [hm] at HM
    clear hm HK HR HG HS
    go_enter Try.func3, Try.ntmps3
    go_wp2_with fail
    obtain ⟨wB, hwB⟩ : ∃ wB, ((w.alloc (.cells #[.int .i64 N, .int .i64 L, .slice a l.length ca] 24)).alloc (.cells #[.int .i64 x, .int .i64 y] 26)).alloc (.cells #[.int .i64 u, .int .i64 v] 27) = wB := ⟨_, rfl⟩
    have HB := Lib.hid (((RdBox.start w N L a l ca 24).alloc (.cells #[.int .i64 x, .int .i64 y] 26)).alloc (.cells #[.int .i64 u, .int .i64 v] 27))
    have q0 : wB.cell? ⟨w.heap.size + 1, 0, none⟩ = some (.int .i64 x) := by rw [← hwB]; simp [go_sem]
    have q1 : wB.cell? ⟨w.heap.size + 1, 1, none⟩ = some (.int .i64 y) := by rw [← hwB]; simp [go_sem]
    have r0 : wB.cell? ⟨w.heap.size + 1 + 1, 0, none⟩ = some (.int .i64 u) := by rw [← hwB]; simp [go_sem]
    have r1 : wB.cell? ⟨w.heap.size + 1 + 1, 1, none⟩ = some (.int .i64 v) := by rw [← hwB]; simp [go_sem]
    rw [hwB] at HB ⊢
    clear hwB
    obtain ⟨hb, p0, p1, p2⟩ := HB.out
    refine (HM.out _ hb).mono ?_
    rintro e w1 ⟨rfl, hb1⟩
    have q0 := cell_below q0 hb1
    have q1 := cell_below q1 hb1
    have r0 := cell_below r0 hb1
    have r1 := cell_below r1 hb1
    have HB := Lib.hid (HB.out.on hb1)
    obtain ⟨hb, p0, p1, p2⟩ := HB.out
    clear hb1
    go_wp2_with fail
    refine (HA.out _).mono ?_
    rintro e w9 ⟨rfl, hb9⟩
    go_wp2_with fail
    go_ret
    exact ⟨rfl, below_on hb hb9⟩

  | false =>
    rw [hm] at HM
    clear hm
    go_enter Try.func3, Try.ntmps3
    go_wp2_with fail
    obtain ⟨wB, hwB⟩ : ∃ wB, ((w.alloc (.cells #[.int .i64 N, .int .i64 L, .slice a l.length ca] 24)).alloc (.cells #[.int .i64 x, .int .i64 y] 26)).alloc (.cells #[.int .i64 u, .int .i64 v] 27) = wB := ⟨_, rfl⟩
    have HB := Lib.hid (((RdBox.start w N L a l ca 24).alloc (.cells #[.int .i64 x, .int .i64 y] 26)).alloc (.cells #[.int .i64 u, .int .i64 v] 27))
    have q0 : wB.cell? ⟨w.heap.size + 1, 0, none⟩ = some (.int .i64 x) := by rw [← hwB]; simp [go_sem]
    have q1 : wB.cell? ⟨w.heap.size + 1, 1, none⟩ = some (.int .i64 y) := by rw [← hwB]; simp [go_sem]
    have r0 : wB.cell? ⟨w.heap.size + 1 + 1, 0, none⟩ = some (.int .i64 u) := by rw [← hwB]; simp [go_sem]
    have r1 : wB.cell? ⟨w.heap.size + 1 + 1, 1, none⟩ = some (.int .i64 v) := by rw [← hwB]; simp [go_sem]
    rw [hwB] at HB ⊢
    clear hwB
    obtain ⟨hb, p0, p1, p2⟩ := HB.out
    refine (HM.out _ hb).mono ?_
    rintro e w1 ⟨rfl, hb1⟩
    have q0 := cell_below q0 hb1
    have q1 := cell_below q1 hb1
    have r0 := cell_below r0 hb1
    have r1 := cell_below r1 hb1
    have HB := Lib.hid (HB.out.on hb1)
    obtain ⟨hb, p0, p1, p2⟩ := HB.out
    clear hb1
    clear HM
    go_wp2_with fail
    refine (HK.out _ hb).mono ?_
    rintro e w2 ⟨b1, c1, rfl, hP1, hb2, -⟩
    have H1 := Lib.hid hP1
    have q0 := cell_below q0 hb2
    have q1 := cell_below q1 hb2
    have r0 := cell_below r0 hb2
    have r1 := cell_below r1 hb2
    have HB := Lib.hid (HB.out.on hb2)
    obtain ⟨hb, p0, p1, p2⟩ := HB.out
    clear hb2
    clear HK hP1
    go_wp2_with fail
    refine (HR.out _ hb).mono ?_
    rintro e w3 ⟨b2, c2, rfl, hP2, hb3, -⟩
    have H1 := Lib.hid (H1.out.below hb3)
    have H2 := Lib.hid hP2
    have q0 := cell_below q0 hb3
    have q1 := cell_below q1 hb3
    have r0 := cell_below r0 hb3
    have r1 := cell_below r1 hb3
    have HB := Lib.hid (HB.out.on hb3)
    obtain ⟨hb, p0, p1, p2⟩ := HB.out
    clear hb3
    clear HR hP2
    go_wp2_with fail
    refine (HG.out _ hb).mono ?_
    rintro e w4 ⟨rfl, hb4⟩
    have H1 := Lib.hid (H1.out.below hb4)
    have H2 := Lib.hid (H2.out.below hb4)
    have q0 := cell_below q0 hb4
    have q1 := cell_below q1 hb4
    have r0 := cell_below r0 hb4
    have r1 := cell_below r1 hb4
    have HB := Lib.hid (HB.out.on hb4)
    obtain ⟨hb, p0, p1, p2⟩ := HB.out
    clear hb4
    clear HG
    go_wp2_with fail
    refine (HS.out _ hb).mono ?_
    rintro e w5 ⟨rfl, hb5⟩
    have H1 := Lib.hid (H1.out.below hb5)
    have H2 := Lib.hid (H2.out.below hb5)
    have q0 := cell_below q0 hb5
    have q1 := cell_below q1 hb5
    have r0 := cell_below r0 hb5
    have r1 := cell_below r1 hb5
    have HB := Lib.hid (HB.out.on hb5)
    obtain ⟨hb, p0, p1, p2⟩ := HB.out
    clear hb5
    clear HS
    go_wp2_with fail
    refine (sameSpans_any b1 b2 Q c1 c2 _ H1.out H2.out).mono ?_
    rintro e w6 ⟨rfl, hb6⟩
    have hb := below_on hb hb6
    clear H1 H2 hb6
    go_wp2_with fail
    refine (HA.out _).mono ?_
    rintro e w9 ⟨rfl, hb9⟩
    go_wp2_with fail
    go_ret
    exact ⟨rfl, below_on hb hb9⟩

end Go.Proofs.Ytdiabpcpcilclaa
