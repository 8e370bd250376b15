/-
  The law NightDue of package night. By an AI agent.
-/
import Derived.Test.YtpkafkhdococeaaNiDur
import Derived.Test.YtpkafkhdococeaaNiOp
import Derived.Test.YtpkafkhdococeaaLightO2
import Derived.Deep.RegionHeld3
import Derived.BigQuiet
namespace Go.Proofs.Ytpkafkhdococeaa
set_option linter.unusedVariables false
set_option linter.unusedSimpArgs false
open Go.RowKit Go.ChangeShapes Go.WideShapes Go.ChangeAt

theorem djV_form (n r c cr z0 z1 z2 z3 side : Int) (l : List (Int × Int)) (least lead : Int) : ∃ (j0 j1 j2 j3 j4 j5 : Int) (b6 b7 b : Bool) (E : Int), djV n r c cr z0 z1 z2 z3 side l least lead = .tuple #[.agg #[.int .i64 j0, .int .i64 j1, .int .i64 j2, .int .i64 j3, .int .i64 j4, .int .i64 j5, .bool b6, .bool b7], .bool b, .int .i64 E] := by
  unfold djV
  split
  · split
    · exact ⟨_, _, _, _, _, _, _, _, _, _, rfl⟩
    · exact ⟨_, _, _, _, _, _, _, _, _, _, rfl⟩
  · exact ⟨_, _, _, _, _, _, _, _, _, _, rfl⟩
set_option maxRecDepth 100000 in
set_option maxHeartbeats 4000000 in
theorem nightDue_any (n r c cr z0 z1 z2 z3 side : Int) (a : Option Addr) (l : List (Int × Int)) (cap : Nat) (least lead : Int) (w : World) (hP : PairsS w a l) (hle : I64 least) (hld : I64 lead) :
    Calls Try.prog 10 #[.agg #[.int .i64 n, .int .i64 r, .int .i64 c, .int .i64 cr, .int .i64 z0, .int .i64 z1, .int .i64 z2, .int .i64 z3, .int .i64 side, .slice a l.length cap, .int .i64 least, .int .i64 lead]] w fun e w' => e = .returned (.bool true) ∧ Below w.heap.size w w' := by
  have HA := Lib.hid (fun W => awake_any W)
  have H1 := Lib.hid (fun W (hW : Below w.heap.size w W) => dueJob_r n r c cr z0 z1 z2 z3 side a l cap least lead W (hP.below hW) hle hld)
  have H2 := Lib.hid (fun W (hW : Below w.heap.size w W) => refDueJob_r n r c cr z0 z1 z2 z3 side a l cap least lead W (hP.below hW) hle hld)
  have hl := hP.1
  obtain ⟨j0, j1, j2, j3, j4, j5, b6, b7, b, E, hV⟩ := djV_form n r c cr z0 z1 z2 z3 side l least lead
  rw [hV] at H1 H2
  obtain ⟨wB, hwB⟩ : ∃ wB, w.alloc (.cells #[.int .i64 n, .int .i64 r, .int .i64 c, .int .i64 cr, .int .i64 z0, .int .i64 z1, .int .i64 z2, .int .i64 z3, .int .i64 side, .slice a l.length cap, .int .i64 least, .int .i64 lead] 65) = wB := ⟨_, rfl⟩
  have hb : Below w.heap.size w wB := by rw [← hwB]; exact (Below.refl _ _).alloc (Nat.le_refl _) _
  have p0 : wB.cell? ⟨w.heap.size, 0, none⟩ = some (.int .i64 n) := by rw [← hwB]; simp [go_sem]
  have p1 : wB.cell? ⟨w.heap.size, 1, none⟩ = some (.int .i64 r) := by rw [← hwB]; simp [go_sem]
  have p2 : wB.cell? ⟨w.heap.size, 2, none⟩ = some (.int .i64 c) := by rw [← hwB]; simp [go_sem]
  have p3 : wB.cell? ⟨w.heap.size, 3, none⟩ = some (.int .i64 cr) := by rw [← hwB]; simp [go_sem]
  have p4 : wB.cell? ⟨w.heap.size, 4, none⟩ = some (.int .i64 z0) := by rw [← hwB]; simp [go_sem]
  have p5 : wB.cell? ⟨w.heap.size, 5, none⟩ = some (.int .i64 z1) := by rw [← hwB]; simp [go_sem]
  have p6 : wB.cell? ⟨w.heap.size, 6, none⟩ = some (.int .i64 z2) := by rw [← hwB]; simp [go_sem]
  have p7 : wB.cell? ⟨w.heap.size, 7, none⟩ = some (.int .i64 z3) := by rw [← hwB]; simp [go_sem]
  have p8 : wB.cell? ⟨w.heap.size, 8, none⟩ = some (.int .i64 side) := by rw [← hwB]; simp [go_sem]
  have p9 : wB.cell? ⟨w.heap.size, 9, none⟩ = some (.slice a l.length cap) := by rw [← hwB]; simp [go_sem]
  have p10 : wB.cell? ⟨w.heap.size, 10, none⟩ = some (.int .i64 least) := by rw [← hwB]; simp [go_sem]
  have p11 : wB.cell? ⟨w.heap.size, 11, none⟩ = some (.int .i64 lead) := by rw [← hwB]; simp [go_sem]
  clear hP hle hld hV
  by_cases h60 : 60 < l.length
  · have d1 : decide ((60 : Int) < l.length) = true := decide_eq_true (by omega)
    go_enter Try.func10, Try.ntmps10
    go_wp2_with fail
    refine (HA.out _).mono ?_
    rintro e wz ⟨rfl, hbz⟩
    go_wp2_with fail
    go_ret
    exact ⟨rfl, below_onN hb hbz hb.size⟩
  · have d1 : decide ((60 : Int) < l.length) = false := decide_eq_false (by omega)
    go_enter Try.func10, Try.ntmps10
    go_wp2_with fail
    refine (H1.out _ hb).mono ?_
    rintro e w1 ⟨rfl, hb1⟩
    have p0 := cell_below p0 hb1
    have p1 := cell_below p1 hb1
    have p2 := cell_below p2 hb1
    have p3 := cell_below p3 hb1
    have p4 := cell_below p4 hb1
    have p5 := cell_below p5 hb1
    have p6 := cell_below p6 hb1
    have p7 := cell_below p7 hb1
    have p8 := cell_below p8 hb1
    have p9 := cell_below p9 hb1
    have p10 := cell_below p10 hb1
    have p11 := cell_below p11 hb1
    have hb := below_onN hb hb1 hb.size
    obtain ⟨wC, hwC⟩ : ∃ wC, w1.alloc (.cells #[.int .i64 j0, .int .i64 j1, .int .i64 j2, .int .i64 j3, .int .i64 j4, .int .i64 j5, .bool b6, .bool b7] 53) = wC := ⟨_, rfl⟩
    have hbC : Below w1.heap.size w1 wC := by rw [← hwC]; exact (Below.refl _ _).alloc (Nat.le_refl _) _
    have q0 : wC.cell? ⟨w1.heap.size, 0, none⟩ = some (.int .i64 j0) := by rw [← hwC]; simp [go_sem]
    have q1 : wC.cell? ⟨w1.heap.size, 1, none⟩ = some (.int .i64 j1) := by rw [← hwC]; simp [go_sem]
    have q2 : wC.cell? ⟨w1.heap.size, 2, none⟩ = some (.int .i64 j2) := by rw [← hwC]; simp [go_sem]
    have q3 : wC.cell? ⟨w1.heap.size, 3, none⟩ = some (.int .i64 j3) := by rw [← hwC]; simp [go_sem]
    have q4 : wC.cell? ⟨w1.heap.size, 4, none⟩ = some (.int .i64 j4) := by rw [← hwC]; simp [go_sem]
    have q5 : wC.cell? ⟨w1.heap.size, 5, none⟩ = some (.int .i64 j5) := by rw [← hwC]; simp [go_sem]
    have q6 : wC.cell? ⟨w1.heap.size, 6, none⟩ = some (.bool b6) := by rw [← hwC]; simp [go_sem]
    have q7 : wC.cell? ⟨w1.heap.size, 7, none⟩ = some (.bool b7) := by rw [← hwC]; simp [go_sem]
    have p0 := cell_below p0 hbC
    have p1 := cell_below p1 hbC
    have p2 := cell_below p2 hbC
    have p3 := cell_below p3 hbC
    have p4 := cell_below p4 hbC
    have p5 := cell_below p5 hbC
    have p6 := cell_below p6 hbC
    have p7 := cell_below p7 hbC
    have p8 := cell_below p8 hbC
    have p9 := cell_below p9 hbC
    have p10 := cell_below p10 hbC
    have p11 := cell_below p11 hbC
    have hb := below_onN hb hbC hb.size
    clear hb1 hbC hwB
    go_wp2_with fail
    refine (H2.out _ hb).mono ?_
    rintro e w2 ⟨rfl, hb2⟩
    have q0 := cell_below q0 hb2
    have q1 := cell_below q1 hb2
    have q2 := cell_below q2 hb2
    have q3 := cell_below q3 hb2
    have q4 := cell_below q4 hb2
    have q5 := cell_below q5 hb2
    have q6 := cell_below q6 hb2
    have q7 := cell_below q7 hb2
    have hb := below_onN hb hb2 hb.size
    obtain ⟨wD, hwD⟩ : ∃ wD, w2.alloc (.cells #[.int .i64 j0, .int .i64 j1, .int .i64 j2, .int .i64 j3, .int .i64 j4, .int .i64 j5, .bool b6, .bool b7] 53) = wD := ⟨_, rfl⟩
    have hbD : Below w2.heap.size w2 wD := by rw [← hwD]; exact (Below.refl _ _).alloc (Nat.le_refl _) _
    have x0 : wD.cell? ⟨w2.heap.size, 0, none⟩ = some (.int .i64 j0) := by rw [← hwD]; simp [go_sem]
    have x1 : wD.cell? ⟨w2.heap.size, 1, none⟩ = some (.int .i64 j1) := by rw [← hwD]; simp [go_sem]
    have x2 : wD.cell? ⟨w2.heap.size, 2, none⟩ = some (.int .i64 j2) := by rw [← hwD]; simp [go_sem]
    have x3 : wD.cell? ⟨w2.heap.size, 3, none⟩ = some (.int .i64 j3) := by rw [← hwD]; simp [go_sem]
    have x4 : wD.cell? ⟨w2.heap.size, 4, none⟩ = some (.int .i64 j4) := by rw [← hwD]; simp [go_sem]
    have x5 : wD.cell? ⟨w2.heap.size, 5, none⟩ = some (.int .i64 j5) := by rw [← hwD]; simp [go_sem]
    have x6 : wD.cell? ⟨w2.heap.size, 6, none⟩ = some (.bool b6) := by rw [← hwD]; simp [go_sem]
    have x7 : wD.cell? ⟨w2.heap.size, 7, none⟩ = some (.bool b7) := by rw [← hwD]; simp [go_sem]
    have q0 := cell_below q0 hbD
    have q1 := cell_below q1 hbD
    have q2 := cell_below q2 hbD
    have q3 := cell_below q3 hbD
    have q4 := cell_below q4 hbD
    have q5 := cell_below q5 hbD
    have q6 := cell_below q6 hbD
    have q7 := cell_below q7 hbD
    have hb := below_onN hb hbD hb.size
    clear hb2 hbD hwC
    go_wp2_with fail
    refine (HA.out _).mono ?_
    rintro e wz ⟨rfl, hbz⟩
    go_wp2_with fail
    go_ret
    exact ⟨rfl, below_onN hb hbz hb.size⟩
section
variable {H : Type} {enc : TypeId × Value → H} {W : World} {base : Nat} {sp : Nat → Bool} {held : Bool}
set_option maxRecDepth 100000 in
theorem open_due {v : Value} {d : DataW H} {p : List MemPlace} (hv : Value.okWide Try.prog W .any base 65 v) (h : DataW.Trod enc Try.prog W 0 sp held 65 v d p) :
    ∃ (n r c cr z0 z1 z2 z3 side : Int) (a : Option Addr) (l : List (Int × Int)) (cap : Nat) (least lead : Int), v = .agg #[.int .i64 n, .int .i64 r, .int .i64 c, .int .i64 cr, .int .i64 z0, .int .i64 z1, .int .i64 z2, .int .i64 z3, .int .i64 side, .slice a l.length cap, .int .i64 least, .int .i64 lead] ∧ PairsS W a l ∧ I64 least ∧ I64 lead := by
  obtain ⟨⟨cs⟩, rfl, hsz⟩ := okWide_struct Try.underlying65 hv
  have hC : Try.prog.cellsOf 65 = 12 := by kernel_rfl
  match cs, hsz.trans hC with
  | [c0, c1, c2, c3, c4, c5, c6, c7, c8, c9, c10, c11], _ =>
    obtain ⟨fuel, hf⟩ := h
    obtain ⟨xs, n, _, _, _, hlen, hg⟩ := DataW.trod_struct Try.underlying65 hf
    match xs, hlen with
    | [u0, u1, u2, u3, u4, u5, u6, u7, u8], _ =>
      have g0 := hg 0 _ rfl
      have g1 := hg 1 _ rfl
      have g2 := hg 2 _ rfl
      have g3 := hg 3 _ rfl
      have g4 := hg 4 _ rfl
      have g5 := hg 5 _ rfl
      have g6 := hg 6 _ rfl
      have g7 := hg 7 _ rfl
      have g8 := hg 8 _ rfl
      obtain ⟨n0, rfl, _⟩ := part_int rfl (show DataW.trod enc Try.prog W 0 sp held n 3 [c0] = some u0 from g0)
      obtain ⟨n1, rfl, _⟩ := part_int rfl (show DataW.trod enc Try.prog W 0 sp held n 3 [c1] = some u1 from g1)
      obtain ⟨n2, rfl, _⟩ := part_int rfl (show DataW.trod enc Try.prog W 0 sp held n 3 [c2] = some u2 from g2)
      obtain ⟨n3, rfl, _⟩ := part_int rfl (show DataW.trod enc Try.prog W 0 sp held n 3 [c3] = some u3 from g3)
      obtain ⟨z0, z1, z2, z3, rfl, rfl, rfl, rfl, b0, b1, b2, b3⟩ := part_keep rfl (show DataW.trod enc Try.prog W 0 sp held n 62 [c4, c5, c6, c7] = some u4 from g4)
      obtain ⟨side, rfl, b4⟩ := part_int rfl (show DataW.trod enc Try.prog W 0 sp held n 3 [c8] = some u5 from g5)
      obtain ⟨a, l, cap, rfl, hP, hle⟩ := open_pairs2 Try.underlying63 Try.underlying98 cMeasure rfl rfl rfl rfl (show DataW.trod enc Try.prog W 0 sp held n 63 [c9] = some u6 from g6)
      obtain ⟨least, rfl, b5⟩ := part_int rfl (show DataW.trod enc Try.prog W 0 sp held n 3 [c10] = some u7 from g7)
      obtain ⟨lead, rfl, b6⟩ := part_int rfl (show DataW.trod enc Try.prog W 0 sp held n 3 [c11] = some u8 from g8)
      exact ⟨n0, n1, n2, n3, z0, z1, z2, z3, side, a, l, cap, least, lead, rfl, hP, b5, b6⟩
end
end Go.Proofs.Ytpkafkhdococeaa
