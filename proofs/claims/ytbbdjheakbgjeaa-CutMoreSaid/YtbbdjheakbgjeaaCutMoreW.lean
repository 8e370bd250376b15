/-
  The walk of the law CutMore: it answers true. By an AI agent.
-/
import Derived.Test.YtbbdjheakbgjeaaCutY
import Derived.Test.YtbbdjheakbgjeaaCutH
import Derived.Test.YtbbdjheakbgjeaaCutC
import Derived.Test.YtbbdjheakbgjeaaAppZero
import Derived.StillTailTactics
import Derived.Deep.AppendLies
import Derived.OwnWalk
import Derived.Laws.OwnMore
namespace Go.Proofs.Ytbbdjheakbgjeaa
set_option linter.unusedVariables false
set_option linter.unusedSimpArgs false
open Go.RowKit
theorem share_rest (T : Prop) {G : Prop} (h : Hid T → G) (t : T) : G := h (Lib.hid t)

theorem askInfo : (Try.prog.info? 61).map (fun i => (i.zero, i.size, i.bytes)) = some (some (.agg #[.int .i64 0, .int .i64 0]), 2, 16) := by kernel_rfl
def clS (s : List (Int × Int)) : List Value := s.flatMap fun p => [.int .i64 p.1, .int .i64 p.2]
theorem clS_app (s : List (Int × Int)) (p : Int × Int) : clS (s ++ [p]) = clS s ++ [.int .i64 p.1, .int .i64 p.2] := by simp [clS]
theorem clS_0 : ∀ (s : List (Int × Int)) (i : Nat), i < s.length → (clS s)[i * 2]? = some (.int .i64 (gp s i).1)
  | [], i, hi => by simp at hi
  | p :: s, 0, hi => by simp [clS, gp]
  | p :: s, i + 1, hi => by
    have ih := clS_0 s i (by simpa using hi)
    unfold clS gp at *
    rw [List.flatMap_cons, List.getElem?_append_right (by simp; omega), show (i + 1) * 2 - [Value.int .i64 p.1, .int .i64 p.2].length = i * 2 from by simp; omega, ih]
    rfl
theorem clS_1 : ∀ (s : List (Int × Int)) (i : Nat), i < s.length → (clS s)[i * 2 + 1]? = some (.int .i64 (gp s i).2)
  | [], i, hi => by simp at hi
  | p :: s, 0, hi => by simp [clS, gp]
  | p :: s, i + 1, hi => by
    have ih := clS_1 s i (by simpa using hi)
    unfold clS gp at *
    rw [List.flatMap_cons, List.getElem?_append_right (by simp; omega), show (i + 1) * 2 + 1 - [Value.int .i64 p.1, .int .i64 p.2].length = i * 2 + 1 from by simp; omega, ih]
    rfl
theorem clS_set : ∀ (s : List (Int × Int)) (i : Nat) (b : Int), i < s.length → (clS s).set (i * 2 + 1) (.int .i64 b) = clS (s.set i ((gp s i).1, b))
  | [], i, b, hi => by simp at hi
  | p :: s, 0, b, hi => by simp [clS, gp]
  | p :: s, i + 1, b, hi => by
    have ih := clS_set s i b (by simpa using hi)
    unfold clS gp at *
    rw [List.flatMap_cons, List.set_append_right _ _ (by simp; omega), show (i + 1) * 2 + 1 - [Value.int .i64 p.1, .int .i64 p.2].length = i * 2 + 1 from by simp; omega, ih]
    rfl
theorem gp_set {s : List (Int × Int)} {i j : Nat} {x : Int × Int} (hi : i < s.length) : gp (s.set i x) j = if j = i then x else gp s j := by
  unfold gp
  by_cases h : j = i
  · subst h; rw [if_pos rfl, List.getD_eq_getElem?_getD, List.getElem?_set_self hi]; rfl
  · rw [if_neg h, List.getD_eq_getElem?_getD, List.getElem?_set_ne (fun e => h e.symm), List.getD_eq_getElem?_getD]
theorem pairs_own {w : World} {base c : Nat} {a : Option Addr} {s : List (Int × Int)} (h : w.ownsRow base 61 2 (.slice a s.length c) s.length (clS s)) (hn : s.length ≤ 9223372036854775807) (hf : ∀ j, j < s.length → I64 (gp s j).1 ∧ I64 (gp s j).2) : PairsS w a s := by
  refine ⟨hn, hf, ?_⟩
  rcases h.2 with ⟨h1, h2⟩ | ⟨g2, c2, cur, h1, _⟩
  · exact ⟨0, 0, (fun hne => absurd (List.eq_nil_of_length_eq_zero h2) hne), fun i hi => by omega⟩
  · obtain ⟨rfl, rfl⟩ : a = some ⟨g2, 0, none⟩ ∧ c = c2 := by simpa using h1
    refine ⟨g2, 0, fun _ => rfl, fun i hi => ⟨?_, ?_⟩⟩
    · rw [Nat.zero_add, World.ownsRow.cellAt h (i * 2) (by omega)]; exact clS_0 s i hi
    · rw [Nat.zero_add, World.ownsRow.cellAt h (i * 2 + 1) (by omega)]; exact clS_1 s i hi

theorem clS_len (s : List (Int × Int)) : (clS s).length = s.length * 2 := by
  induction s with
  | nil => rfl
  | cons p s ih =>
    have : clS (p :: s) = .int .i64 p.1 :: .int .i64 p.2 :: clS s := rfl
    rw [this, List.length_cons, List.length_cons, ih, List.length_cons]; omega
theorem clS_one (s : List (Int × Int)) : ∀ u, u ∈ clS s → u.oneCell' = true := by
  intro u hu
  unfold clS at hu
  obtain ⟨p, _, hp⟩ := List.mem_flatMap.1 hu
  simp at hp
  rcases hp with rfl | rfl <;> rfl
theorem clS_news {W : World} {blk off : Nat} {l : List (Int × Int)} (h : ∀ i, i < l.length → W.cell? ⟨blk, off + i * 2, none⟩ = some (.int .i64 (gp l i).1) ∧ W.cell? ⟨blk, off + i * 2 + 1, none⟩ = some (.int .i64 (gp l i).2)) (j : Nat) (u : Value) (hu : (clS l)[j]? = some u) : W.cell? ⟨blk, off + j, none⟩ = some u := by
  have hj : j < l.length * 2 := by rw [← clS_len]; exact (List.getElem?_eq_some_iff.1 hu).1
  obtain ⟨i, hi⟩ : ∃ i, j = i * 2 ∨ j = i * 2 + 1 := ⟨j / 2, by omega⟩
  rcases hi with rfl | rfl
  · have := clS_0 l i (by omega)
    rw [this] at hu
    rw [(h i (by omega)).1]; exact hu
  · have := clS_1 l i (by omega)
    rw [this] at hu
    rw [show off + (i * 2 + 1) = off + i * 2 + 1 by omega, (h i (by omega)).2]; exact hu

/-- A box of a cutting in a block. -/
def Box3 (W : World) (b : Nat) (L K : Int) (s : Value) : Prop := W.cell? ⟨b, 0, none⟩ = some (.int .i64 L) ∧ W.cell? ⟨b, 1, none⟩ = some (.int .i64 K) ∧ W.cell? ⟨b, 2, none⟩ = some s ∧ W.frozen? ⟨b, 0, none⟩ = false ∧ W.frozen? ⟨b, 1, none⟩ = false ∧ W.frozen? ⟨b, 2, none⟩ = false

set_option maxRecDepth 100000 in
set_option maxHeartbeats 8000000 in
theorem cutMore_any (L K : Int) (aa : Option Addr) (l : List (Int × Int)) (ca : Nat) (m0 m1 m2 : Int) (w : World) (hA : PairsS w aa l) (hm0 : 0 ≤ m0 ∧ m0 ≤ 255) (hm1 : 0 ≤ m1 ∧ m1 ≤ 255) (hm2 : 0 ≤ m2 ∧ m2 ≤ 255) :
    Calls Try.prog 6 #[.agg #[.int .i64 L, .int .i64 K, .slice aa l.length ca], .agg #[.int .u8 m0, .int .u8 m1, .int .u8 m2]] w fun E w' => E = .returned (.bool true) ∧ Below w.heap.size w w' := by
  have hlA := hA.1
  have HU := Lib.hid (fun W (hW : Below w.heap.size w W) => refValid_any L K aa l ca W (hA.below hW))
  have H1 := Lib.hid awake_any
  have hS : InBox w ((w.alloc (.cells #[.int .i64 L, .int .i64 K, (.slice aa l.length ca)] 54)).alloc (.cells #[.int .u8 m0, .int .u8 m1, .int .u8 m2] 59)) L K (.slice aa l.length ca) := (InBox.start w L K (.slice aa l.length ca) 54).on ((Below.refl _ _).alloc (Nat.le_refl _) _)
  have HFw : Hid (CutOk L K l → ∀ W, Below w.heap.size w W → Calls Try.prog 20 #[.agg #[.int .i64 L, .int .i64 K, .slice aa l.length ca], .int .i64 10] W fun e w' => e = .returned (.bool (decide (((szL 0 l l.length).length : Int) ≤ 10))) ∧ Below W.heap.size W w') := Lib.hid fun hok W hW => few_any L K aa l ca 10 W (hA.below hW) hok (by omega) (by omega)
  have HLe : Hid (∀ L' K' aa' l' ca' W, PairsS W aa' l' → Calls Try.prog 22 #[.agg #[.int .i64 L', .int .i64 K', .slice aa' l'.length ca']] W fun e w' => e = .returned (.tuple #[.int .i64 (leastV L' K' l'), .int .i64 (leastE L' K' l')]) ∧ Below W.heap.size W w') := Lib.hid fun L' K' aa' l' ca' W h => Least_any L' K' aa' l' ca' W h
  have HA := Lib.hid hA
  clear hA
  go_enter Try.func6, Try.ntmps6
  go_wp2_with fail
  obtain ⟨wB, hwB⟩ : ∃ wB, (w.alloc (.cells #[.int .i64 L, .int .i64 K, (.slice aa l.length ca)] 54)).alloc (.cells #[.int .u8 m0, .int .u8 m1, .int .u8 m2] 59) = wB := ⟨_, rfl⟩
  have s0 : wB.cell? ⟨w.heap.size + 1, 0, none⟩ = some (.int .u8 m0) := by rw [← hwB]; simp [go_sem]
  have s1 : wB.cell? ⟨w.heap.size + 1, 1, none⟩ = some (.int .u8 m1) := by rw [← hwB]; simp [go_sem]
  have s2 : wB.cell? ⟨w.heap.size + 1, 2, none⟩ = some (.int .u8 m2) := by rw [← hwB]; simp [go_sem]
  rw [hwB] at hS ⊢
  clear hwB
  refine (HU.out _ hS.1).mono ?_
  rintro E w1 ⟨rfl, hb1⟩
  have hS := hS.on hb1
  have s0 := cell_below s0 hb1
  have s1 := cell_below s1 hb1
  have s2 := cell_below s2 hb1
  clear hb1
  by_cases hv : cutB L K l = true
  rotate_left
  · have hv : cutB L K l = false := by simpa using hv
    rw [hv]
    obtain ⟨hB, p0, p1, p2⟩ := hS
    go_wp2_with fail
    refine (H1.out _).mono ?_
    rintro E w8 ⟨rfl, hb8⟩
    go_wp2_with fail
    go_ret
    exact ⟨rfl, hB.trans (hb8.mono hB.size)⟩
  · have hok := cutB_iff.1 hv
    rw [hv]
    have HFw := Lib.hid (HFw.out hok)
    have HS1 := Lib.hid hS
    obtain ⟨hB, p0, p1, p2⟩ := hS
    go_wp2_with fail
    refine (HFw.out _ hB).mono ?_
    rintro E w2 ⟨rfl, hb2⟩
    have HS2 := Lib.hid (HS1.out.on hb2)
    have s0 := cell_below s0 hb2
    have s1 := cell_below s1 hb2
    have s2 := cell_below s2 hb2
    clear p0 p1 p2 hB HS1 hb2 HFw HU
    obtain ⟨hB, p0, p1, p2⟩ := HS2.out
    by_cases h10 : (szL 0 l l.length).length ≤ 10
    rotate_left
    · have e10 : decide (((szL 0 l l.length).length : Int) ≤ 10) = false := by simp; omega
      rw [e10]
      go_wp2_with fail
      refine (H1.out _).mono ?_
      rintro E w8 ⟨rfl, hb8⟩
      go_wp2_with fail
      go_ret
      exact ⟨rfl, hB.trans (hb8.mono hB.size)⟩
    · have e10 : decide (((szL 0 l l.length).length : Int) ≤ 10) = true := by simp; omega
      rw [e10]
      obtain ⟨f1, f2, f3⟩ := least_few hok h10
      go_wp2_with fail
      refine (HLe.out L K aa l ca _ (HA.out.below hB)).mono ?_
      rintro E w3 ⟨rfl, hb3⟩
      have HS3 := Lib.hid (HS2.out.on hb3)
      have s0 := cell_below s0 hb3
      have s1 := cell_below s1 hb3
      have s2 := cell_below s2 hb3
      rw [f2]
      clear p0 p1 p2 hB HS2 hb3
      obtain ⟨hB, p0, p1, p2⟩ := HS3.out
      generalize hR : leastV L K l = R
      go_wp2_with fail
      have hz0 : w.heap.size < w3.heap.size := block_lt p0
      have wm0 : IntKind.i64.wrap m0 = m0 := IntWalk.i64_in _ (by omega)
      have wm1 : IntKind.i64.wrap m1 = m1 := IntWalk.i64_in _ (by omega)
      have wm2 : IntKind.i64.wrap m2 = m2 := IntWalk.i64_in _ (by omega)
      have hok1 := hok.1
      have hok2 := hok.2.1
      have wL0 : IntKind.i64.wrap (L + m0) = L + m0 := IntWalk.i64_in _ (by omega)
      have wK1 : IntKind.i64.wrap (K + 1) = K + 1 := IntWalk.i64_in _ (by omega)
      have nK1 : ¬ K + 1 = 0 := by omega
      have n1 : w.heap.size ≠ w3.heap.size := by omega
      have n2 : w.heap.size ≠ w3.heap.size + 1 := by omega
      have n3 : w.heap.size ≠ w3.heap.size + 1 + 1 := by omega
      have n4 : w.heap.size ≠ w3.heap.size + 2 := by omega
      have q1 : ∀ c1 o, ((w3.alloc (.cells c1 54)).drew).cell? ⟨w.heap.size, o, none⟩ = w3.cell? ⟨w.heap.size, o, none⟩ := fun c1 o => ((((Below.refl _ _).alloc (Nat.le_refl _) _ : Below w3.heap.size w3 (w3.alloc (.cells c1 54))).drew).cell (p := ⟨w.heap.size, o, none⟩) hz0)
      have q2 : ∀ c1 c2 o, (((w3.alloc (.cells c1 54)).alloc (.cells c2 54)).drew).cell? ⟨w.heap.size, o, none⟩ = w3.cell? ⟨w.heap.size, o, none⟩ := fun c1 c2 o => (((((Below.refl _ _).alloc (Nat.le_refl _) _ : Below w3.heap.size w3 (w3.alloc (.cells c1 54))).alloc (by simp) _).drew).cell (p := ⟨w.heap.size, o, none⟩) hz0)
      have q3 : ∀ c1 c2 c3 o, ((((w3.alloc (.cells c1 54)).alloc (.cells c2 54)).alloc (.cells c3 54)).drew).cell? ⟨w.heap.size, o, none⟩ = w3.cell? ⟨w.heap.size, o, none⟩ := fun c1 c2 c3 o => ((((((Below.refl _ _).alloc (Nat.le_refl _) _ : Below w3.heap.size w3 (w3.alloc (.cells c1 54))).alloc (by simp) _).alloc (by simp; omega) _).drew).cell (p := ⟨w.heap.size, o, none⟩) hz0)
      have HP : Hid (∀ L', L' = min 1000 (L + m0) → CutOk L' K l ∧ L ≤ L') := Lib.hid fun L' h => by
        refine ⟨⟨by omega, hok.2.1, hok.2.2.1, fun j hj => ?_⟩, by omega⟩
        have := hok.2.2.2 j hj
        unfold asksOk at this ⊢
        omega
      have s00 := s0
      apply share_rest
      case h =>
        intro key
        go_region
        · obtain ⟨wD, hwD⟩ : ∃ wD, ((((w3.alloc (.cells #[.int .i64 L, .int .i64 K, (.slice aa l.length ca)] 54)).alloc (.cells #[.int .i64 L, .int .i64 K, (.slice aa l.length ca)] 54)).alloc (.cells #[.int .i64 L, .int .i64 K, (.slice aa l.length ca)] 54)).drew) = wD := ⟨_, rfl⟩
          rw [hwD]
          have hbD : Below w3.heap.size w3 wD := by
            rw [← hwD]
            exact ((((Below.refl _ _).alloc (Nat.le_refl _) _ : Below w3.heap.size w3 (w3.alloc (.cells #[.int .i64 L, .int .i64 K, (.slice aa l.length ca)] 54))).alloc (by simp) _).alloc (by simp; omega) _).drew
          have hsD : wD.heap.size = w3.heap.size + 1 + 1 + 1 := by rw [← hwD]; simp
          have D0 : Box3 wD (w3.heap.size) L K (.slice aa l.length ca) := by rw [← hwD]; exact ⟨by simp [go_sem], by simp [go_sem], by simp [go_sem], by simp [go_sem], by simp [go_sem], by simp [go_sem]⟩
          have D1 : Box3 wD (w3.heap.size + 1) L K (.slice aa l.length ca) := by rw [← hwD]; exact ⟨by simp [go_sem], by simp [go_sem], by simp [go_sem], by simp [go_sem], by simp [go_sem], by simp [go_sem]⟩
          have D2 : Box3 wD (w3.heap.size + 1 + 1) L K (.slice aa l.length ca) := by rw [← hwD]; exact ⟨by simp [go_sem], by simp [go_sem], by simp [go_sem], by simp [go_sem], by simp [go_sem], by simp [go_sem]⟩
          clear hwD
          have HSD := Lib.hid (HS3.out.on hbD)
          have s0 := cell_below s0 hbD
          have s1 := cell_below s1 hbD
          have s2 := cell_below s2 hbD
          have zs := block_lt s0
          have zs3 : w.heap.size + 1 < w3.heap.size := by have := block_lt s00; omega
          have H7 := D0
          have H8 := D1
          have H9 := D2
          clear D0 D1 D2
          obtain ⟨x9, e9⟩ : ∃ x, w3.heap.size + 1 + 1 = x := ⟨_, rfl⟩
          obtain ⟨x8, e8⟩ : ∃ x, w3.heap.size + 1 = x := ⟨_, rfl⟩
          obtain ⟨x7, e7⟩ : ∃ x, w3.heap.size = x := ⟨_, rfl⟩
          rw [e9] at H9 ⊢
          rw [e8] at H8 ⊢
          rw [e7] at H7 ⊢
          have n78 : x7 ≠ x8 := by omega
          have n79 : x7 ≠ x9 := by omega
          have n89 : x8 ≠ x9 := by omega
          have n87 : x8 ≠ x7 := by omega
          have n97 : x9 ≠ x7 := by omega
          have n98 : x9 ≠ x8 := by omega
          have m7 : w.heap.size ≠ x7 := by omega
          have m8 : w.heap.size ≠ x8 := by omega
          have m9 : w.heap.size ≠ x9 := by omega
          have o7 : w.heap.size + 1 ≠ x7 := by omega
          have o8 : w.heap.size + 1 ≠ x8 := by omega
          have o9 : w.heap.size + 1 ≠ x9 := by omega
          have b7 : w.heap.size < x7 := by omega
          have b8 : w.heap.size < x8 := by omega
          have b9 : w.heap.size < x9 := by omega
          have z7 : x7 < wD.heap.size := by omega
          have z8 : x8 < wD.heap.size := by omega
          have z9 : x9 < wD.heap.size := by omega
          clear e7 e8 e9 hsD hbD zs3
          revert n78
          revert n79
          revert n89
          revert n87
          revert n97
          revert n98
          revert m7
          revert m8
          revert m9
          revert o7
          revert o8
          revert o9
          revert b7
          revert b8
          revert b9
          revert z7
          revert z8
          revert z9
          revert H7
          revert H8
          revert H9
          revert HSD
          revert s0
          revert s1
          revert s2
          revert zs
          revert x9
          revert x8
          revert x7
          revert wD
          exact key.out
        · obtain ⟨wD, hwD⟩ : ∃ wD, ((((w3.alloc (.cells #[.int .i64 L, .int .i64 K, (.slice aa l.length ca)] 54)).alloc (.cells #[.int .i64 L, .int .i64 K, (.slice aa l.length ca)] 54)).alloc (.cells #[.int .i64 L, .int .i64 K, (.slice aa l.length ca)] 54)).drew) = wD := ⟨_, rfl⟩
          rw [hwD]
          have hbD : Below w3.heap.size w3 wD := by
            rw [← hwD]
            exact ((((Below.refl _ _).alloc (Nat.le_refl _) _ : Below w3.heap.size w3 (w3.alloc (.cells #[.int .i64 L, .int .i64 K, (.slice aa l.length ca)] 54))).alloc (by simp) _).alloc (by simp; omega) _).drew
          have hsD : wD.heap.size = w3.heap.size + 1 + 1 + 1 := by rw [← hwD]; simp
          have D0 : Box3 wD (w3.heap.size) L K (.slice aa l.length ca) := by rw [← hwD]; exact ⟨by simp [go_sem], by simp [go_sem], by simp [go_sem], by simp [go_sem], by simp [go_sem], by simp [go_sem]⟩
          have D1 : Box3 wD (w3.heap.size + 1) L K (.slice aa l.length ca) := by rw [← hwD]; exact ⟨by simp [go_sem], by simp [go_sem], by simp [go_sem], by simp [go_sem], by simp [go_sem], by simp [go_sem]⟩
          have D2 : Box3 wD (w3.heap.size + 1 + 1) L K (.slice aa l.length ca) := by rw [← hwD]; exact ⟨by simp [go_sem], by simp [go_sem], by simp [go_sem], by simp [go_sem], by simp [go_sem], by simp [go_sem]⟩
          clear hwD
          have HSD := Lib.hid (HS3.out.on hbD)
          have s0 := cell_below s0 hbD
          have s1 := cell_below s1 hbD
          have s2 := cell_below s2 hbD
          have zs := block_lt s0
          have zs3 : w.heap.size + 1 < w3.heap.size := by have := block_lt s00; omega
          have H7 := D0
          have H8 := D2
          have H9 := D1
          clear D0 D1 D2
          obtain ⟨x8, e8⟩ : ∃ x, w3.heap.size + 1 + 1 = x := ⟨_, rfl⟩
          obtain ⟨x9, e9⟩ : ∃ x, w3.heap.size + 1 = x := ⟨_, rfl⟩
          obtain ⟨x7, e7⟩ : ∃ x, w3.heap.size = x := ⟨_, rfl⟩
          rw [e8] at H8 ⊢
          rw [e9] at H9 ⊢
          rw [e7] at H7 ⊢
          have n78 : x7 ≠ x8 := by omega
          have n79 : x7 ≠ x9 := by omega
          have n89 : x8 ≠ x9 := by omega
          have n87 : x8 ≠ x7 := by omega
          have n97 : x9 ≠ x7 := by omega
          have n98 : x9 ≠ x8 := by omega
          have m7 : w.heap.size ≠ x7 := by omega
          have m8 : w.heap.size ≠ x8 := by omega
          have m9 : w.heap.size ≠ x9 := by omega
          have o7 : w.heap.size + 1 ≠ x7 := by omega
          have o8 : w.heap.size + 1 ≠ x8 := by omega
          have o9 : w.heap.size + 1 ≠ x9 := by omega
          have b7 : w.heap.size < x7 := by omega
          have b8 : w.heap.size < x8 := by omega
          have b9 : w.heap.size < x9 := by omega
          have z7 : x7 < wD.heap.size := by omega
          have z8 : x8 < wD.heap.size := by omega
          have z9 : x9 < wD.heap.size := by omega
          clear e7 e8 e9 hsD hbD zs3
          revert n78
          revert n79
          revert n89
          revert n87
          revert n97
          revert n98
          revert m7
          revert m8
          revert m9
          revert o7
          revert o8
          revert o9
          revert b7
          revert b8
          revert b9
          revert z7
          revert z8
          revert z9
          revert H7
          revert H8
          revert H9
          revert HSD
          revert s0
          revert s1
          revert s2
          revert zs
          revert x9
          revert x8
          revert x7
          revert wD
          exact key.out
        · obtain ⟨wD, hwD⟩ : ∃ wD, ((((w3.alloc (.cells #[.int .i64 L, .int .i64 K, (.slice aa l.length ca)] 54)).alloc (.cells #[.int .i64 L, .int .i64 K, (.slice aa l.length ca)] 54)).alloc (.cells #[.int .i64 L, .int .i64 K, (.slice aa l.length ca)] 54)).drew) = wD := ⟨_, rfl⟩
          rw [hwD]
          have hbD : Below w3.heap.size w3 wD := by
            rw [← hwD]
            exact ((((Below.refl _ _).alloc (Nat.le_refl _) _ : Below w3.heap.size w3 (w3.alloc (.cells #[.int .i64 L, .int .i64 K, (.slice aa l.length ca)] 54))).alloc (by simp) _).alloc (by simp; omega) _).drew
          have hsD : wD.heap.size = w3.heap.size + 1 + 1 + 1 := by rw [← hwD]; simp
          have D0 : Box3 wD (w3.heap.size) L K (.slice aa l.length ca) := by rw [← hwD]; exact ⟨by simp [go_sem], by simp [go_sem], by simp [go_sem], by simp [go_sem], by simp [go_sem], by simp [go_sem]⟩
          have D1 : Box3 wD (w3.heap.size + 1) L K (.slice aa l.length ca) := by rw [← hwD]; exact ⟨by simp [go_sem], by simp [go_sem], by simp [go_sem], by simp [go_sem], by simp [go_sem], by simp [go_sem]⟩
          have D2 : Box3 wD (w3.heap.size + 1 + 1) L K (.slice aa l.length ca) := by rw [← hwD]; exact ⟨by simp [go_sem], by simp [go_sem], by simp [go_sem], by simp [go_sem], by simp [go_sem], by simp [go_sem]⟩
          clear hwD
          have HSD := Lib.hid (HS3.out.on hbD)
          have s0 := cell_below s0 hbD
          have s1 := cell_below s1 hbD
          have s2 := cell_below s2 hbD
          have zs := block_lt s0
          have zs3 : w.heap.size + 1 < w3.heap.size := by have := block_lt s00; omega
          have H7 := D1
          have H8 := D0
          have H9 := D2
          clear D0 D1 D2
          obtain ⟨x9, e9⟩ : ∃ x, w3.heap.size + 1 + 1 = x := ⟨_, rfl⟩
          obtain ⟨x7, e7⟩ : ∃ x, w3.heap.size + 1 = x := ⟨_, rfl⟩
          obtain ⟨x8, e8⟩ : ∃ x, w3.heap.size = x := ⟨_, rfl⟩
          rw [e9] at H9 ⊢
          rw [e7] at H7 ⊢
          rw [e8] at H8 ⊢
          have n78 : x7 ≠ x8 := by omega
          have n79 : x7 ≠ x9 := by omega
          have n89 : x8 ≠ x9 := by omega
          have n87 : x8 ≠ x7 := by omega
          have n97 : x9 ≠ x7 := by omega
          have n98 : x9 ≠ x8 := by omega
          have m7 : w.heap.size ≠ x7 := by omega
          have m8 : w.heap.size ≠ x8 := by omega
          have m9 : w.heap.size ≠ x9 := by omega
          have o7 : w.heap.size + 1 ≠ x7 := by omega
          have o8 : w.heap.size + 1 ≠ x8 := by omega
          have o9 : w.heap.size + 1 ≠ x9 := by omega
          have b7 : w.heap.size < x7 := by omega
          have b8 : w.heap.size < x8 := by omega
          have b9 : w.heap.size < x9 := by omega
          have z7 : x7 < wD.heap.size := by omega
          have z8 : x8 < wD.heap.size := by omega
          have z9 : x9 < wD.heap.size := by omega
          clear e7 e8 e9 hsD hbD zs3
          revert n78
          revert n79
          revert n89
          revert n87
          revert n97
          revert n98
          revert m7
          revert m8
          revert m9
          revert o7
          revert o8
          revert o9
          revert b7
          revert b8
          revert b9
          revert z7
          revert z8
          revert z9
          revert H7
          revert H8
          revert H9
          revert HSD
          revert s0
          revert s1
          revert s2
          revert zs
          revert x9
          revert x8
          revert x7
          revert wD
          exact key.out
        · obtain ⟨wD, hwD⟩ : ∃ wD, ((((w3.alloc (.cells #[.int .i64 L, .int .i64 K, (.slice aa l.length ca)] 54)).alloc (.cells #[.int .i64 L, .int .i64 K, (.slice aa l.length ca)] 54)).alloc (.cells #[.int .i64 L, .int .i64 K, (.slice aa l.length ca)] 54)).drew) = wD := ⟨_, rfl⟩
          rw [hwD]
          have hbD : Below w3.heap.size w3 wD := by
            rw [← hwD]
            exact ((((Below.refl _ _).alloc (Nat.le_refl _) _ : Below w3.heap.size w3 (w3.alloc (.cells #[.int .i64 L, .int .i64 K, (.slice aa l.length ca)] 54))).alloc (by simp) _).alloc (by simp; omega) _).drew
          have hsD : wD.heap.size = w3.heap.size + 1 + 1 + 1 := by rw [← hwD]; simp
          have D0 : Box3 wD (w3.heap.size) L K (.slice aa l.length ca) := by rw [← hwD]; exact ⟨by simp [go_sem], by simp [go_sem], by simp [go_sem], by simp [go_sem], by simp [go_sem], by simp [go_sem]⟩
          have D1 : Box3 wD (w3.heap.size + 1) L K (.slice aa l.length ca) := by rw [← hwD]; exact ⟨by simp [go_sem], by simp [go_sem], by simp [go_sem], by simp [go_sem], by simp [go_sem], by simp [go_sem]⟩
          have D2 : Box3 wD (w3.heap.size + 1 + 1) L K (.slice aa l.length ca) := by rw [← hwD]; exact ⟨by simp [go_sem], by simp [go_sem], by simp [go_sem], by simp [go_sem], by simp [go_sem], by simp [go_sem]⟩
          clear hwD
          have HSD := Lib.hid (HS3.out.on hbD)
          have s0 := cell_below s0 hbD
          have s1 := cell_below s1 hbD
          have s2 := cell_below s2 hbD
          have zs := block_lt s0
          have zs3 : w.heap.size + 1 < w3.heap.size := by have := block_lt s00; omega
          have H7 := D2
          have H8 := D0
          have H9 := D1
          clear D0 D1 D2
          obtain ⟨x7, e7⟩ : ∃ x, w3.heap.size + 1 + 1 = x := ⟨_, rfl⟩
          obtain ⟨x9, e9⟩ : ∃ x, w3.heap.size + 1 = x := ⟨_, rfl⟩
          obtain ⟨x8, e8⟩ : ∃ x, w3.heap.size = x := ⟨_, rfl⟩
          rw [e7] at H7 ⊢
          rw [e9] at H9 ⊢
          rw [e8] at H8 ⊢
          have n78 : x7 ≠ x8 := by omega
          have n79 : x7 ≠ x9 := by omega
          have n89 : x8 ≠ x9 := by omega
          have n87 : x8 ≠ x7 := by omega
          have n97 : x9 ≠ x7 := by omega
          have n98 : x9 ≠ x8 := by omega
          have m7 : w.heap.size ≠ x7 := by omega
          have m8 : w.heap.size ≠ x8 := by omega
          have m9 : w.heap.size ≠ x9 := by omega
          have o7 : w.heap.size + 1 ≠ x7 := by omega
          have o8 : w.heap.size + 1 ≠ x8 := by omega
          have o9 : w.heap.size + 1 ≠ x9 := by omega
          have b7 : w.heap.size < x7 := by omega
          have b8 : w.heap.size < x8 := by omega
          have b9 : w.heap.size < x9 := by omega
          have z7 : x7 < wD.heap.size := by omega
          have z8 : x8 < wD.heap.size := by omega
          have z9 : x9 < wD.heap.size := by omega
          clear e7 e8 e9 hsD hbD zs3
          revert n78
          revert n79
          revert n89
          revert n87
          revert n97
          revert n98
          revert m7
          revert m8
          revert m9
          revert o7
          revert o8
          revert o9
          revert b7
          revert b8
          revert b9
          revert z7
          revert z8
          revert z9
          revert H7
          revert H8
          revert H9
          revert HSD
          revert s0
          revert s1
          revert s2
          revert zs
          revert x9
          revert x8
          revert x7
          revert wD
          exact key.out
        · obtain ⟨wD, hwD⟩ : ∃ wD, ((((w3.alloc (.cells #[.int .i64 L, .int .i64 K, (.slice aa l.length ca)] 54)).alloc (.cells #[.int .i64 L, .int .i64 K, (.slice aa l.length ca)] 54)).alloc (.cells #[.int .i64 L, .int .i64 K, (.slice aa l.length ca)] 54)).drew) = wD := ⟨_, rfl⟩
          rw [hwD]
          have hbD : Below w3.heap.size w3 wD := by
            rw [← hwD]
            exact ((((Below.refl _ _).alloc (Nat.le_refl _) _ : Below w3.heap.size w3 (w3.alloc (.cells #[.int .i64 L, .int .i64 K, (.slice aa l.length ca)] 54))).alloc (by simp) _).alloc (by simp; omega) _).drew
          have hsD : wD.heap.size = w3.heap.size + 1 + 1 + 1 := by rw [← hwD]; simp
          have D0 : Box3 wD (w3.heap.size) L K (.slice aa l.length ca) := by rw [← hwD]; exact ⟨by simp [go_sem], by simp [go_sem], by simp [go_sem], by simp [go_sem], by simp [go_sem], by simp [go_sem]⟩
          have D1 : Box3 wD (w3.heap.size + 1) L K (.slice aa l.length ca) := by rw [← hwD]; exact ⟨by simp [go_sem], by simp [go_sem], by simp [go_sem], by simp [go_sem], by simp [go_sem], by simp [go_sem]⟩
          have D2 : Box3 wD (w3.heap.size + 1 + 1) L K (.slice aa l.length ca) := by rw [← hwD]; exact ⟨by simp [go_sem], by simp [go_sem], by simp [go_sem], by simp [go_sem], by simp [go_sem], by simp [go_sem]⟩
          clear hwD
          have HSD := Lib.hid (HS3.out.on hbD)
          have s0 := cell_below s0 hbD
          have s1 := cell_below s1 hbD
          have s2 := cell_below s2 hbD
          have zs := block_lt s0
          have zs3 : w.heap.size + 1 < w3.heap.size := by have := block_lt s00; omega
          have H7 := D1
          have H8 := D2
          have H9 := D0
          clear D0 D1 D2
          obtain ⟨x8, e8⟩ : ∃ x, w3.heap.size + 1 + 1 = x := ⟨_, rfl⟩
          obtain ⟨x7, e7⟩ : ∃ x, w3.heap.size + 1 = x := ⟨_, rfl⟩
          obtain ⟨x9, e9⟩ : ∃ x, w3.heap.size = x := ⟨_, rfl⟩
          rw [e8] at H8 ⊢
          rw [e7] at H7 ⊢
          rw [e9] at H9 ⊢
          have n78 : x7 ≠ x8 := by omega
          have n79 : x7 ≠ x9 := by omega
          have n89 : x8 ≠ x9 := by omega
          have n87 : x8 ≠ x7 := by omega
          have n97 : x9 ≠ x7 := by omega
          have n98 : x9 ≠ x8 := by omega
          have m7 : w.heap.size ≠ x7 := by omega
          have m8 : w.heap.size ≠ x8 := by omega
          have m9 : w.heap.size ≠ x9 := by omega
          have o7 : w.heap.size + 1 ≠ x7 := by omega
          have o8 : w.heap.size + 1 ≠ x8 := by omega
          have o9 : w.heap.size + 1 ≠ x9 := by omega
          have b7 : w.heap.size < x7 := by omega
          have b8 : w.heap.size < x8 := by omega
          have b9 : w.heap.size < x9 := by omega
          have z7 : x7 < wD.heap.size := by omega
          have z8 : x8 < wD.heap.size := by omega
          have z9 : x9 < wD.heap.size := by omega
          clear e7 e8 e9 hsD hbD zs3
          revert n78
          revert n79
          revert n89
          revert n87
          revert n97
          revert n98
          revert m7
          revert m8
          revert m9
          revert o7
          revert o8
          revert o9
          revert b7
          revert b8
          revert b9
          revert z7
          revert z8
          revert z9
          revert H7
          revert H8
          revert H9
          revert HSD
          revert s0
          revert s1
          revert s2
          revert zs
          revert x9
          revert x8
          revert x7
          revert wD
          exact key.out
        · obtain ⟨wD, hwD⟩ : ∃ wD, ((((w3.alloc (.cells #[.int .i64 L, .int .i64 K, (.slice aa l.length ca)] 54)).alloc (.cells #[.int .i64 L, .int .i64 K, (.slice aa l.length ca)] 54)).alloc (.cells #[.int .i64 L, .int .i64 K, (.slice aa l.length ca)] 54)).drew) = wD := ⟨_, rfl⟩
          rw [hwD]
          have hbD : Below w3.heap.size w3 wD := by
            rw [← hwD]
            exact ((((Below.refl _ _).alloc (Nat.le_refl _) _ : Below w3.heap.size w3 (w3.alloc (.cells #[.int .i64 L, .int .i64 K, (.slice aa l.length ca)] 54))).alloc (by simp) _).alloc (by simp; omega) _).drew
          have hsD : wD.heap.size = w3.heap.size + 1 + 1 + 1 := by rw [← hwD]; simp
          have D0 : Box3 wD (w3.heap.size) L K (.slice aa l.length ca) := by rw [← hwD]; exact ⟨by simp [go_sem], by simp [go_sem], by simp [go_sem], by simp [go_sem], by simp [go_sem], by simp [go_sem]⟩
          have D1 : Box3 wD (w3.heap.size + 1) L K (.slice aa l.length ca) := by rw [← hwD]; exact ⟨by simp [go_sem], by simp [go_sem], by simp [go_sem], by simp [go_sem], by simp [go_sem], by simp [go_sem]⟩
          have D2 : Box3 wD (w3.heap.size + 1 + 1) L K (.slice aa l.length ca) := by rw [← hwD]; exact ⟨by simp [go_sem], by simp [go_sem], by simp [go_sem], by simp [go_sem], by simp [go_sem], by simp [go_sem]⟩
          clear hwD
          have HSD := Lib.hid (HS3.out.on hbD)
          have s0 := cell_below s0 hbD
          have s1 := cell_below s1 hbD
          have s2 := cell_below s2 hbD
          have zs := block_lt s0
          have zs3 : w.heap.size + 1 < w3.heap.size := by have := block_lt s00; omega
          have H7 := D2
          have H8 := D1
          have H9 := D0
          clear D0 D1 D2
          obtain ⟨x7, e7⟩ : ∃ x, w3.heap.size + 1 + 1 = x := ⟨_, rfl⟩
          obtain ⟨x8, e8⟩ : ∃ x, w3.heap.size + 1 = x := ⟨_, rfl⟩
          obtain ⟨x9, e9⟩ : ∃ x, w3.heap.size = x := ⟨_, rfl⟩
          rw [e7] at H7 ⊢
          rw [e8] at H8 ⊢
          rw [e9] at H9 ⊢
          have n78 : x7 ≠ x8 := by omega
          have n79 : x7 ≠ x9 := by omega
          have n89 : x8 ≠ x9 := by omega
          have n87 : x8 ≠ x7 := by omega
          have n97 : x9 ≠ x7 := by omega
          have n98 : x9 ≠ x8 := by omega
          have m7 : w.heap.size ≠ x7 := by omega
          have m8 : w.heap.size ≠ x8 := by omega
          have m9 : w.heap.size ≠ x9 := by omega
          have o7 : w.heap.size + 1 ≠ x7 := by omega
          have o8 : w.heap.size + 1 ≠ x8 := by omega
          have o9 : w.heap.size + 1 ≠ x9 := by omega
          have b7 : w.heap.size < x7 := by omega
          have b8 : w.heap.size < x8 := by omega
          have b9 : w.heap.size < x9 := by omega
          have z7 : x7 < wD.heap.size := by omega
          have z8 : x8 < wD.heap.size := by omega
          have z9 : x9 < wD.heap.size := by omega
          clear e7 e8 e9 hsD hbD zs3
          revert n78
          revert n79
          revert n89
          revert n87
          revert n97
          revert n98
          revert m7
          revert m8
          revert m9
          revert o7
          revert o8
          revert o9
          revert b7
          revert b8
          revert b9
          revert z7
          revert z8
          revert z9
          revert H7
          revert H8
          revert H9
          revert HSD
          revert s0
          revert s1
          revert s2
          revert zs
          revert x9
          revert x8
          revert x7
          revert wD
          exact key.out
      case t =>
        intro wD x7 x8 x9 zs s2 s1 s0 HSD H9 H8 H7 z9 z8 z7 b9 b8 b7 o9 o8 o7 m9 m8 m7 n98 n97 n87 n89 n79 n78
        clear n1 n2 n3 n4 q1 q2 q3 hz0 s00
        obtain ⟨h70, h71, h72, f70, f71, f72⟩ := H7
        obtain ⟨h80, h81, h82, f80, f81, f82⟩ := H8
        obtain ⟨h90, h91, h92, f90, f91, f92⟩ := H9
        obtain ⟨hB, p0, p1, p2⟩ := HSD.out
        clear HSD
        have r0 : 0 ≤ m1 % (K + 1) := Int.emod_nonneg _ (by omega)
        have r1 : m1 % (K + 1) < K + 1 := Int.emod_lt_of_pos _ (by omega)
        have hrt : m1.tmod (K + 1) = m1 % (K + 1) := Int.tmod_eq_emod_of_nonneg hm1.1
        obtain ⟨K', hK'⟩ : ∃ K', K - m1 % (K + 1) = K' := ⟨_, rfl⟩
        have hk0 : 0 ≤ K' := by omega
        have hk1 : K' ≤ K := by omega
        have wr1 : IntKind.i64.wrap (m1 % (K + 1)) = m1 % (K + 1) := IntWalk.i64_in _ (by omega)
        have wr2 : IntKind.i64.wrap (K - m1 % (K + 1)) = K' := by rw [hK']; exact IntWalk.i64_in _ (by omega)
        have HPt : Hid (CutOk L K' l) := Lib.hid ⟨hok.1, by omega, hok.2.2.1, hok.2.2.2⟩
        have HK' := Lib.hid hK'
        clear hK'
        have HXL : Hid ((∃ L', L' = 1000 ∧ 1000 ≤ L + m0 ∨ True)) := Lib.hid ⟨0, .inr trivial⟩
        clear HXL
        go_wp2_with fail
        · obtain ⟨L', hL', wE, hwE⟩ : ∃ L', (L' = min 1000 (L + m0)) ∧ ∃ wE, wD.setCell ⟨x7, 0, none⟩ (.int .i64 L') = wE := ⟨_, rfl, _, rfl⟩
          have hBE : Below w.heap.size w wE := by rw [← hwE]; exact hB.setCell (Nat.le_of_lt b7) _
          have zE : wE.heap.size = wD.heap.size := by rw [← hwE]; simp
          have e70 : wE.cell? ⟨x7, 0, none⟩ = some (.int .i64 L') := by rw [← hwE]; simp [go_sem, h70]
          have e71 : wE.cell? ⟨x7, 1, none⟩ = some (.int .i64 K) := by rw [← hwE]; simp [go_sem, h71]
          have e72 : wE.cell? ⟨x7, 2, none⟩ = some (.slice aa l.length ca) := by rw [← hwE]; simp [go_sem, h72]
          have e80 : wE.cell? ⟨x8, 0, none⟩ = some (.int .i64 L) := by rw [← hwE]; simp [go_sem, h80, n87]
          have e81 : wE.cell? ⟨x8, 1, none⟩ = some (.int .i64 K) := by rw [← hwE]; simp [go_sem, h81, n87]
          have e82 : wE.cell? ⟨x8, 2, none⟩ = some (.slice aa l.length ca) := by rw [← hwE]; simp [go_sem, h82, n87]
          have e90 : wE.cell? ⟨x9, 0, none⟩ = some (.int .i64 L) := by rw [← hwE]; simp [go_sem, h90, n97]
          have e91 : wE.cell? ⟨x9, 1, none⟩ = some (.int .i64 K) := by rw [← hwE]; simp [go_sem, h91, n97]
          have e92 : wE.cell? ⟨x9, 2, none⟩ = some (.slice aa l.length ca) := by rw [← hwE]; simp [go_sem, h92, n97]
          have i0 : wE.cell? ⟨w.heap.size, 0, none⟩ = some (.int .i64 L) := by rw [← hwE]; simp [go_sem, p0, m7]
          have i1 : wE.cell? ⟨w.heap.size, 1, none⟩ = some (.int .i64 K) := by rw [← hwE]; simp [go_sem, p1, m7]
          have i2 : wE.cell? ⟨w.heap.size, 2, none⟩ = some (.slice aa l.length ca) := by rw [← hwE]; simp [go_sem, p2, m7]
          have j1 : wE.cell? ⟨w.heap.size + 1, 1, none⟩ = some (.int .u8 m1) := by rw [← hwE]; simp [go_sem, s1, o7]
          have j2 : wE.cell? ⟨w.heap.size + 1, 2, none⟩ = some (.int .u8 m2) := by rw [← hwE]; simp [go_sem, s2, o7]
          have k81 : wE.frozen? ⟨x8, 1, none⟩ = false := by rw [← hwE, World.frozen?_setCell]; exact f81
          have k92 : wE.frozen? ⟨x9, 2, none⟩ = false := by rw [← hwE, World.frozen?_setCell]; exact f92
          obtain ⟨hok', hLL⟩ := HP.out L' hL'
          have hmin : (1000 : Int) = L' ∨ L + m0 = L' := by omega
          have hwE2 : wD.setCell ⟨x7, 0, none⟩ (.int .i64 1000) = wE ∨ wD.setCell ⟨x7, 0, none⟩ (.int .i64 (L + m0)) = wE := by rcases hmin with h | h <;> rw [h] <;> simp [hwE]
          first
            | rw [show wD.setCell ⟨x7, 0, none⟩ (.int .i64 1000) = wE from by rw [← hwE, show L' = 1000 by omega]]
            | rw [show wD.setCell ⟨x7, 0, none⟩ (.int .i64 (L + m0)) = wE from by rw [← hwE, show L' = L + m0 by omega]]
          have HZ := Lib.hid zE
          have Hok' := Lib.hid hok'
          have HLL := Lib.hid hLL
          clear hwE hwE2 hmin hL' hok' hLL zE h70 h71 h72 h80 h81 h82 h90 h91 h92 f70 f71 f72 f80 f81 f82 f90 f91 f92 hB p0 p1 p2 s0 s1 s2 wL0
          go_still_tail 11, (by kernel_rfl)
          change wpList _ _ _ _ _ wE.drew
          have e70' : wE.drew.cell? ⟨x7, 0, none⟩ = some (.int .i64 L') := e70
          have e71' : wE.drew.cell? ⟨x7, 1, none⟩ = some (.int .i64 K) := e71
          have e72' : wE.drew.cell? ⟨x7, 2, none⟩ = some (.slice aa l.length ca) := e72
          have e80' : wE.drew.cell? ⟨x8, 0, none⟩ = some (.int .i64 L) := e80
          have e81' : wE.drew.cell? ⟨x8, 1, none⟩ = some (.int .i64 K) := e81
          have e82' : wE.drew.cell? ⟨x8, 2, none⟩ = some (.slice aa l.length ca) := e82
          have e90' : wE.drew.cell? ⟨x9, 0, none⟩ = some (.int .i64 L) := e90
          have e91' : wE.drew.cell? ⟨x9, 1, none⟩ = some (.int .i64 K) := e91
          have e92' : wE.drew.cell? ⟨x9, 2, none⟩ = some (.slice aa l.length ca) := e92
          have i0' : wE.drew.cell? ⟨w.heap.size, 0, none⟩ = some (.int .i64 L) := i0
          have i1' : wE.drew.cell? ⟨w.heap.size, 1, none⟩ = some (.int .i64 K) := i1
          have i2' : wE.drew.cell? ⟨w.heap.size, 2, none⟩ = some (.slice aa l.length ca) := i2
          have j2' : wE.drew.cell? ⟨w.heap.size + 1, 2, none⟩ = some (.int .u8 m2) := j2
          have k81' : wE.drew.frozen? ⟨x8, 1, none⟩ = false := k81
          have k92' : wE.drew.frozen? ⟨x9, 2, none⟩ = false := k92
          have hBF : Below w.heap.size w wE.drew := hBE.drew
          have HZF : Hid (wE.drew.heap.size = wD.heap.size) := Lib.hid HZ.out
          generalize wE.drew = wF at *
          clear e70 e71 e72 e80 e81 e82 e90 e91 e92 i0 i1 i2 j1 j2 k81 k92 hBE HZ
          obtain ⟨i0, hi, hz0, hz1, hz2⟩ := info_parts askInfo
          obtain ⟨t1, t2, t3⟩ := least_few Hok'.out h10
          obtain ⟨t4, t5, t6⟩ := least_few HPt.out h10
          have u1 := least_long hok Hok'.out h10 HLL.out
          have u2 := least_thin hok HPt.out h10 hk1
          rw [hR] at u1 u2
          clear t1 t4
          have T2 := Lib.hid t2
          have T5 := Lib.hid t5
          have HL1 : Hid (∀ W, Below w.heap.size w W → Calls Try.prog 22 #[.agg #[.int .i64 L', .int .i64 K, .slice aa l.length ca]] W fun e w' => e = .returned (.tuple #[.int .i64 (leastV L' K l), .int .i64 0]) ∧ Below W.heap.size W w') := Lib.hid fun W hW => by
            have := HLe.out L' K aa l ca W (HA.out.below hW)
            rwa [t2] at this
          have HL2 : Hid (∀ W, Below w.heap.size w W → Calls Try.prog 22 #[.agg #[.int .i64 L, .int .i64 K', .slice aa l.length ca]] W fun e w' => e = .returned (.tuple #[.int .i64 (leastV L K' l), .int .i64 0]) ∧ Below W.heap.size W w') := Lib.hid fun W hW => by
            have := HLe.out L K' aa l ca W (HA.out.below hW)
            rwa [t5] at this
          have HOK := Lib.hid hok
          have HRl := Lib.hid hR
          generalize leastV L' K l = v1 at *
          generalize leastV L K' l = v2 at *
          clear t2 t5 hR hok HP Hok' HLL HPt
          have hszF := HZF.out
          have z7F : x7 < wF.heap.size := by rw [hszF]; exact z7
          have z8F : x8 < wF.heap.size := by rw [hszF]; exact z8
          have z9F : x9 < wF.heap.size := by rw [hszF]; exact z9
          have zwF : w.heap.size + 1 < wF.heap.size := block_lt j2'
          clear hszF z7 z8 z9 HZF
          by_cases hl : l.length = 0
          · have hl0 := List.eq_nil_of_length_eq_zero hl
            subst hl0
            have hL0 : ([] : List (Int × Int)).length = 0 := rfl
            have HL3 : Hid (∀ W, Calls Try.prog 22 #[.agg #[.int .i64 L, .int .i64 K, .slice (some ⟨wF.heap.size, 0, none⟩) 0 0]] W fun e w' => e = .returned (.tuple #[.int .i64 R, .int .i64 0]) ∧ Below W.heap.size W w') := Lib.hid fun W => by
              have := HLe.out L K (some ⟨wF.heap.size, 0, none⟩) [] 0 W ⟨by simp, fun i hi => absurd hi (Nat.not_lt_zero _), 0, 0, (fun h => absurd rfl h), fun i hi => absurd hi (Nat.not_lt_zero _)⟩
              rw [f2, HRl.out] at this
              exact this
            rw [hL0] at HL1 HL2 e72' e82' e92' i2'
            have hBG : Below w.heap.size w ((wF.setCell ⟨x8, 1, none⟩ (.int .i64 K')).alloc (.cells #[] 61)) := (hBF.setCell (Nat.le_of_lt b8) _).alloc (by rw [World.size_setCell]; omega) _
            have hown := Lib.hid (World.ownsRow_lit (base := wF.heap.size) (e := 61) (size := 2) (wF.setCell ⟨x8, 1, none⟩ (.int .i64 K')) #[] 0 (by simp) (by decide) rfl)
            rw [World.size_setCell] at hown
            have qI : ∀ b o v, (wF.setCell ⟨x8, 1, none⟩ (.int .i64 K')).cell? ⟨b, o, none⟩ = some v → ((wF.setCell ⟨x8, 1, none⟩ (.int .i64 K')).alloc (.cells #[] 61)).cell? ⟨b, o, none⟩ = some v := fun b o v h => cell_below h ((Below.refl _ _).alloc (Nat.le_refl _) _)
            have QI := Lib.hid qI
            have i2G : ((wF.setCell ⟨x8, 1, none⟩ (.int .i64 K')).alloc (.cells #[] 61)).cell? ⟨w.heap.size, 2, none⟩ = some (.slice aa 0 ca) := QI.out _ _ _ (by simp [go_sem, i2', m8])
            have a70 : ((wF.setCell ⟨x8, 1, none⟩ (.int .i64 K')).alloc (.cells #[] 61)).cell? ⟨x7, 0, none⟩ = some (.int .i64 L') := QI.out _ _ _ (by simp [go_sem, e70', n78])
            have a71 : ((wF.setCell ⟨x8, 1, none⟩ (.int .i64 K')).alloc (.cells #[] 61)).cell? ⟨x7, 1, none⟩ = some (.int .i64 K) := QI.out _ _ _ (by simp [go_sem, e71', n78])
            have a72 : ((wF.setCell ⟨x8, 1, none⟩ (.int .i64 K')).alloc (.cells #[] 61)).cell? ⟨x7, 2, none⟩ = some (.slice aa 0 ca) := QI.out _ _ _ (by simp [go_sem, e72', n78])
            have a80 : ((wF.setCell ⟨x8, 1, none⟩ (.int .i64 K')).alloc (.cells #[] 61)).cell? ⟨x8, 0, none⟩ = some (.int .i64 L) := QI.out _ _ _ (by simp [go_sem, e80'])
            have a81 : ((wF.setCell ⟨x8, 1, none⟩ (.int .i64 K')).alloc (.cells #[] 61)).cell? ⟨x8, 1, none⟩ = some (.int .i64 K') := QI.out _ _ _ (by simp [go_sem, e81'])
            have a82 : ((wF.setCell ⟨x8, 1, none⟩ (.int .i64 K')).alloc (.cells #[] 61)).cell? ⟨x8, 2, none⟩ = some (.slice aa 0 ca) := QI.out _ _ _ (by simp [go_sem, e82'])
            have a90 : ((wF.setCell ⟨x8, 1, none⟩ (.int .i64 K')).alloc (.cells #[] 61)).cell? ⟨x9, 0, none⟩ = some (.int .i64 L) := QI.out _ _ _ (by simp [go_sem, e90', n98])
            have a91 : ((wF.setCell ⟨x8, 1, none⟩ (.int .i64 K')).alloc (.cells #[] 61)).cell? ⟨x9, 1, none⟩ = some (.int .i64 K) := QI.out _ _ _ (by simp [go_sem, e91', n98])
            have a92 : ((wF.setCell ⟨x8, 1, none⟩ (.int .i64 K')).alloc (.cells #[] 61)).cell? ⟨x9, 2, none⟩ = some (.slice aa 0 ca) := QI.out _ _ _ (by simp [go_sem, e92', n98])
            have fG : ((wF.setCell ⟨x8, 1, none⟩ (.int .i64 K')).alloc (.cells #[] 61)).frozen? ⟨x9, 2, none⟩ = false := (((Below.refl _ _).alloc (Nat.le_refl _) _).frozen (p := ⟨x9, 2, none⟩) (by rw [World.size_setCell]; exact z9F)).trans (by rw [World.frozen?_setCell]; exact k92')
            obtain ⟨wI, hwI⟩ : ∃ wI, ((wF.setCell ⟨x8, 1, none⟩ (.int .i64 K')).alloc (.cells #[] 61)) = wI := ⟨_, rfl⟩
            rw [hwI] at hown hBG i2G a70 a71 a72 a80 a81 a82 a90 a91 a92 fG
            obtain ⟨wX, hwX⟩ : ∃ wX, wI.setCell ⟨x9, 2, none⟩ (.slice (some ⟨wF.heap.size, 0, none⟩) 0 0) = wX := ⟨_, rfl⟩
            have hBx : Below w.heap.size w wX := by rw [← hwX]; exact hBG.setCell (Nat.le_of_lt b9) _
            have hx70 : wX.cell? ⟨x7, 0, none⟩ = some (.int .i64 L') := by rw [← hwX]; simp [go_sem, a70, n79]
            have hx71 : wX.cell? ⟨x7, 1, none⟩ = some (.int .i64 K) := by rw [← hwX]; simp [go_sem, a71, n79]
            have hx72 : wX.cell? ⟨x7, 2, none⟩ = some (.slice aa 0 ca) := by rw [← hwX]; simp [go_sem, a72, n79]
            have hx80 : wX.cell? ⟨x8, 0, none⟩ = some (.int .i64 L) := by rw [← hwX]; simp [go_sem, a80, n89]
            have hx81 : wX.cell? ⟨x8, 1, none⟩ = some (.int .i64 K') := by rw [← hwX]; simp [go_sem, a81, n89]
            have hx82 : wX.cell? ⟨x8, 2, none⟩ = some (.slice aa 0 ca) := by rw [← hwX]; simp [go_sem, a82, n89]
            have hx90 : wX.cell? ⟨x9, 0, none⟩ = some (.int .i64 L) := by rw [← hwX]; simp [go_sem, a90]
            have hx91 : wX.cell? ⟨x9, 1, none⟩ = some (.int .i64 K) := by rw [← hwX]; simp [go_sem, a91]
            have hx92 : wX.cell? ⟨x9, 2, none⟩ = some (.slice (some ⟨wF.heap.size, 0, none⟩) 0 0) := by rw [← hwX]; simp [go_sem, a92]
            clear e70' e71' e72' e80' e82' e90' e91' e92' i0' i1' i2' k92' a70 a71 a72 a80 a81 a82 a90 a91 hL0 hl j2'
            go_wp2_with (first | (at_builtin; go_loud (refine wpList_append_zero rfl _ _ 52 (by rfl) wF.heap.size 61 i0 2 Try.underlying52 hi (.slice (some ⟨wF.heap.size, 0, none⟩) 0 0) 0 _ (by rfl) hown.out aa ca (by rfl) ?_)))
            try rw [hwX]
            clear hwX
            refine (HL1.out _ hBx).mono ?_
            rintro E y1 ⟨rfl, hc1⟩
            have hx80 := cell_below hx80 hc1
            have hx81 := cell_below hx81 hc1
            have hx82 := cell_below hx82 hc1
            have hx90 := cell_below hx90 hc1
            have hx91 := cell_below hx91 hc1
            have hx92 := cell_below hx92 hc1
            have hBx := hBx.trans (hc1.mono hBx.size)
            clear hc1
            go_wp2_with fail
            refine (HL2.out _ hBx).mono ?_
            rintro E y2 ⟨rfl, hc2⟩
            have hx90 := cell_below hx90 hc2
            have hx91 := cell_below hx91 hc2
            have hx92 := cell_below hx92 hc2
            have hBx := hBx.trans (hc2.mono hBx.size)
            clear hc2
            go_wp2_with fail
            refine (HL3.out _).mono ?_
            rintro E y3 ⟨rfl, hc3⟩
            have hBx := hBx.trans (hc3.mono hBx.size)
            clear hc3
            go_wp2_with fail
            refine (H1.out _).mono ?_
            rintro E w8 ⟨rfl, hb8⟩
            go_wp2_with fail
            go_ret
            exact ⟨rfl, hBx.trans (hb8.mono hBx.size)⟩
          · obtain ⟨hlen, hbd, blk, off, hadr, hc⟩ := HA.out
            obtain rfl := hadr (fun e => by rw [e] at hl; exact hl rfl)
            have hl8 : l.length ≤ 8 := HOK.out.2.2.1
            have hlp : 0 < l.length := by omega
            have hlp2 : (0 : Int) < l.length := by omega
            have hBG : Below w.heap.size w ((wF.setCell ⟨x8, 1, none⟩ (.int .i64 K')).alloc (.cells #[] 61)) := (hBF.setCell (Nat.le_of_lt b8) _).alloc (by rw [World.size_setCell]; omega) _
            have hown := Lib.hid (World.ownsRow_lit (base := wF.heap.size) (e := 61) (size := 2) (wF.setCell ⟨x8, 1, none⟩ (.int .i64 K')) #[] 0 (by simp) (by decide) rfl)
            rw [World.size_setCell] at hown
            have HC := Lib.hid hc
            have i2G : ∀ v O, ((wF.setCell ⟨x8, 1, none⟩ v).alloc O).cell? ⟨w.heap.size, 2, none⟩ = some (.slice (some ⟨blk, off, none⟩) l.length ca) := fun v O => by
              have h1 : (wF.setCell ⟨x8, 1, none⟩ v).cell? ⟨w.heap.size, 2, none⟩ = some (.slice (some ⟨blk, off, none⟩) l.length ca) := by simp [go_sem, i2', m8]
              exact cell_below h1 ((Below.refl _ _).alloc (Nat.le_refl _) _)
            clear hbd hadr hc
            go_wp2_with (first | (at_builtin; go_loud (refine wpList_append_lies _ rfl _ _ 52 rfl wF.heap.size 61 i0 _ 2 16 Try.underlying52 hi hz0 hz1 hz2 rfl (by decide) (.slice (some ⟨wF.heap.size, 0, none⟩) 0 0) 0 _ (by rfl) hown.out ⟨blk, off, none⟩ l.length ca (clS l) (by rfl) (clS_len l) ?d1x1 (clS_one l) hlp ?d3x1 ?d4x1 ?d5x1 _ rfl ?_)))
            case d1x1 => exact clS_news (fun i hi => ⟨cell_below (HC.out i hi).1 hBG, cell_below (HC.out i hi).2 hBG⟩)
            case d3x1 => unfold maxLen; omega
            case d4x1 => omega
            intro g c6 w6 hown6 hgrow6 hat6 hlt6
            try simp only [Nat.zero_add, List.nil_append] at hown6
            have gl : wF.heap.size ≤ g := by
              rcases hat6 with h | h
              · simp [Value.ownBlock] at h; omega
              · first | omega | (simp at h; omega)
            have hcl : ∀ b o, b < wF.heap.size → w6.cell? ⟨b, o, none⟩ = (wF.setCell ⟨x8, 1, none⟩ (.int .i64 K')).cell? ⟨b, o, none⟩ := fun b o hb =>
              (hgrow6.cell_far ⟨b, o, none⟩ (by simp; omega) (by simp [Value.ownBlock]; omega)).trans (((Below.refl _ _).alloc (Nat.le_refl _) _).cell (p := ⟨b, o, none⟩) (by rw [World.size_setCell]; exact hb))
            have hfl : w6.frozen? ⟨x9, 2, none⟩ = false :=
              (hgrow6.frozen_far ⟨x9, 2, none⟩ (by simp; omega) (by simp [Value.ownBlock]; omega)).trans ((((Below.refl _ _).alloc (Nat.le_refl _) _).frozen (p := ⟨x9, 2, none⟩) (by rw [World.size_setCell]; exact z9F)).trans (by rw [World.frozen?_setCell]; exact k92'))
            have hB6 : Below w.heap.size w w6 := hBG.grown hgrow6 (by first | (simp; omega) | simp) (fun z hz => by simp [Value.ownBlock] at hz; omega)
            have zg6 : wF.heap.size < w6.heap.size := by have := hgrow6.size; simp at this; omega
            have a70 := (hcl x7 0 z7F).trans (show _ = some (Value.int .i64 L') by simp [go_sem, e70', n78])
            have a71 := (hcl x7 1 z7F).trans (show _ = some (Value.int .i64 K) by simp [go_sem, e71', n78])
            have a72 := (hcl x7 2 z7F).trans (show _ = some (Value.slice (some ⟨blk, off, none⟩) l.length ca) by simp [go_sem, e72', n78])
            have a80 := (hcl x8 0 z8F).trans (show _ = some (Value.int .i64 L) by simp [go_sem, e80'])
            have a81 := (hcl x8 1 z8F).trans (show _ = some (Value.int .i64 K') by simp [go_sem, e81'])
            have a82 := (hcl x8 2 z8F).trans (show _ = some (Value.slice (some ⟨blk, off, none⟩) l.length ca) by simp [go_sem, e82'])
            have a90 := (hcl x9 0 z9F).trans (show _ = some (Value.int .i64 L) by simp [go_sem, e90', n98])
            have a91 := (hcl x9 1 z9F).trans (show _ = some (Value.int .i64 K) by simp [go_sem, e91', n98])
            have a92 := (hcl x9 2 z9F).trans (show _ = some (Value.slice (some ⟨blk, off, none⟩) l.length ca) by simp [go_sem, e92', n98])
            have c02 := (hcl (w.heap.size + 1) 2 zwF).trans (show _ = some (Value.int .u8 m2) by simp [go_sem, j2', o8])
            obtain ⟨i, hi9⟩ : ∃ i : Nat, m2 % (l.length : Int) = i := ⟨(m2 % (l.length : Int)).toNat, by have := Int.emod_nonneg m2 (show (l.length : Int) ≠ 0 by omega); omega⟩
            have hil : i < l.length := by have := Int.emod_lt_of_pos m2 hlp2; omega
            have hil0 : (i : Int) < l.length := by omega
            have wi : IntKind.i64.wrap (i : Int) = i := IntWalk.i64_in _ (by omega)
            obtain ⟨wG, hwG⟩ : ∃ wG, w6.setCell ⟨x9, 2, none⟩ (.slice (some ⟨g, 0, none⟩) l.length c6) = wG := ⟨_, rfl⟩
            have hown9 := ownsRow_setCell_below hown6 (a := ⟨x9, 2, none⟩) z9F (.slice (some ⟨g, 0, none⟩) l.length c6)
            rw [hwG] at hown9
            have ng9 : g ≠ x9 := by omega
            have ng7 : g ≠ x7 := by omega
            have ng8 : g ≠ x8 := by omega
            have b70 : wG.cell? ⟨x7, 0, none⟩ = some (.int .i64 L') := by rw [← hwG]; simp [go_sem, a70, n79]
            have b71 : wG.cell? ⟨x7, 1, none⟩ = some (.int .i64 K) := by rw [← hwG]; simp [go_sem, a71, n79]
            have b72 : wG.cell? ⟨x7, 2, none⟩ = some (.slice (some ⟨blk, off, none⟩) l.length ca) := by rw [← hwG]; simp [go_sem, a72, n79]
            have b80 : wG.cell? ⟨x8, 0, none⟩ = some (.int .i64 L) := by rw [← hwG]; simp [go_sem, a80, n89]
            have b81 : wG.cell? ⟨x8, 1, none⟩ = some (.int .i64 K') := by rw [← hwG]; simp [go_sem, a81, n89]
            have b82 : wG.cell? ⟨x8, 2, none⟩ = some (.slice (some ⟨blk, off, none⟩) l.length ca) := by rw [← hwG]; simp [go_sem, a82, n89]
            have b90 : wG.cell? ⟨x9, 0, none⟩ = some (.int .i64 L) := by rw [← hwG]; simp [go_sem, a90]
            have b91 : wG.cell? ⟨x9, 1, none⟩ = some (.int .i64 K) := by rw [← hwG]; simp [go_sem, a91]
            have b92 : wG.cell? ⟨x9, 2, none⟩ = some (.slice (some ⟨g, 0, none⟩) l.length c6) := by rw [← hwG]; simp [go_sem, a92]
            have d02 : wG.cell? ⟨w.heap.size + 1, 2, none⟩ = some (.int .u8 m2) := by rw [← hwG]; simp [go_sem, c02, o9]
            have hBGG : Below w.heap.size w wG := by rw [← hwG]; exact hB6.setCell (Nat.le_of_lt b9) _
            have cy : wG.cell? ⟨g, i * 2 + 1, none⟩ = some (.int .i64 (gp l i).2) := (World.ownsRow.cellAt hown9 (i * 2 + 1) (by omega)).trans (clS_1 l i hil)
            have fy : wG.frozen? ⟨g, i * 2 + 1, none⟩ = false := World.ownsRow.frozenAt hown9 (i * 2 + 1)
            have hask := HOK.out.2.2.2 i hil
            have hq0 : 0 ≤ (gp l i).2 := hask.2.1
            have hq1 : (gp l i).2 ≤ 50 := hask.2.2
            have HO9 := Lib.hid hown9
            have HST : Hid (∀ W : World, W.ownsRow wF.heap.size 61 2 (.slice (some ⟨g, 0, none⟩) l.length c6) l.length (clS l) → (W.setCell ⟨g, i * 2 + 1, none⟩ (.int .i64 ((gp l i).2 / 2))).ownsRow wF.heap.size 61 2 (.slice (some ⟨g, 0, none⟩) l.length c6) l.length (clS (l.set i ((gp l i).1, (gp l i).2 / 2)))) := Lib.hid fun W h => by
              rw [← clS_set l i _ hil]
              exact (World.ownsRow.stored h (i * 2 + 1) _).1
            have HLs : Hid (CutOk L K (l.set i ((gp l i).1, (gp l i).2 / 2))) := Lib.hid ⟨HOK.out.1, HOK.out.2.1, by rw [List.length_set]; exact hl8, fun j hj => by
              rw [List.length_set] at hj
              have hj9 := HOK.out.2.2.2 j hj
              unfold asksOk at hj9 ⊢
              rw [gp_set hil]
              split
              · rename_i h; subst h; simp only; omega
              · exact hj9⟩
            have u3 := least_less HOK.out HLs.out h10 (by rw [List.length_set]) (fun j hj => by
              rw [gp_set hil]
              split
              · rename_i h; subst h; simp only; exact ⟨trivial, by omega⟩
              · exact ⟨rfl, Int.le_refl _⟩)
            obtain ⟨-, t8, t9⟩ := least_few HLs.out u3.2
            have u3 := u3.1
            rw [HRl.out] at u3
            have HL3 : Hid (∀ W, PairsS W (some ⟨g, 0, none⟩) (l.set i ((gp l i).1, (gp l i).2 / 2)) → Calls Try.prog 22 #[.agg #[.int .i64 L, .int .i64 K, .slice (some ⟨g, 0, none⟩) l.length c6]] W fun e w' => e = .returned (.tuple #[.int .i64 (leastV L K (l.set i ((gp l i).1, (gp l i).2 / 2))), .int .i64 0]) ∧ Below W.heap.size W w') := Lib.hid fun W hW => by
              have := HLe.out L K (some ⟨g, 0, none⟩) (l.set i ((gp l i).1, (gp l i).2 / 2)) c6 W hW
              rwa [t8, List.length_set] at this
            have HIP : Hid (∀ W : World, W.ownsRow wF.heap.size 61 2 (.slice (some ⟨g, 0, none⟩) l.length c6) l.length (clS (l.set i ((gp l i).1, (gp l i).2 / 2))) → PairsS W (some ⟨g, 0, none⟩) (l.set i ((gp l i).1, (gp l i).2 / 2))) := Lib.hid fun W h => by
              refine pairs_own (base := wF.heap.size) (c := c6) (by rw [List.length_set]; exact h) (by rw [List.length_set]; omega) (fun j hj => ?_)
              have := HLs.out.2.2.2 j hj
              have := HOK.out.1
              unfold asksOk at *
              unfold I64
              omega
            generalize leastV L K (l.set i ((gp l i).1, (gp l i).2 / 2)) = v3 at *
            clear t8 hask
            generalize hgq : (gp l i).2 = q at cy hq0 hq1
            have hq2 : q.tdiv 2 = q / 2 := Int.tdiv_eq_ediv_of_nonneg hq0
            have hq3 : IntKind.i64.wrap (q / 2) = q / 2 := IntWalk.i64_in _ (by omega)
            rw [hgq] at HST HIP HL3
            clear hgq hown9 hown6 hgrow6 hat6 hlt6 a70 a71 a72 a80 a81 a82 a90 a91 hcl e70' e71' e72' e80' e81' e82' e90' e91' e92' i0' i1' i2' k81' hBG hown i2G HC
            go_wp2_with fail
            try rw [hwG]
            clear hwG hfl hB6 c02 a92
            go_still_tail 12, (by kernel_rfl)
            change wpList _ _ _ _ _ wG.drew
            have b70' : wG.drew.cell? ⟨x7, 0, none⟩ = some (.int .i64 L') := b70
            have b71' : wG.drew.cell? ⟨x7, 1, none⟩ = some (.int .i64 K) := b71
            have b72' : wG.drew.cell? ⟨x7, 2, none⟩ = some (.slice (some ⟨blk, off, none⟩) l.length ca) := b72
            have b80' : wG.drew.cell? ⟨x8, 0, none⟩ = some (.int .i64 L) := b80
            have b81' : wG.drew.cell? ⟨x8, 1, none⟩ = some (.int .i64 K') := b81
            have b82' : wG.drew.cell? ⟨x8, 2, none⟩ = some (.slice (some ⟨blk, off, none⟩) l.length ca) := b82
            have b90' : wG.drew.cell? ⟨x9, 0, none⟩ = some (.int .i64 L) := b90
            have b91' : wG.drew.cell? ⟨x9, 1, none⟩ = some (.int .i64 K) := b91
            have b92' : wG.drew.cell? ⟨x9, 2, none⟩ = some (.slice (some ⟨g, 0, none⟩) l.length c6) := b92
            have cy' : wG.drew.cell? ⟨g, i * 2 + 1, none⟩ = some (.int .i64 q) := cy
            have fy' : wG.drew.frozen? ⟨g, i * 2 + 1, none⟩ = false := fy
            have HO9' : Hid (wG.drew.ownsRow wF.heap.size 61 2 (.slice (some ⟨g, 0, none⟩) l.length c6) l.length (clS l)) := Lib.hid (World.ownsRow.drew HO9.out)
            have hBH : Below w.heap.size w wG.drew := hBGG.drew
            generalize wG.drew = wH at *
            clear b70 b71 b72 b80 b81 b82 b90 b91 b92 cy fy HO9 hBGG d02
            obtain ⟨wX, hwX⟩ : ∃ wX, wH.setCell ⟨g, i * 2 + 1, none⟩ (.int .i64 (q / 2)) = wX := ⟨_, rfl⟩
            have HPX := Lib.hid (HIP.out _ (HST.out _ HO9'.out))
            rw [hwX] at HPX
            have hBx : Below w.heap.size w wX := by rw [← hwX]; exact hBH.setCell (by show w.heap.size ≤ g; omega) _
            have hx70 : wX.cell? ⟨x7, 0, none⟩ = some (.int .i64 L') := by rw [← hwX]; simp [go_sem, b70', ng7]
            have hx71 : wX.cell? ⟨x7, 1, none⟩ = some (.int .i64 K) := by rw [← hwX]; simp [go_sem, b71', ng7]
            have hx72 : wX.cell? ⟨x7, 2, none⟩ = some (.slice (some ⟨blk, off, none⟩) l.length ca) := by rw [← hwX]; simp [go_sem, b72', ng7]
            have hx80 : wX.cell? ⟨x8, 0, none⟩ = some (.int .i64 L) := by rw [← hwX]; simp [go_sem, b80', ng8]
            have hx81 : wX.cell? ⟨x8, 1, none⟩ = some (.int .i64 K') := by rw [← hwX]; simp [go_sem, b81', ng8]
            have hx82 : wX.cell? ⟨x8, 2, none⟩ = some (.slice (some ⟨blk, off, none⟩) l.length ca) := by rw [← hwX]; simp [go_sem, b82', ng8]
            have hx90 : wX.cell? ⟨x9, 0, none⟩ = some (.int .i64 L) := by rw [← hwX]; simp [go_sem, b90', ng9]
            have hx91 : wX.cell? ⟨x9, 1, none⟩ = some (.int .i64 K) := by rw [← hwX]; simp [go_sem, b91', ng9]
            have hx92 : wX.cell? ⟨x9, 2, none⟩ = some (.slice (some ⟨g, 0, none⟩) l.length c6) := by rw [← hwX]; simp [go_sem, b92', ng9]
            clear b70' b71' b72' b80' b81' b82' b90' b91' b92' HO9' HST HIP hBH
            go_wp2_with fail
            try rw [hwX]
            clear hwX cy' fy'
            refine (HL1.out _ hBx).mono ?_
            rintro E y1 ⟨rfl, hc1⟩
            have hx80 := cell_below hx80 hc1
            have hx81 := cell_below hx81 hc1
            have hx82 := cell_below hx82 hc1
            have hx90 := cell_below hx90 hc1
            have hx91 := cell_below hx91 hc1
            have hx92 := cell_below hx92 hc1
            have hBx := hBx.trans (hc1.mono hBx.size)
            have HPX := Lib.hid (HPX.out.below hc1)
            clear hc1
            go_wp2_with fail
            refine (HL2.out _ hBx).mono ?_
            rintro E y2 ⟨rfl, hc2⟩
            have hx90 := cell_below hx90 hc2
            have hx91 := cell_below hx91 hc2
            have hx92 := cell_below hx92 hc2
            have hBx := hBx.trans (hc2.mono hBx.size)
            have HPX := Lib.hid (HPX.out.below hc2)
            clear hc2
            go_wp2_with fail
            refine (HL3.out _ HPX.out).mono ?_
            rintro E y3 ⟨rfl, hc3⟩
            have hBx := hBx.trans (hc3.mono hBx.size)
            clear hc3
            go_wp2_with fail
            refine (H1.out _).mono ?_
            rintro E w8 ⟨rfl, hb8⟩
            go_wp2_with fail
            go_ret
            exact ⟨rfl, hBx.trans (hb8.mono hBx.size)⟩
        · obtain ⟨L', hL', wE, hwE⟩ : ∃ L', (L' = min 1000 (L + m0)) ∧ ∃ wE, wD.setCell ⟨x7, 0, none⟩ (.int .i64 L') = wE := ⟨_, rfl, _, rfl⟩
          have hBE : Below w.heap.size w wE := by rw [← hwE]; exact hB.setCell (Nat.le_of_lt b7) _
          have zE : wE.heap.size = wD.heap.size := by rw [← hwE]; simp
          have e70 : wE.cell? ⟨x7, 0, none⟩ = some (.int .i64 L') := by rw [← hwE]; simp [go_sem, h70]
          have e71 : wE.cell? ⟨x7, 1, none⟩ = some (.int .i64 K) := by rw [← hwE]; simp [go_sem, h71]
          have e72 : wE.cell? ⟨x7, 2, none⟩ = some (.slice aa l.length ca) := by rw [← hwE]; simp [go_sem, h72]
          have e80 : wE.cell? ⟨x8, 0, none⟩ = some (.int .i64 L) := by rw [← hwE]; simp [go_sem, h80, n87]
          have e81 : wE.cell? ⟨x8, 1, none⟩ = some (.int .i64 K) := by rw [← hwE]; simp [go_sem, h81, n87]
          have e82 : wE.cell? ⟨x8, 2, none⟩ = some (.slice aa l.length ca) := by rw [← hwE]; simp [go_sem, h82, n87]
          have e90 : wE.cell? ⟨x9, 0, none⟩ = some (.int .i64 L) := by rw [← hwE]; simp [go_sem, h90, n97]
          have e91 : wE.cell? ⟨x9, 1, none⟩ = some (.int .i64 K) := by rw [← hwE]; simp [go_sem, h91, n97]
          have e92 : wE.cell? ⟨x9, 2, none⟩ = some (.slice aa l.length ca) := by rw [← hwE]; simp [go_sem, h92, n97]
          have i0 : wE.cell? ⟨w.heap.size, 0, none⟩ = some (.int .i64 L) := by rw [← hwE]; simp [go_sem, p0, m7]
          have i1 : wE.cell? ⟨w.heap.size, 1, none⟩ = some (.int .i64 K) := by rw [← hwE]; simp [go_sem, p1, m7]
          have i2 : wE.cell? ⟨w.heap.size, 2, none⟩ = some (.slice aa l.length ca) := by rw [← hwE]; simp [go_sem, p2, m7]
          have j1 : wE.cell? ⟨w.heap.size + 1, 1, none⟩ = some (.int .u8 m1) := by rw [← hwE]; simp [go_sem, s1, o7]
          have j2 : wE.cell? ⟨w.heap.size + 1, 2, none⟩ = some (.int .u8 m2) := by rw [← hwE]; simp [go_sem, s2, o7]
          have k81 : wE.frozen? ⟨x8, 1, none⟩ = false := by rw [← hwE, World.frozen?_setCell]; exact f81
          have k92 : wE.frozen? ⟨x9, 2, none⟩ = false := by rw [← hwE, World.frozen?_setCell]; exact f92
          obtain ⟨hok', hLL⟩ := HP.out L' hL'
          have hmin : (1000 : Int) = L' ∨ L + m0 = L' := by omega
          have hwE2 : wD.setCell ⟨x7, 0, none⟩ (.int .i64 1000) = wE ∨ wD.setCell ⟨x7, 0, none⟩ (.int .i64 (L + m0)) = wE := by rcases hmin with h | h <;> rw [h] <;> simp [hwE]
          first
            | rw [show wD.setCell ⟨x7, 0, none⟩ (.int .i64 1000) = wE from by rw [← hwE, show L' = 1000 by omega]]
            | rw [show wD.setCell ⟨x7, 0, none⟩ (.int .i64 (L + m0)) = wE from by rw [← hwE, show L' = L + m0 by omega]]
          have HZ := Lib.hid zE
          have Hok' := Lib.hid hok'
          have HLL := Lib.hid hLL
          clear hwE hwE2 hmin hL' hok' hLL zE h70 h71 h72 h80 h81 h82 h90 h91 h92 f70 f71 f72 f80 f81 f82 f90 f91 f92 hB p0 p1 p2 s0 s1 s2 wL0
          go_still_tail 11, (by kernel_rfl)
          change wpList _ _ _ _ _ wE.drew
          have e70' : wE.drew.cell? ⟨x7, 0, none⟩ = some (.int .i64 L') := e70
          have e71' : wE.drew.cell? ⟨x7, 1, none⟩ = some (.int .i64 K) := e71
          have e72' : wE.drew.cell? ⟨x7, 2, none⟩ = some (.slice aa l.length ca) := e72
          have e80' : wE.drew.cell? ⟨x8, 0, none⟩ = some (.int .i64 L) := e80
          have e81' : wE.drew.cell? ⟨x8, 1, none⟩ = some (.int .i64 K) := e81
          have e82' : wE.drew.cell? ⟨x8, 2, none⟩ = some (.slice aa l.length ca) := e82
          have e90' : wE.drew.cell? ⟨x9, 0, none⟩ = some (.int .i64 L) := e90
          have e91' : wE.drew.cell? ⟨x9, 1, none⟩ = some (.int .i64 K) := e91
          have e92' : wE.drew.cell? ⟨x9, 2, none⟩ = some (.slice aa l.length ca) := e92
          have i0' : wE.drew.cell? ⟨w.heap.size, 0, none⟩ = some (.int .i64 L) := i0
          have i1' : wE.drew.cell? ⟨w.heap.size, 1, none⟩ = some (.int .i64 K) := i1
          have i2' : wE.drew.cell? ⟨w.heap.size, 2, none⟩ = some (.slice aa l.length ca) := i2
          have j2' : wE.drew.cell? ⟨w.heap.size + 1, 2, none⟩ = some (.int .u8 m2) := j2
          have k81' : wE.drew.frozen? ⟨x8, 1, none⟩ = false := k81
          have k92' : wE.drew.frozen? ⟨x9, 2, none⟩ = false := k92
          have hBF : Below w.heap.size w wE.drew := hBE.drew
          have HZF : Hid (wE.drew.heap.size = wD.heap.size) := Lib.hid HZ.out
          generalize wE.drew = wF at *
          clear e70 e71 e72 e80 e81 e82 e90 e91 e92 i0 i1 i2 j1 j2 k81 k92 hBE HZ
          obtain ⟨i0, hi, hz0, hz1, hz2⟩ := info_parts askInfo
          obtain ⟨t1, t2, t3⟩ := least_few Hok'.out h10
          obtain ⟨t4, t5, t6⟩ := least_few HPt.out h10
          have u1 := least_long hok Hok'.out h10 HLL.out
          have u2 := least_thin hok HPt.out h10 hk1
          rw [hR] at u1 u2
          clear t1 t4
          have T2 := Lib.hid t2
          have T5 := Lib.hid t5
          have HL1 : Hid (∀ W, Below w.heap.size w W → Calls Try.prog 22 #[.agg #[.int .i64 L', .int .i64 K, .slice aa l.length ca]] W fun e w' => e = .returned (.tuple #[.int .i64 (leastV L' K l), .int .i64 0]) ∧ Below W.heap.size W w') := Lib.hid fun W hW => by
            have := HLe.out L' K aa l ca W (HA.out.below hW)
            rwa [t2] at this
          have HL2 : Hid (∀ W, Below w.heap.size w W → Calls Try.prog 22 #[.agg #[.int .i64 L, .int .i64 K', .slice aa l.length ca]] W fun e w' => e = .returned (.tuple #[.int .i64 (leastV L K' l), .int .i64 0]) ∧ Below W.heap.size W w') := Lib.hid fun W hW => by
            have := HLe.out L K' aa l ca W (HA.out.below hW)
            rwa [t5] at this
          have HOK := Lib.hid hok
          have HRl := Lib.hid hR
          generalize leastV L' K l = v1 at *
          generalize leastV L K' l = v2 at *
          clear t2 t5 hR hok HP Hok' HLL HPt
          have hszF := HZF.out
          have z7F : x7 < wF.heap.size := by rw [hszF]; exact z7
          have z8F : x8 < wF.heap.size := by rw [hszF]; exact z8
          have z9F : x9 < wF.heap.size := by rw [hszF]; exact z9
          have zwF : w.heap.size + 1 < wF.heap.size := block_lt j2'
          clear hszF z7 z8 z9 HZF
          by_cases hl : l.length = 0
          · have hl0 := List.eq_nil_of_length_eq_zero hl
            subst hl0
            have hL0 : ([] : List (Int × Int)).length = 0 := rfl
            have HL3 : Hid (∀ W, Calls Try.prog 22 #[.agg #[.int .i64 L, .int .i64 K, .slice (some ⟨wF.heap.size, 0, none⟩) 0 0]] W fun e w' => e = .returned (.tuple #[.int .i64 R, .int .i64 0]) ∧ Below W.heap.size W w') := Lib.hid fun W => by
              have := HLe.out L K (some ⟨wF.heap.size, 0, none⟩) [] 0 W ⟨by simp, fun i hi => absurd hi (Nat.not_lt_zero _), 0, 0, (fun h => absurd rfl h), fun i hi => absurd hi (Nat.not_lt_zero _)⟩
              rw [f2, HRl.out] at this
              exact this
            rw [hL0] at HL1 HL2 e72' e82' e92' i2'
            have hBG : Below w.heap.size w ((wF.setCell ⟨x8, 1, none⟩ (.int .i64 K')).alloc (.cells #[] 61)) := (hBF.setCell (Nat.le_of_lt b8) _).alloc (by rw [World.size_setCell]; omega) _
            have hown := Lib.hid (World.ownsRow_lit (base := wF.heap.size) (e := 61) (size := 2) (wF.setCell ⟨x8, 1, none⟩ (.int .i64 K')) #[] 0 (by simp) (by decide) rfl)
            rw [World.size_setCell] at hown
            have qI : ∀ b o v, (wF.setCell ⟨x8, 1, none⟩ (.int .i64 K')).cell? ⟨b, o, none⟩ = some v → ((wF.setCell ⟨x8, 1, none⟩ (.int .i64 K')).alloc (.cells #[] 61)).cell? ⟨b, o, none⟩ = some v := fun b o v h => cell_below h ((Below.refl _ _).alloc (Nat.le_refl _) _)
            have QI := Lib.hid qI
            have i2G : ((wF.setCell ⟨x8, 1, none⟩ (.int .i64 K')).alloc (.cells #[] 61)).cell? ⟨w.heap.size, 2, none⟩ = some (.slice aa 0 ca) := QI.out _ _ _ (by simp [go_sem, i2', m8])
            have a70 : ((wF.setCell ⟨x8, 1, none⟩ (.int .i64 K')).alloc (.cells #[] 61)).cell? ⟨x7, 0, none⟩ = some (.int .i64 L') := QI.out _ _ _ (by simp [go_sem, e70', n78])
            have a71 : ((wF.setCell ⟨x8, 1, none⟩ (.int .i64 K')).alloc (.cells #[] 61)).cell? ⟨x7, 1, none⟩ = some (.int .i64 K) := QI.out _ _ _ (by simp [go_sem, e71', n78])
            have a72 : ((wF.setCell ⟨x8, 1, none⟩ (.int .i64 K')).alloc (.cells #[] 61)).cell? ⟨x7, 2, none⟩ = some (.slice aa 0 ca) := QI.out _ _ _ (by simp [go_sem, e72', n78])
            have a80 : ((wF.setCell ⟨x8, 1, none⟩ (.int .i64 K')).alloc (.cells #[] 61)).cell? ⟨x8, 0, none⟩ = some (.int .i64 L) := QI.out _ _ _ (by simp [go_sem, e80'])
            have a81 : ((wF.setCell ⟨x8, 1, none⟩ (.int .i64 K')).alloc (.cells #[] 61)).cell? ⟨x8, 1, none⟩ = some (.int .i64 K') := QI.out _ _ _ (by simp [go_sem, e81'])
            have a82 : ((wF.setCell ⟨x8, 1, none⟩ (.int .i64 K')).alloc (.cells #[] 61)).cell? ⟨x8, 2, none⟩ = some (.slice aa 0 ca) := QI.out _ _ _ (by simp [go_sem, e82'])
            have a90 : ((wF.setCell ⟨x8, 1, none⟩ (.int .i64 K')).alloc (.cells #[] 61)).cell? ⟨x9, 0, none⟩ = some (.int .i64 L) := QI.out _ _ _ (by simp [go_sem, e90', n98])
            have a91 : ((wF.setCell ⟨x8, 1, none⟩ (.int .i64 K')).alloc (.cells #[] 61)).cell? ⟨x9, 1, none⟩ = some (.int .i64 K) := QI.out _ _ _ (by simp [go_sem, e91', n98])
            have a92 : ((wF.setCell ⟨x8, 1, none⟩ (.int .i64 K')).alloc (.cells #[] 61)).cell? ⟨x9, 2, none⟩ = some (.slice aa 0 ca) := QI.out _ _ _ (by simp [go_sem, e92', n98])
            have fG : ((wF.setCell ⟨x8, 1, none⟩ (.int .i64 K')).alloc (.cells #[] 61)).frozen? ⟨x9, 2, none⟩ = false := (((Below.refl _ _).alloc (Nat.le_refl _) _).frozen (p := ⟨x9, 2, none⟩) (by rw [World.size_setCell]; exact z9F)).trans (by rw [World.frozen?_setCell]; exact k92')
            obtain ⟨wI, hwI⟩ : ∃ wI, ((wF.setCell ⟨x8, 1, none⟩ (.int .i64 K')).alloc (.cells #[] 61)) = wI := ⟨_, rfl⟩
            rw [hwI] at hown hBG i2G a70 a71 a72 a80 a81 a82 a90 a91 a92 fG
            obtain ⟨wX, hwX⟩ : ∃ wX, wI.setCell ⟨x9, 2, none⟩ (.slice (some ⟨wF.heap.size, 0, none⟩) 0 0) = wX := ⟨_, rfl⟩
            have hBx : Below w.heap.size w wX := by rw [← hwX]; exact hBG.setCell (Nat.le_of_lt b9) _
            have hx70 : wX.cell? ⟨x7, 0, none⟩ = some (.int .i64 L') := by rw [← hwX]; simp [go_sem, a70, n79]
            have hx71 : wX.cell? ⟨x7, 1, none⟩ = some (.int .i64 K) := by rw [← hwX]; simp [go_sem, a71, n79]
            have hx72 : wX.cell? ⟨x7, 2, none⟩ = some (.slice aa 0 ca) := by rw [← hwX]; simp [go_sem, a72, n79]
            have hx80 : wX.cell? ⟨x8, 0, none⟩ = some (.int .i64 L) := by rw [← hwX]; simp [go_sem, a80, n89]
            have hx81 : wX.cell? ⟨x8, 1, none⟩ = some (.int .i64 K') := by rw [← hwX]; simp [go_sem, a81, n89]
            have hx82 : wX.cell? ⟨x8, 2, none⟩ = some (.slice aa 0 ca) := by rw [← hwX]; simp [go_sem, a82, n89]
            have hx90 : wX.cell? ⟨x9, 0, none⟩ = some (.int .i64 L) := by rw [← hwX]; simp [go_sem, a90]
            have hx91 : wX.cell? ⟨x9, 1, none⟩ = some (.int .i64 K) := by rw [← hwX]; simp [go_sem, a91]
            have hx92 : wX.cell? ⟨x9, 2, none⟩ = some (.slice (some ⟨wF.heap.size, 0, none⟩) 0 0) := by rw [← hwX]; simp [go_sem, a92]
            clear e70' e71' e72' e80' e82' e90' e91' e92' i0' i1' i2' k92' a70 a71 a72 a80 a81 a82 a90 a91 hL0 hl j2'
            go_wp2_with (first | (at_builtin; go_loud (refine wpList_append_zero rfl _ _ 52 (by rfl) wF.heap.size 61 i0 2 Try.underlying52 hi (.slice (some ⟨wF.heap.size, 0, none⟩) 0 0) 0 _ (by rfl) hown.out aa ca (by rfl) ?_)))
            try rw [hwX]
            clear hwX
            refine (HL1.out _ hBx).mono ?_
            rintro E y1 ⟨rfl, hc1⟩
            have hx80 := cell_below hx80 hc1
            have hx81 := cell_below hx81 hc1
            have hx82 := cell_below hx82 hc1
            have hx90 := cell_below hx90 hc1
            have hx91 := cell_below hx91 hc1
            have hx92 := cell_below hx92 hc1
            have hBx := hBx.trans (hc1.mono hBx.size)
            clear hc1
            go_wp2_with fail
            refine (HL2.out _ hBx).mono ?_
            rintro E y2 ⟨rfl, hc2⟩
            have hx90 := cell_below hx90 hc2
            have hx91 := cell_below hx91 hc2
            have hx92 := cell_below hx92 hc2
            have hBx := hBx.trans (hc2.mono hBx.size)
            clear hc2
            go_wp2_with fail
            refine (HL3.out _).mono ?_
            rintro E y3 ⟨rfl, hc3⟩
            have hBx := hBx.trans (hc3.mono hBx.size)
            clear hc3
            go_wp2_with fail
            refine (H1.out _).mono ?_
            rintro E w8 ⟨rfl, hb8⟩
            go_wp2_with fail
            go_ret
            exact ⟨rfl, hBx.trans (hb8.mono hBx.size)⟩
          · obtain ⟨hlen, hbd, blk, off, hadr, hc⟩ := HA.out
            obtain rfl := hadr (fun e => by rw [e] at hl; exact hl rfl)
            have hl8 : l.length ≤ 8 := HOK.out.2.2.1
            have hlp : 0 < l.length := by omega
            have hlp2 : (0 : Int) < l.length := by omega
            have hBG : Below w.heap.size w ((wF.setCell ⟨x8, 1, none⟩ (.int .i64 K')).alloc (.cells #[] 61)) := (hBF.setCell (Nat.le_of_lt b8) _).alloc (by rw [World.size_setCell]; omega) _
            have hown := Lib.hid (World.ownsRow_lit (base := wF.heap.size) (e := 61) (size := 2) (wF.setCell ⟨x8, 1, none⟩ (.int .i64 K')) #[] 0 (by simp) (by decide) rfl)
            rw [World.size_setCell] at hown
            have HC := Lib.hid hc
            have i2G : ∀ v O, ((wF.setCell ⟨x8, 1, none⟩ v).alloc O).cell? ⟨w.heap.size, 2, none⟩ = some (.slice (some ⟨blk, off, none⟩) l.length ca) := fun v O => by
              have h1 : (wF.setCell ⟨x8, 1, none⟩ v).cell? ⟨w.heap.size, 2, none⟩ = some (.slice (some ⟨blk, off, none⟩) l.length ca) := by simp [go_sem, i2', m8]
              exact cell_below h1 ((Below.refl _ _).alloc (Nat.le_refl _) _)
            clear hbd hadr hc
            go_wp2_with (first | (at_builtin; go_loud (refine wpList_append_lies _ rfl _ _ 52 rfl wF.heap.size 61 i0 _ 2 16 Try.underlying52 hi hz0 hz1 hz2 rfl (by decide) (.slice (some ⟨wF.heap.size, 0, none⟩) 0 0) 0 _ (by rfl) hown.out ⟨blk, off, none⟩ l.length ca (clS l) (by rfl) (clS_len l) ?d1x2 (clS_one l) hlp ?d3x2 ?d4x2 ?d5x2 _ rfl ?_)))
            case d1x2 => exact clS_news (fun i hi => ⟨cell_below (HC.out i hi).1 hBG, cell_below (HC.out i hi).2 hBG⟩)
            case d3x2 => unfold maxLen; omega
            case d4x2 => omega
            intro g c6 w6 hown6 hgrow6 hat6 hlt6
            try simp only [Nat.zero_add, List.nil_append] at hown6
            have gl : wF.heap.size ≤ g := by
              rcases hat6 with h | h
              · simp [Value.ownBlock] at h; omega
              · first | omega | (simp at h; omega)
            have hcl : ∀ b o, b < wF.heap.size → w6.cell? ⟨b, o, none⟩ = (wF.setCell ⟨x8, 1, none⟩ (.int .i64 K')).cell? ⟨b, o, none⟩ := fun b o hb =>
              (hgrow6.cell_far ⟨b, o, none⟩ (by simp; omega) (by simp [Value.ownBlock]; omega)).trans (((Below.refl _ _).alloc (Nat.le_refl _) _).cell (p := ⟨b, o, none⟩) (by rw [World.size_setCell]; exact hb))
            have hfl : w6.frozen? ⟨x9, 2, none⟩ = false :=
              (hgrow6.frozen_far ⟨x9, 2, none⟩ (by simp; omega) (by simp [Value.ownBlock]; omega)).trans ((((Below.refl _ _).alloc (Nat.le_refl _) _).frozen (p := ⟨x9, 2, none⟩) (by rw [World.size_setCell]; exact z9F)).trans (by rw [World.frozen?_setCell]; exact k92'))
            have hB6 : Below w.heap.size w w6 := hBG.grown hgrow6 (by first | (simp; omega) | simp) (fun z hz => by simp [Value.ownBlock] at hz; omega)
            have zg6 : wF.heap.size < w6.heap.size := by have := hgrow6.size; simp at this; omega
            have a70 := (hcl x7 0 z7F).trans (show _ = some (Value.int .i64 L') by simp [go_sem, e70', n78])
            have a71 := (hcl x7 1 z7F).trans (show _ = some (Value.int .i64 K) by simp [go_sem, e71', n78])
            have a72 := (hcl x7 2 z7F).trans (show _ = some (Value.slice (some ⟨blk, off, none⟩) l.length ca) by simp [go_sem, e72', n78])
            have a80 := (hcl x8 0 z8F).trans (show _ = some (Value.int .i64 L) by simp [go_sem, e80'])
            have a81 := (hcl x8 1 z8F).trans (show _ = some (Value.int .i64 K') by simp [go_sem, e81'])
            have a82 := (hcl x8 2 z8F).trans (show _ = some (Value.slice (some ⟨blk, off, none⟩) l.length ca) by simp [go_sem, e82'])
            have a90 := (hcl x9 0 z9F).trans (show _ = some (Value.int .i64 L) by simp [go_sem, e90', n98])
            have a91 := (hcl x9 1 z9F).trans (show _ = some (Value.int .i64 K) by simp [go_sem, e91', n98])
            have a92 := (hcl x9 2 z9F).trans (show _ = some (Value.slice (some ⟨blk, off, none⟩) l.length ca) by simp [go_sem, e92', n98])
            have c02 := (hcl (w.heap.size + 1) 2 zwF).trans (show _ = some (Value.int .u8 m2) by simp [go_sem, j2', o8])
            obtain ⟨i, hi9⟩ : ∃ i : Nat, m2 % (l.length : Int) = i := ⟨(m2 % (l.length : Int)).toNat, by have := Int.emod_nonneg m2 (show (l.length : Int) ≠ 0 by omega); omega⟩
            have hil : i < l.length := by have := Int.emod_lt_of_pos m2 hlp2; omega
            have hil0 : (i : Int) < l.length := by omega
            have wi : IntKind.i64.wrap (i : Int) = i := IntWalk.i64_in _ (by omega)
            obtain ⟨wG, hwG⟩ : ∃ wG, w6.setCell ⟨x9, 2, none⟩ (.slice (some ⟨g, 0, none⟩) l.length c6) = wG := ⟨_, rfl⟩
            have hown9 := ownsRow_setCell_below hown6 (a := ⟨x9, 2, none⟩) z9F (.slice (some ⟨g, 0, none⟩) l.length c6)
            rw [hwG] at hown9
            have ng9 : g ≠ x9 := by omega
            have ng7 : g ≠ x7 := by omega
            have ng8 : g ≠ x8 := by omega
            have b70 : wG.cell? ⟨x7, 0, none⟩ = some (.int .i64 L') := by rw [← hwG]; simp [go_sem, a70, n79]
            have b71 : wG.cell? ⟨x7, 1, none⟩ = some (.int .i64 K) := by rw [← hwG]; simp [go_sem, a71, n79]
            have b72 : wG.cell? ⟨x7, 2, none⟩ = some (.slice (some ⟨blk, off, none⟩) l.length ca) := by rw [← hwG]; simp [go_sem, a72, n79]
            have b80 : wG.cell? ⟨x8, 0, none⟩ = some (.int .i64 L) := by rw [← hwG]; simp [go_sem, a80, n89]
            have b81 : wG.cell? ⟨x8, 1, none⟩ = some (.int .i64 K') := by rw [← hwG]; simp [go_sem, a81, n89]
            have b82 : wG.cell? ⟨x8, 2, none⟩ = some (.slice (some ⟨blk, off, none⟩) l.length ca) := by rw [← hwG]; simp [go_sem, a82, n89]
            have b90 : wG.cell? ⟨x9, 0, none⟩ = some (.int .i64 L) := by rw [← hwG]; simp [go_sem, a90]
            have b91 : wG.cell? ⟨x9, 1, none⟩ = some (.int .i64 K) := by rw [← hwG]; simp [go_sem, a91]
            have b92 : wG.cell? ⟨x9, 2, none⟩ = some (.slice (some ⟨g, 0, none⟩) l.length c6) := by rw [← hwG]; simp [go_sem, a92]
            have d02 : wG.cell? ⟨w.heap.size + 1, 2, none⟩ = some (.int .u8 m2) := by rw [← hwG]; simp [go_sem, c02, o9]
            have hBGG : Below w.heap.size w wG := by rw [← hwG]; exact hB6.setCell (Nat.le_of_lt b9) _
            have cy : wG.cell? ⟨g, i * 2 + 1, none⟩ = some (.int .i64 (gp l i).2) := (World.ownsRow.cellAt hown9 (i * 2 + 1) (by omega)).trans (clS_1 l i hil)
            have fy : wG.frozen? ⟨g, i * 2 + 1, none⟩ = false := World.ownsRow.frozenAt hown9 (i * 2 + 1)
            have hask := HOK.out.2.2.2 i hil
            have hq0 : 0 ≤ (gp l i).2 := hask.2.1
            have hq1 : (gp l i).2 ≤ 50 := hask.2.2
            have HO9 := Lib.hid hown9
            have HST : Hid (∀ W : World, W.ownsRow wF.heap.size 61 2 (.slice (some ⟨g, 0, none⟩) l.length c6) l.length (clS l) → (W.setCell ⟨g, i * 2 + 1, none⟩ (.int .i64 ((gp l i).2 / 2))).ownsRow wF.heap.size 61 2 (.slice (some ⟨g, 0, none⟩) l.length c6) l.length (clS (l.set i ((gp l i).1, (gp l i).2 / 2)))) := Lib.hid fun W h => by
              rw [← clS_set l i _ hil]
              exact (World.ownsRow.stored h (i * 2 + 1) _).1
            have HLs : Hid (CutOk L K (l.set i ((gp l i).1, (gp l i).2 / 2))) := Lib.hid ⟨HOK.out.1, HOK.out.2.1, by rw [List.length_set]; exact hl8, fun j hj => by
              rw [List.length_set] at hj
              have hj9 := HOK.out.2.2.2 j hj
              unfold asksOk at hj9 ⊢
              rw [gp_set hil]
              split
              · rename_i h; subst h; simp only; omega
              · exact hj9⟩
            have u3 := least_less HOK.out HLs.out h10 (by rw [List.length_set]) (fun j hj => by
              rw [gp_set hil]
              split
              · rename_i h; subst h; simp only; exact ⟨trivial, by omega⟩
              · exact ⟨rfl, Int.le_refl _⟩)
            obtain ⟨-, t8, t9⟩ := least_few HLs.out u3.2
            have u3 := u3.1
            rw [HRl.out] at u3
            have HL3 : Hid (∀ W, PairsS W (some ⟨g, 0, none⟩) (l.set i ((gp l i).1, (gp l i).2 / 2)) → Calls Try.prog 22 #[.agg #[.int .i64 L, .int .i64 K, .slice (some ⟨g, 0, none⟩) l.length c6]] W fun e w' => e = .returned (.tuple #[.int .i64 (leastV L K (l.set i ((gp l i).1, (gp l i).2 / 2))), .int .i64 0]) ∧ Below W.heap.size W w') := Lib.hid fun W hW => by
              have := HLe.out L K (some ⟨g, 0, none⟩) (l.set i ((gp l i).1, (gp l i).2 / 2)) c6 W hW
              rwa [t8, List.length_set] at this
            have HIP : Hid (∀ W : World, W.ownsRow wF.heap.size 61 2 (.slice (some ⟨g, 0, none⟩) l.length c6) l.length (clS (l.set i ((gp l i).1, (gp l i).2 / 2))) → PairsS W (some ⟨g, 0, none⟩) (l.set i ((gp l i).1, (gp l i).2 / 2))) := Lib.hid fun W h => by
              refine pairs_own (base := wF.heap.size) (c := c6) (by rw [List.length_set]; exact h) (by rw [List.length_set]; omega) (fun j hj => ?_)
              have := HLs.out.2.2.2 j hj
              have := HOK.out.1
              unfold asksOk at *
              unfold I64
              omega
            generalize leastV L K (l.set i ((gp l i).1, (gp l i).2 / 2)) = v3 at *
            clear t8 hask
            generalize hgq : (gp l i).2 = q at cy hq0 hq1
            have hq2 : q.tdiv 2 = q / 2 := Int.tdiv_eq_ediv_of_nonneg hq0
            have hq3 : IntKind.i64.wrap (q / 2) = q / 2 := IntWalk.i64_in _ (by omega)
            rw [hgq] at HST HIP HL3
            clear hgq hown9 hown6 hgrow6 hat6 hlt6 a70 a71 a72 a80 a81 a82 a90 a91 hcl e70' e71' e72' e80' e81' e82' e90' e91' e92' i0' i1' i2' k81' hBG hown i2G HC
            go_wp2_with fail
            try rw [hwG]
            clear hwG hfl hB6 c02 a92
            go_still_tail 12, (by kernel_rfl)
            change wpList _ _ _ _ _ wG.drew
            have b70' : wG.drew.cell? ⟨x7, 0, none⟩ = some (.int .i64 L') := b70
            have b71' : wG.drew.cell? ⟨x7, 1, none⟩ = some (.int .i64 K) := b71
            have b72' : wG.drew.cell? ⟨x7, 2, none⟩ = some (.slice (some ⟨blk, off, none⟩) l.length ca) := b72
            have b80' : wG.drew.cell? ⟨x8, 0, none⟩ = some (.int .i64 L) := b80
            have b81' : wG.drew.cell? ⟨x8, 1, none⟩ = some (.int .i64 K') := b81
            have b82' : wG.drew.cell? ⟨x8, 2, none⟩ = some (.slice (some ⟨blk, off, none⟩) l.length ca) := b82
            have b90' : wG.drew.cell? ⟨x9, 0, none⟩ = some (.int .i64 L) := b90
            have b91' : wG.drew.cell? ⟨x9, 1, none⟩ = some (.int .i64 K) := b91
            have b92' : wG.drew.cell? ⟨x9, 2, none⟩ = some (.slice (some ⟨g, 0, none⟩) l.length c6) := b92
            have cy' : wG.drew.cell? ⟨g, i * 2 + 1, none⟩ = some (.int .i64 q) := cy
            have fy' : wG.drew.frozen? ⟨g, i * 2 + 1, none⟩ = false := fy
            have HO9' : Hid (wG.drew.ownsRow wF.heap.size 61 2 (.slice (some ⟨g, 0, none⟩) l.length c6) l.length (clS l)) := Lib.hid (World.ownsRow.drew HO9.out)
            have hBH : Below w.heap.size w wG.drew := hBGG.drew
            generalize wG.drew = wH at *
            clear b70 b71 b72 b80 b81 b82 b90 b91 b92 cy fy HO9 hBGG d02
            obtain ⟨wX, hwX⟩ : ∃ wX, wH.setCell ⟨g, i * 2 + 1, none⟩ (.int .i64 (q / 2)) = wX := ⟨_, rfl⟩
            have HPX := Lib.hid (HIP.out _ (HST.out _ HO9'.out))
            rw [hwX] at HPX
            have hBx : Below w.heap.size w wX := by rw [← hwX]; exact hBH.setCell (by show w.heap.size ≤ g; omega) _
            have hx70 : wX.cell? ⟨x7, 0, none⟩ = some (.int .i64 L') := by rw [← hwX]; simp [go_sem, b70', ng7]
            have hx71 : wX.cell? ⟨x7, 1, none⟩ = some (.int .i64 K) := by rw [← hwX]; simp [go_sem, b71', ng7]
            have hx72 : wX.cell? ⟨x7, 2, none⟩ = some (.slice (some ⟨blk, off, none⟩) l.length ca) := by rw [← hwX]; simp [go_sem, b72', ng7]
            have hx80 : wX.cell? ⟨x8, 0, none⟩ = some (.int .i64 L) := by rw [← hwX]; simp [go_sem, b80', ng8]
            have hx81 : wX.cell? ⟨x8, 1, none⟩ = some (.int .i64 K') := by rw [← hwX]; simp [go_sem, b81', ng8]
            have hx82 : wX.cell? ⟨x8, 2, none⟩ = some (.slice (some ⟨blk, off, none⟩) l.length ca) := by rw [← hwX]; simp [go_sem, b82', ng8]
            have hx90 : wX.cell? ⟨x9, 0, none⟩ = some (.int .i64 L) := by rw [← hwX]; simp [go_sem, b90', ng9]
            have hx91 : wX.cell? ⟨x9, 1, none⟩ = some (.int .i64 K) := by rw [← hwX]; simp [go_sem, b91', ng9]
            have hx92 : wX.cell? ⟨x9, 2, none⟩ = some (.slice (some ⟨g, 0, none⟩) l.length c6) := by rw [← hwX]; simp [go_sem, b92', ng9]
            clear b70' b71' b72' b80' b81' b82' b90' b91' b92' HO9' HST HIP hBH
            go_wp2_with fail
            try rw [hwX]
            clear hwX cy' fy'
            refine (HL1.out _ hBx).mono ?_
            rintro E y1 ⟨rfl, hc1⟩
            have hx80 := cell_below hx80 hc1
            have hx81 := cell_below hx81 hc1
            have hx82 := cell_below hx82 hc1
            have hx90 := cell_below hx90 hc1
            have hx91 := cell_below hx91 hc1
            have hx92 := cell_below hx92 hc1
            have hBx := hBx.trans (hc1.mono hBx.size)
            have HPX := Lib.hid (HPX.out.below hc1)
            clear hc1
            go_wp2_with fail
            refine (HL2.out _ hBx).mono ?_
            rintro E y2 ⟨rfl, hc2⟩
            have hx90 := cell_below hx90 hc2
            have hx91 := cell_below hx91 hc2
            have hx92 := cell_below hx92 hc2
            have hBx := hBx.trans (hc2.mono hBx.size)
            have HPX := Lib.hid (HPX.out.below hc2)
            clear hc2
            go_wp2_with fail
            refine (HL3.out _ HPX.out).mono ?_
            rintro E y3 ⟨rfl, hc3⟩
            have hBx := hBx.trans (hc3.mono hBx.size)
            clear hc3
            go_wp2_with fail
            refine (H1.out _).mono ?_
            rintro E w8 ⟨rfl, hb8⟩
            go_wp2_with fail
            go_ret
            exact ⟨rfl, hBx.trans (hb8.mono hBx.size)⟩

end Go.Proofs.Ytbbdjheakbgjeaa
