/-
  The walk of the law CutLong: it answers true. By an AI agent.
-/
import Derived.Test.YtkmonaeajejamaaCutH
import Derived.Deep.AppendLies
namespace Go.Proofs.Ytkmonaeajejamaa
set_option linter.unusedVariables false
set_option linter.unusedSimpArgs false
open Go.RowKit

theorem batchInfo : (Try.prog.info? 34).map (fun i => (i.zero, i.size, i.bytes)) = some (some (.agg #[.int .i64 0, .slice none 0 0]), 2, 32) := by kernel_rfl

set_option maxRecDepth 100000 in
theorem wideOne_any (L K : Int) (aa : Option Addr) (l : List (Int × Int)) (ca : Nat) (b : Nat) (T : Int) (ap : Option Addr) (m cq : Nat) (w : World) (hl : l.length ≤ 9223372036854775807) (hm : m ≤ 9223372036854775807) (hz : b < w.heap.size) (c1 : w.cell? ⟨b, 1, none⟩ = some (.slice ap m cq)) :
    Calls Try.prog 15 #[.agg #[.int .i64 L, .int .i64 K, .slice aa l.length ca], .slice (some ⟨b, 0, none⟩) 1 1] w fun e w' => SB e ∧ Below w.heap.size w w' := by
  have hne : b ≠ w.heap.size := by omega
  by_cases h : (30 : Int) < l.length
  · go_enter Try.func15, Try.ntmps15
    go_wp2_with fail
    go_ret
    exact ⟨⟨_, rfl⟩, (Below.refl _ _).alloc (Nat.le_refl _) _⟩
  · by_cases h2 : (30 : Int) < m
    · go_enter Try.func15, Try.ntmps15
      go_wp2_with fail
      refine wp_loop_rounds 1 ?_
      rw [rounds_succ]
      go_wp2_with fail
      go_ret
      exact ⟨⟨_, rfl⟩, (Below.refl _ _).alloc (Nat.le_refl _) _⟩
    · go_enter Try.func15, Try.ntmps15
      go_wp2_with fail
      refine wp_loop_rounds 2 ?_
      rw [rounds_succ]
      go_wp2_with fail
      rw [rounds_succ]
      go_wp2_with fail
      go_ret
      exact ⟨⟨_, rfl⟩, (Below.refl _ _).alloc (Nat.le_refl _) _⟩

set_option maxRecDepth 100000 in
theorem checkLong_any (L K : Int) (aa : Option Addr) (l : List (Int × Int)) (ca : Nat) (a : Option Addr) (N c : Nat) (w : World) (hA : PairsS w aa l) (hv : cutB L K l = true) (hN : (1000 : Int) < N) (hN2 : N ≤ 2000) :
    Calls Try.prog 23 #[.agg #[.int .i64 L, .int .i64 K, .slice aa l.length ca], .slice a N c] w fun e w' => e = .returned (.int .i64 2) ∧ Below w.heap.size w w' := by
  have HV := Lib.hid (fun W (hW : Below w.heap.size w W) => Valid_any L K aa l ca W (hA.below hW))
  rw [hv] at HV
  have hS := InBox.start w L K (.slice aa l.length ca) 24
  clear hA hv
  go_enter Try.func23, Try.ntmps23
  go_wp2_with fail
  refine (HV.out _ hS.1).mono ?_
  rintro e w1 ⟨rfl, hb1⟩
  obtain ⟨hb, p0, p1, p2⟩ := hS.on hb1
  go_wp2_with fail
  go_ret
  exact ⟨rfl, hb⟩

set_option maxRecDepth 100000 in
theorem rollsLong_any (L K : Int) (aa : Option Addr) (l : List (Int × Int)) (ca : Nat) (a : Option Addr) (N c : Nat) (w : World) (hA : PairsS w aa l) (hv : cutB L K l = true) (hN : (1000 : Int) < N) (hN2 : N ≤ 2000) :
    Calls Try.prog 21 #[.agg #[.int .i64 L, .int .i64 K, .slice aa l.length ca], .slice a N c] w fun e w' => e = .returned (.tuple #[.int .i64 0, .int .i64 2]) ∧ Below w.heap.size w w' := by
  have HV := Lib.hid (fun W (hW : Below w.heap.size w W) => checkLong_any L K aa l ca a N c W (hA.below hW) hv hN hN2)
  have hS := InBox.start w L K (.slice aa l.length ca) 24
  clear hA hv
  go_enter Try.func21, Try.ntmps21
  go_wp2_with fail
  refine (HV.out _ hS.1).mono ?_
  rintro e w1 ⟨rfl, hb1⟩
  obtain ⟨hb, p0, p1, p2⟩ := hS.on hb1
  go_wp2_with fail
  go_ret2
  exact ⟨rfl, hb⟩

set_option maxRecDepth 100000 in
theorem canonLong_any (L K : Int) (aa : Option Addr) (l : List (Int × Int)) (ca : Nat) (a : Option Addr) (N c : Nat) (w : World) (hA : PairsS w aa l) (hv : cutB L K l = true) (hN : (1000 : Int) < N) (hN2 : N ≤ 2000) :
    Calls Try.prog 22 #[.agg #[.int .i64 L, .int .i64 K, .slice aa l.length ca], .slice a N c] w fun e w' => e = .returned (.tuple #[.slice none 0 0, .int .i64 2]) ∧ Below w.heap.size w w' := by
  have HV := Lib.hid (fun W (hW : Below w.heap.size w W) => checkLong_any L K aa l ca a N c W (hA.below hW) hv hN hN2)
  have hS := InBox.start w L K (.slice aa l.length ca) 24
  clear hA hv
  go_enter Try.func22, Try.ntmps22
  go_wp2_with fail
  refine (HV.out _ hS.1).mono ?_
  rintro e w1 ⟨rfl, hb1⟩
  obtain ⟨hb, p0, p1, p2⟩ := hS.on hb1
  go_wp2_with fail
  go_ret2
  exact ⟨rfl, hb⟩

set_option maxRecDepth 100000 in
set_option maxHeartbeats 4000000 in
theorem cutLong_any (L K : Int) (aa : Option Addr) (l : List (Int × Int)) (ca : Nat) (T : Int) (ap : Option Addr) (q : List Int) (cq : Nat) (n : Int) (w : World) (hA : PairsS w aa l) (hq : q.length ≤ 9223372036854775807) (hn : 0 ≤ n ∧ n ≤ 255) :
    Calls Try.prog 4 #[.agg #[.int .i64 L, .int .i64 K, .slice aa l.length ca], .agg #[.int .i64 T, .slice ap q.length cq], .int .u8 n] w fun E w' => E = .returned (.bool true) ∧ Below w.heap.size w w' := by
  have hlA := hA.1
  obtain ⟨n0, n1⟩ := hn
  obtain ⟨ni, hni⟩ : ∃ ni : Nat, n.tmod 4 = (ni : Int) := ⟨(n % 4).toNat, by rw [Int.tmod_eq_emod_of_nonneg n0]; omega⟩
  have nl : ni < 4 := by rw [Int.tmod_eq_emod_of_nonneg n0] at hni; omega
  have wn : IntKind.u8.wrap (ni : Int) = (ni : Int) := by rcases (show ni = 0 ∨ ni = 1 ∨ ni = 2 ∨ ni = 3 by omega) with rfl | rfl | rfl | rfl <;> decide
  have wn2 : IntKind.i64.wrap (ni : Int) = (ni : Int) := IntWalk.i64_in _ (by omega)
  have HW : Hid (∀ b W, b < W.heap.size → W.cell? ⟨b, 1, none⟩ = some (.slice ap q.length cq) → Calls Try.prog 15 #[.agg #[.int .i64 L, .int .i64 K, .slice aa l.length ca], .slice (some ⟨b, 0, none⟩) 1 1] W fun e w' => SB e ∧ Below W.heap.size W w') := Lib.hid fun b W h c => wideOne_any L K aa l ca b T ap q.length cq W hlA hq h c
  have HU := Lib.hid (fun W (hW : Below w.heap.size w W) => refValid_any L K aa l ca W (hA.below hW))
  have HX := Lib.hid (fun hv a N c W (hW : Below w.heap.size w W) h1 h2 => checkLong_any L K aa l ca a N c W (hA.below hW) hv h1 h2)
  have HY := Lib.hid (fun hv a N c W (hW : Below w.heap.size w W) h1 h2 => rollsLong_any L K aa l ca a N c W (hA.below hW) hv h1 h2)
  have HZ := Lib.hid (fun hv a N c W (hW : Below w.heap.size w W) h1 h2 => canonLong_any L K aa l ca a N c W (hA.below hW) hv h1 h2)
  have H1 := Lib.hid awake_any
  have hS : InBox w ((w.alloc (.cells #[.int .i64 L, .int .i64 K, (.slice aa l.length ca)] 24)).alloc (.cells #[.int .i64 T, .slice ap q.length cq] 34)) L K (.slice aa l.length ca) := (InBox.start w L K (.slice aa l.length ca) 24).on ((Below.refl _ _).alloc (Nat.le_refl _) _)
  clear hA
  go_enter Try.func4, Try.ntmps4
  go_wp2_with fail
  obtain ⟨wB, hwB⟩ : ∃ wB, (w.alloc (.cells #[.int .i64 L, .int .i64 K, (.slice aa l.length ca)] 24)).alloc (.cells #[.int .i64 T, .slice ap q.length cq] 34) = wB := ⟨_, rfl⟩
  have s0 : wB.cell? ⟨w.heap.size + 1, 0, none⟩ = some (.int .i64 T) := by rw [← hwB]; simp [go_sem]
  have s1 : wB.cell? ⟨w.heap.size + 1, 1, none⟩ = some (.slice ap q.length cq) := by rw [← hwB]; simp [go_sem]
  have hsB : wB.heap.size = w.heap.size + 1 + 1 := by rw [← hwB]; simp
  rw [hwB] at hS ⊢
  clear hwB
  refine (HW.out _ _ (by simp [hsB]) (by simp [go_sem, hsB])).mono ?_
  rintro E w1 ⟨⟨b, rfl⟩, hb1⟩
  have hb1 : Below wB.heap.size wB w1 := box_below hb1
  have hS := hS.on hb1
  have s0 := cell_below s0 hb1
  have s1 := cell_below s1 hb1
  clear hb1 hsB
  cases b with
  | true =>
    obtain ⟨hB, p0, p1, p2⟩ := hS
    go_wp2_with fail
    refine (H1.out _).mono ?_
    rintro E w8 ⟨rfl, hb8⟩
    go_wp2_with fail
    go_ret
    exact ⟨rfl, hB.trans (hb8.mono hB.size)⟩
  | false =>
    have hS1 := Lib.hid hS
    obtain ⟨hB, p0, p1, p2⟩ := hS
    go_wp2_with fail
    refine (HU.out _ hB).mono ?_
    rintro E wo ⟨rfl, hbo⟩
    have HS2 := Lib.hid (hS1.out.on hbo)
    have s0 := cell_below s0 hbo
    have s1 := cell_below s1 hbo
    clear hS1 p0 p1 p2 hB hbo
    by_cases hv : cutB L K l = true
    · rw [hv]
      have HX := Lib.hid (HX.out hv)
      have HY := Lib.hid (HY.out hv)
      have HZ := Lib.hid (HZ.out hv)
      clear hv
      go_wp2_with fail
      obtain ⟨i0, hi, hz0, hz1, hz2⟩ := info_parts batchInfo
      go_loopw [7, 8] (fun v i wr => ∃ (k : Nat) (xs : List Value), k ≤ 1001 + ni ∧ i = .int .i64 k ∧ (∃ a c, v = .slice a k c) ∧ Hid (wr.ownsRow wo.heap.size 34 2 v k xs) ∧ Below wo.heap.size wo wr) (fun _ i _ => 1001 + ni - (intOf i).toNat)
      case atStart => exact ⟨0, [], Nat.zero_le _, rfl, ⟨none, 0, rfl⟩, Lib.hid ⟨rfl, .inl ⟨rfl, rfl⟩⟩, Below.refl _ _⟩
      case round =>
        obtain ⟨k, xs, hk, rfl, ⟨a, c, rfl⟩, HRow, hbr⟩ := hrel
        have HS3 := Lib.hid (HS2.out.on hbr)
        have s0 := cell_below s0 hbr
        have s1 := cell_below s1 hbr
        by_cases hlt : k < 1001 + ni
        · have hlt2 : (k : Int) < 1001 + (ni : Int) := by omega
          have hown := HRow.out.alloc (.cells #[.int .i64 T, .slice ap q.length cq] 34)
          have hown := Lib.hid hown
          go_wp2_with (first | (at_builtin; go_loud (refine wpList_append_lies _ rfl _ _ 35 rfl wo.heap.size 34 i0 _ 2 32 Try.underlying35 hi hz0 hz1 hz2 rfl (by decide) (.slice a k c) k _ (by rfl) hown.out ⟨wr.heap.size, 0, none⟩ 1 1 [.int .i64 T, .slice ap q.length cq] (by rfl) (by rfl) ?d1 ?d2 (by decide) ?d3 ?d4 ?d5 _ rfl ?_)))
          case d1 =>
            refine World.news_of_block (cs := #[.int .i64 T, .slice ap q.length cq]) (t := 34) (fr := (0, 0)) ?_
            exact heap_alloc_new _ _
          case d2 => simp [Value.oneCell']
          case d3 => unfold maxLen; omega
          case d4 => omega
          case d5 => have := hbr.size; simp; omega
          intro g c2 w5 hown5 hgrow5 hat5 hlt5
          have hb5 : Below wo.heap.size wo w5 := (hbr.alloc hbr.size _).grown hgrow5 (by have := hbr.size; simp; omega) (fun z hz => by
            rcases hown.out.2 with ⟨h, _⟩ | ⟨g2, c3, cur, h1, h2, _⟩
            · rw [h] at hz; simp [Value.ownBlock] at hz
            · rw [h1] at hz; simp [Value.ownBlock] at hz; omega)
          go_wp2_with fail
          go_roundw
          case rel => exact ⟨k + 1, _, by omega, by go_num, ⟨_, c2, rfl⟩, Lib.hid hown5, hb5⟩
          case measure => simp [intOf]; omega
        · obtain rfl : k = 1001 + ni := by omega
          obtain ⟨hB, p0, p1, p2⟩ := HS3.out
          have hlt2 : ¬ ((1001 + ni : Nat) : Int) < 1001 + (ni : Int) := by omega
          have hcx : ((1001 + ni : Nat) : Int) = 1001 + (ni : Int) := by omega
          have hN1 : (1000 : Int) < ((1001 + ni : Nat) : Int) := by omega
          have hN2 : 1001 + ni ≤ 2000 := by omega
          go_wp2_with fail
          refine (HY.out a _ c _ hB hN1 hN2).mono ?_
          rintro E w2 ⟨rfl, hb2⟩
          obtain ⟨hB, p0, p1, p2⟩ := InBox.on ⟨hB, p0, p1, p2⟩ hb2
          go_wp2_with fail
          refine (HZ.out a _ c _ hB hN1 hN2).mono ?_
          rintro E w3 ⟨rfl, hb3⟩
          obtain ⟨hB, p0, p1, p2⟩ := InBox.on ⟨hB, p0, p1, p2⟩ hb3
          go_wp2_with fail
          refine (HX.out a _ c _ hB hN1 hN2).mono ?_
          rintro E w4 ⟨rfl, hb4⟩
          obtain ⟨hB, p0, p1, p2⟩ := InBox.on ⟨hB, p0, p1, p2⟩ hb4
          go_wp2_with fail
          refine (H1.out _).mono ?_
          rintro E w8 ⟨rfl, hb8⟩
          go_wp2_with fail
          go_ret
          exact ⟨rfl, hB.trans (hb8.mono hB.size)⟩
    · have hv : cutB L K l = false := by simpa using hv
      rw [hv]
      obtain ⟨hB, p0, p1, p2⟩ := HS2.out
      go_wp2_with fail
      refine (H1.out _).mono ?_
      rintro E w8 ⟨rfl, hb8⟩
      go_wp2_with fail
      go_ret
      exact ⟨rfl, hB.trans (hb8.mono hB.size)⟩
end Go.Proofs.Ytkmonaeajejamaa
