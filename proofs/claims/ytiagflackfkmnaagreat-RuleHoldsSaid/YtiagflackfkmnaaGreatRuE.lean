/-
  slices.Sort, Compact and Sorted of ints at the seat of package rule, over rows of one's own. By an AI agent.
-/
import Derived.Test.YtiagflackfkmnaaGreatRuD
import Derived.Test.YtiagflackfkmnaaGreatRuleLay
import Derived.Sort.OwnSortedInts
namespace Go.Proofs.YtiagflackfkmnaaGreat
set_option linter.unusedVariables false
set_option linter.unusedSimpArgs false
open Go.RowKit Go.Sort

theorem srt_nil : ([] : List Int).mergeSort (fun x y => decide (x ≤ y)) = [] := by simp [List.mergeSort]
/-- The cells of ints. -/
def clI (zs : List Int) : List Value := zs.map (Value.int .i64)
theorem clI_len (zs : List Int) : (clI zs).length = zs.length := by simp [clI]
theorem clI_app (zs : List Int) (x : Int) : clI (zs ++ [x]) = clI zs ++ [.int .i64 x] := by simp [clI]
theorem clI_get (zs : List Int) {i : Nat} (hi : i < zs.length) : (clI zs)[i]? = some (.int .i64 (gi zs i)) := by simp [clI, gi, hi]
theorem ints_nil (w : World) (a : Option Addr) : IntsS w a [] := ⟨by simp, fun i hi => absurd hi (Nat.not_lt_zero _), 0, 0, (fun h => absurd rfl h), fun i hi => absurd hi (Nat.not_lt_zero _)⟩
theorem ints_own {w : World} {base c : Nat} {a : Option Addr} {zs : List Int} {T : TypeId} (h : w.ownsRow base T 1 (.slice a zs.length c) zs.length (clI zs)) (hn : zs.length ≤ 9223372036854775807) (hf : ∀ j, j < zs.length → I64 (gi zs j)) : IntsS w a zs := by
  refine ⟨hn, hf, ?_⟩
  rcases h.2 with ⟨h1, h2⟩ | ⟨g2, c2, cur, h1, _⟩
  · exact ⟨0, 0, (fun hne => absurd (List.eq_nil_of_length_eq_zero h2) hne), fun i hi => by omega⟩
  · obtain ⟨rfl, rfl⟩ : a = some ⟨g2, 0, none⟩ ∧ c = c2 := by simpa using h1
    refine ⟨g2, 0, fun _ => rfl, fun i hi => ?_⟩
    rw [Nat.zero_add, World.ownsRow.cellAt h i (by omega)]; exact clI_get zs hi
/-- The ints in order. -/
def srt (zs : List Int) : List Int := zs.mergeSort fun x y => decide (x ≤ y)
theorem srt_len (zs : List Int) : (srt zs).length = zs.length := List.length_mergeSort zs
theorem srt_perm (zs : List Int) : (srt zs).Perm zs := List.mergeSort_perm zs _
theorem sort_own (base c : Nat) (a : Option Addr) (zs : List Int) (w : World) (h : w.ownsRow base 3 1 (.slice a zs.length c) zs.length (clI zs)) (hn : zs.length ≤ 100000000) :
    Calls Tryz.prog 135 #[.slice a zs.length c] w fun e w' => e = .returned (.tuple #[]) ∧ w'.ownsRow base 3 1 (.slice a zs.length c) zs.length (clI (srt zs)) ∧ (base ≤ w.heap.size → Below base w w') := by
  rcases h.2 with ⟨h1, h2⟩ | ⟨g, cap, cur, h1, hbase, hgb, r1, r2, r3, r4⟩
  · obtain rfl : zs = [] := List.eq_nil_of_length_eq_zero h2
    have := AnyM.slices_Sort_int_none Tryz.laysSortI a c w
    change Calls Tryz.prog 135 _ _ _ at this
    refine this.mono fun e w' ⟨he, hw⟩ => ⟨he, ?_, fun _ => ?_⟩
    · subst hw; unfold srt; rw [srt_nil]; exact h
    · subst hw; exact Below.refl _ _
  · obtain ⟨rfl, rfl⟩ : a = some ⟨g, 0, none⟩ ∧ c = cap := by simpa using h1
    have hgl : g < w.heap.size := (Array.getElem?_eq_some_iff.1 hgb).1
    have hH : Holds (Value.int .i64) w g 0 zs.toArray := holds_of_blockI hgb (by simpa [clI] using r4)
    have := AnyM.slices_Sort_int Tryz.laysSortI g 0 c zs w hH hgl (by omega)
    change Calls Tryz.prog 135 _ _ _ at this
    refine this.mono fun e w' ⟨he, n, os, hw⟩ => ⟨he, ?_, fun hb => ?_⟩
    · subst hw
      exact ownsRow_sortedI (ts := srt zs) (srt_len zs) hbase hgb r1 r2 r3
    · subst hw
      exact (Below.refl base w).grown (grownBy_sortedI _) hb (fun k e => by cases e; exact hbase)
theorem grow_none (w : World) : grow w #[] = w := by unfold grow; rw [Array.append_empty]
theorem cmp_len (zs : List Int) : (Lib.compact zs).length ≤ zs.length := by
  unfold Lib.compact Lib.compactUpTo
  rw [List.length_map]
  exact Nat.le_trans (List.length_filter_le _ _) (by simp)
theorem compact_own (base c : Nat) (a : Option Addr) (zs : List Int) (w : World) (h : w.ownsRow base 3 1 (.slice a zs.length c) zs.length (clI zs)) (hn : zs.length ≤ 100000000) :
    Calls Tryz.prog 107 #[.slice a zs.length c] w fun e w' => e = .returned (.slice a (Lib.compact zs).length c) ∧ w'.ownsRow base 3 1 (.slice a (Lib.compact zs).length c) (Lib.compact zs).length (clI (Lib.compact zs)) ∧ (base ≤ w.heap.size → Below base w w') := by
  have hl := cmp_len zs
  rcases h.2 with ⟨h1, h2⟩ | ⟨g, cap, cur, h1, hbase, hgb, r1, r2, r3, r4⟩
  · obtain rfl : zs = [] := List.eq_nil_of_length_eq_zero h2
    have := AnyG.slices_Compact_int_empty Tryz.laysCompactI a c w
    change Calls Tryz.prog 107 _ _ _ at this
    refine this.mono fun e w' ⟨he, hw⟩ => ⟨he, ?_, fun _ => ?_⟩
    · subst hw; exact h
    · subst hw; exact Below.refl _ _
  · obtain ⟨rfl, rfl⟩ : a = some ⟨g, 0, none⟩ ∧ c = cap := by simpa using h1
    have hgl : g < w.heap.size := (Array.getElem?_eq_some_iff.1 hgb).1
    have hH : Holds (Value.int .i64) w g 0 zs.toArray := holds_of_blockI hgb (by simpa [clI] using r4)
    have := AnyG.slices_Compact_int Tryz.laysCompactI g 0 c zs w hH (by omega) r1
    change Calls Tryz.prog 107 _ _ _ at this
    refine this.mono fun e w' ⟨he, q, hw⟩ => ⟨he, ?_, fun hb => ?_⟩
    · have hg0 : w' = grow (putRow (Value.int .i64) (Sort.ahead w q) g 0 (Lib.compact zs ++ List.replicate (zs.length - (Lib.compact zs).length) 0).toArray) #[] := by rw [hw]; exact (grow_none _).symm
      rw [hg0]
      have ht := take_putCellsI cur (Lib.compact zs ++ List.replicate (zs.length - (Lib.compact zs).length) 0) (by simp; omega)
      refine ⟨by simp [clI], .inr ⟨g, c, _, rfl, hbase, heap_sortedI _ hgb, by omega, r2, by simp [putCells, r3], ?_⟩⟩
      have := congrArg (List.take (Lib.compact zs).length) ht
      rw [List.take_take, Nat.min_eq_left (by simp), List.map_append, List.take_left' (by simp)] at this
      rw [Nat.mul_one]; exact this
    · have hg0 : w' = grow (putRow (Value.int .i64) (Sort.ahead w q) g 0 (Lib.compact zs ++ List.replicate (zs.length - (Lib.compact zs).length) 0).toArray) #[] := by rw [hw]; exact (grow_none _).symm
      rw [hg0]
      exact (Below.refl base w).grown (grownBy_sortedI _) hb (fun k e => by cases e; exact hbase)

set_option maxHeartbeats 1000000 in
/-- slices.Sorted of slices.Values. -/
theorem sorted_in (Bs b off cap : Nat) (zs : List Int) (hmax : zs.length ≤ 100000000) (w : World) (hBs : Bs < w.heap.size) (hb : b < w.heap.size)
    (hcs : w.cell? ⟨Bs, 0, none⟩ = some (.slice (some ⟨b, off, none⟩) zs.length cap)) (hI : ∀ j, j < zs.length → w.cell? ⟨b, off + j, none⟩ = some (.int .i64 (zs[j]?.getD 0))) :
    Calls Tryz.prog 105 #[.func (.func 137) #[] #[.pointer (some ⟨Bs, 0, none⟩)]] w fun e W' => ∃ a c, e = .returned (.slice a zs.length c) ∧ W'.ownsRow w.heap.size 3 1 (.slice a zs.length c) zs.length (clI (srt zs)) ∧ Below w.heap.size w W' := by
  have H := Lib.hid (collect_in Bs b off cap zs (by omega) w hBs hb hcs hI)
  clear hI hcs
  go_enter Tryz.func105, Tryz.ntmps105
  go_wp2_with (go_at_call 134; refine H.out.mono ?_; rintro e w' ⟨v, rfl, hr, hB⟩; obtain ⟨a, c, rfl⟩ : ∃ a c, v = .slice a zs.length c := (by rcases hr.2 with ⟨h1, h2⟩ | ⟨g, cp, cur, h1, _⟩; exact ⟨none, 0, by rw [h1, h2]⟩; exact ⟨_, _, h1⟩); have HS := Lib.hid (sort_own w.heap.size c a zs w' hr hmax); have hz := hB.size; clear hr)
  go_wp2_with (go_at_call 135; refine HS.out.mono ?_; rintro e w2 ⟨rfl, hr2, hb2⟩)
  go_ret
  exact ⟨a, c, rfl, hr2, hB.trans (hb2 hz)⟩
end Go.Proofs.YtiagflackfkmnaaGreat
