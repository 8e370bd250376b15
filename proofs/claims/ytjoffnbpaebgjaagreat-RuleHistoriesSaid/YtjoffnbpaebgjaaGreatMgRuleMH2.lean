/-
  Library functions laid at this program, in plain words. By an AI agent.; slices.Sort, Compact and Sorted of ints at the seat of package rule, over rows of one's own. By an AI agent.; ContainsFunc over signs; numbered of signs. By an AI agent.; numbered of signs; ValidSigns. By an AI agent.
-/
import Derived.Test.YtjoffnbpaebgjaaGreatMgRuleMH1
import Derived.Shelf.SortM.Plain
import Derived.Shelf.SortM.SortNone
import Derived.Ground.SlgmProg
import Derived.Shelf.SlicesG.CompactI
import Derived.Ground.SlgnProg
import Derived.Shelf.SlSortCmp.WholeK
import Derived.Ground.SlsfProg
import Derived.Test.YtjoffnbpaebgjaaGreatProg
import Derived.Sort.OwnSortedInts
import Derived.Deep.RegionHeld3
import Derived.Deep.AppendLies
import Derived.BigQuiet
import Derived.BigRegion

namespace Go.Proofs
open Go.Shelf
def Tryz.laysSortI_ren : Go.Shelf.Ren := ⟨fun | 5 => 93 | 8 => 78 | 7 => 125 | 19 => 116 | 20 => 117 | 10 => 141 | 11 => 142 | 12 => 143 | 13 => 144 | 14 => 145 | 15 => 146 | 16 => 147 | 17 => 148 | 18 => 149 | 30 => 154 | 31 => 137 | 32 => 138 | 33 => 155 | 34 => 156 | 35 => 118 | 40 => 158 | n => n, fun | 23 => 22 | 25 => 3 | 3 => 3 | 32 => 44 | 22 => 22 | 0 => 0 | 44 => 43 | 46 => 155 | 4 => 4 | 36 => 147 | 35 => 146 | 41 => 151 | 5 => 5 | 9 => 9 | 53 => 167 | 57 => 171 | 63 => 180 | 64 => 181 | n => n, fun | n => n⟩
theorem Tryz.laysSortI : Go.Proofs.SlLaysM.n5 Tryz.prog Tryz.laysSortI_ren := {
  mixed := by kernel_rfl
  f5 := ⟨Tryz.f93.name, by decide, Tryz.func93.trans (congrArg some (by kernel_rfl))⟩
  f7 := ⟨Tryz.f125.name, by decide, Tryz.func125.trans (congrArg some (by kernel_rfl))⟩
  f8 := Tryz.func78.trans (congrArg some (by kernel_rfl))
  f10 := ⟨Tryz.f141.name, by decide, Tryz.func141.trans (congrArg some (by kernel_rfl))⟩
  f11 := ⟨Tryz.f142.name, by decide, Tryz.func142.trans (congrArg some (by kernel_rfl))⟩
  f12 := ⟨Tryz.f143.name, by decide, Tryz.func143.trans (congrArg some (by kernel_rfl))⟩
  f13 := ⟨Tryz.f144.name, by decide, Tryz.func144.trans (congrArg some (by kernel_rfl))⟩
  f14 := ⟨Tryz.f145.name, by decide, Tryz.func145.trans (congrArg some (by kernel_rfl))⟩
  f15 := ⟨Tryz.f146.name, by decide, Tryz.func146.trans (congrArg some (by kernel_rfl))⟩
  f16 := ⟨Tryz.f147.name, by decide, Tryz.func147.trans (congrArg some (by kernel_rfl))⟩
  f17 := ⟨Tryz.f148.name, by decide, Tryz.func148.trans (congrArg some (by kernel_rfl))⟩
  f18 := ⟨Tryz.f149.name, by decide, Tryz.func149.trans (congrArg some (by kernel_rfl))⟩
  f19 := Tryz.func116.trans (congrArg some (by kernel_rfl))
  f20 := Tryz.func117.trans (congrArg some (by kernel_rfl))
  f30 := ⟨Tryz.f154.name, by decide, Tryz.func154.trans (congrArg some (by kernel_rfl))⟩
  f31 := Tryz.func137.trans (congrArg some (by kernel_rfl))
  f32 := Tryz.func138.trans (congrArg some (by kernel_rfl))
  f33 := ⟨Tryz.f155.name, by decide, Tryz.func155.trans (congrArg some (by kernel_rfl))⟩
  f34 := ⟨Tryz.f156.name, by decide, Tryz.func156.trans (congrArg some (by kernel_rfl))⟩
  f35 := ⟨Tryz.f118.name, by decide, Tryz.func118.trans (congrArg some (by kernel_rfl))⟩
  f40 := ⟨Tryz.f158.name, by decide, Tryz.func158.trans (congrArg some (by kernel_rfl))⟩
  t0 := Tryz.underlying0
  a0 := Tryz.isAgg0
  z0 := Tryz.sizeOf0
  v0 := Tryz.zeroValue0
  t3 := Tryz.underlying3
  a3 := Tryz.isAgg3
  z3 := Tryz.sizeOf3
  v3 := Tryz.zeroValue3
  t4 := Tryz.underlying4
  a4 := Tryz.isAgg4
  z4 := Tryz.sizeOf4
  v4 := Tryz.zeroValue4
  t5 := Tryz.underlying5
  a5 := Tryz.isAgg5
  z5 := Tryz.sizeOf5
  v5 := Tryz.zeroValue5
  t9 := Tryz.underlying9
  a9 := Tryz.isAgg9
  z9 := Tryz.sizeOf9
  v9 := Tryz.zeroValue9
  t22 := Tryz.underlying22
  a22 := Tryz.isAgg22
  z22 := Tryz.sizeOf22
  v22 := Tryz.zeroValue22
  t23 := Tryz.underlying22
  a23 := Tryz.isAgg22
  z23 := Tryz.sizeOf22
  v23 := Tryz.zeroValue22
  t25 := Tryz.underlying3
  a25 := Tryz.isAgg3
  z25 := Tryz.sizeOf3
  v25 := Tryz.zeroValue3
  t32 := Tryz.underlying44
  a32 := Tryz.isAgg44
  z32 := Tryz.sizeOf44
  v32 := Tryz.zeroValue44
  t35 := Tryz.underlying146
  a35 := Tryz.isAgg146
  z35 := Tryz.sizeOf146
  v35 := Tryz.zeroValue146
  t36 := Tryz.underlying147
  a36 := Tryz.isAgg147
  z36 := Tryz.sizeOf147
  v36 := Tryz.zeroValue147
  t41 := Tryz.underlying151
  a41 := Tryz.isAgg151
  z41 := Tryz.sizeOf151
  v41 := Tryz.zeroValue151
  t44 := Tryz.underlying43
  a44 := Tryz.isAgg43
  z44 := Tryz.sizeOf43
  v44 := Tryz.zeroValue43
  t46 := Tryz.underlying155
  a46 := Tryz.isAgg155
  z46 := Tryz.sizeOf155
  v46 := Tryz.zeroValue155
  t53 := Tryz.underlying167
  a53 := Tryz.isAgg167
  z53 := Tryz.sizeOf167
  v53 := Tryz.zeroValue167
  t57 := Tryz.underlying171
  a57 := Tryz.isAgg171
  z57 := Tryz.sizeOf171
  v57 := Tryz.zeroValue171
  t63 := Tryz.underlying180
  a63 := Tryz.isAgg180
  z63 := Tryz.sizeOf180
  v63 := Tryz.zeroValue180
  t64 := Tryz.underlying181
  a64 := Tryz.isAgg181
  z64 := Tryz.sizeOf181
  v64 := Tryz.zeroValue181 }
def Tryz.laysCompactI_ren : Go.Shelf.Ren := ⟨fun | 43 => 68 | n => n, fun | 22 => 22 | 23 => 3 | 3 => 3 | 4 => 4 | 0 => 0 | n => n, fun | n => n⟩
theorem Tryz.laysCompactI : Go.Proofs.SlLaysN.n43 Tryz.prog Tryz.laysCompactI_ren := {
  mixed := by kernel_rfl
  f43 := ⟨Tryz.f68.name, by decide, Tryz.func68.trans (congrArg some (by kernel_rfl))⟩
  t0 := Tryz.underlying0
  a0 := Tryz.isAgg0
  z0 := Tryz.sizeOf0
  v0 := Tryz.zeroValue0
  t3 := Tryz.underlying3
  a3 := Tryz.isAgg3
  z3 := Tryz.sizeOf3
  v3 := Tryz.zeroValue3
  t4 := Tryz.underlying4
  a4 := Tryz.isAgg4
  z4 := Tryz.sizeOf4
  v4 := Tryz.zeroValue4
  t22 := Tryz.underlying22
  a22 := Tryz.isAgg22
  z22 := Tryz.sizeOf22
  v22 := Tryz.zeroValue22
  t23 := Tryz.underlying3
  a23 := Tryz.isAgg3
  z23 := Tryz.sizeOf3
  v23 := Tryz.zeroValue3
  i23 := by kernel_rfl }
def Tryz.laysSortP_ren : Go.Shelf.Ren := ⟨fun | 6 => 63 | 15 => 78 | 14 => 97 | 28 => 116 | 29 => 117 | 20 => 127 | 21 => 128 | 22 => 129 | 23 => 130 | 24 => 131 | 25 => 132 | 26 => 133 | 27 => 134 | 46 => 150 | 47 => 137 | 48 => 138 | 49 => 151 | 50 => 152 | 57 => 157 | n => n, fun | 22 => 68 | 24 => 88 | 25 => 114 | 3 => 3 | 39 => 44 | 0 => 0 | 53 => 43 | 55 => 155 | 4 => 4 | 46 => 147 | 45 => 146 | 50 => 151 | 5 => 5 | 9 => 9 | 66 => 167 | 70 => 171 | 76 => 180 | 77 => 181 | n => n, fun | n => n⟩
theorem Tryz.laysSortP : Go.Proofs.SlLaysF0.n6 Tryz.prog Tryz.laysSortP_ren := {
  mixed := by kernel_rfl
  f6 := ⟨Tryz.f63.name, by decide, Tryz.func63.trans (congrArg some (by kernel_rfl))⟩
  f14 := ⟨Tryz.f97.name, by decide, Tryz.func97.trans (congrArg some (by kernel_rfl))⟩
  f15 := Tryz.func78.trans (congrArg some (by kernel_rfl))
  f20 := ⟨Tryz.f127.name, by decide, Tryz.func127.trans (congrArg some (by kernel_rfl))⟩
  f21 := ⟨Tryz.f128.name, by decide, Tryz.func128.trans (congrArg some (by kernel_rfl))⟩
  f22 := ⟨Tryz.f129.name, by decide, Tryz.func129.trans (congrArg some (by kernel_rfl))⟩
  f23 := ⟨Tryz.f130.name, by decide, Tryz.func130.trans (congrArg some (by kernel_rfl))⟩
  f24 := ⟨Tryz.f131.name, by decide, Tryz.func131.trans (congrArg some (by kernel_rfl))⟩
  f25 := ⟨Tryz.f132.name, by decide, Tryz.func132.trans (congrArg some (by kernel_rfl))⟩
  f26 := ⟨Tryz.f133.name, by decide, Tryz.func133.trans (congrArg some (by kernel_rfl))⟩
  f27 := ⟨Tryz.f134.name, by decide, Tryz.func134.trans (congrArg some (by kernel_rfl))⟩
  f28 := Tryz.func116.trans (congrArg some (by kernel_rfl))
  f29 := Tryz.func117.trans (congrArg some (by kernel_rfl))
  f46 := ⟨Tryz.f150.name, by decide, Tryz.func150.trans (congrArg some (by kernel_rfl))⟩
  f47 := Tryz.func137.trans (congrArg some (by kernel_rfl))
  f48 := Tryz.func138.trans (congrArg some (by kernel_rfl))
  f49 := ⟨Tryz.f151.name, by decide, Tryz.func151.trans (congrArg some (by kernel_rfl))⟩
  f50 := ⟨Tryz.f152.name, by decide, Tryz.func152.trans (congrArg some (by kernel_rfl))⟩
  f57 := ⟨Tryz.f157.name, by decide, Tryz.func157.trans (congrArg some (by kernel_rfl))⟩
  t0 := Tryz.underlying0
  a0 := Tryz.isAgg0
  z0 := Tryz.sizeOf0
  v0 := Tryz.zeroValue0
  t3 := Tryz.underlying3
  a3 := Tryz.isAgg3
  z3 := Tryz.sizeOf3
  v3 := Tryz.zeroValue3
  t4 := Tryz.underlying4
  a4 := Tryz.isAgg4
  z4 := Tryz.sizeOf4
  v4 := Tryz.zeroValue4
  t5 := Tryz.underlying5
  a5 := Tryz.isAgg5
  z5 := Tryz.sizeOf5
  v5 := Tryz.zeroValue5
  t9 := Tryz.underlying9
  a9 := Tryz.isAgg9
  z9 := Tryz.sizeOf9
  v9 := Tryz.zeroValue9
  t22 := Tryz.underlying68
  a22 := Tryz.isAgg68
  z22 := Tryz.sizeOf68
  v22 := Tryz.zeroValue68
  t25 := Tryz.underlying114
  a25 := Tryz.isAgg114
  z25 := Tryz.sizeOf114
  v25 := Tryz.zeroValue114
  t39 := Tryz.underlying44
  a39 := Tryz.isAgg44
  z39 := Tryz.sizeOf44
  v39 := Tryz.zeroValue44
  t45 := Tryz.underlying146
  a45 := Tryz.isAgg146
  z45 := Tryz.sizeOf146
  v45 := Tryz.zeroValue146
  t46 := Tryz.underlying147
  a46 := Tryz.isAgg147
  z46 := Tryz.sizeOf147
  v46 := Tryz.zeroValue147
  t50 := Tryz.underlying151
  a50 := Tryz.isAgg151
  z50 := Tryz.sizeOf151
  v50 := Tryz.zeroValue151
  t53 := Tryz.underlying43
  a53 := Tryz.isAgg43
  z53 := Tryz.sizeOf43
  v53 := Tryz.zeroValue43
  t55 := Tryz.underlying155
  a55 := Tryz.isAgg155
  z55 := Tryz.sizeOf155
  v55 := Tryz.zeroValue155
  t66 := Tryz.underlying167
  a66 := Tryz.isAgg167
  z66 := Tryz.sizeOf167
  v66 := Tryz.zeroValue167
  t70 := Tryz.underlying171
  a70 := Tryz.isAgg171
  z70 := Tryz.sizeOf171
  v70 := Tryz.zeroValue171
  t76 := Tryz.underlying180
  a76 := Tryz.isAgg180
  z76 := Tryz.sizeOf180
  v76 := Tryz.zeroValue180
  t77 := Tryz.underlying181
  a77 := Tryz.isAgg181
  z77 := Tryz.sizeOf181
  v77 := Tryz.zeroValue181 }
end Go.Proofs

namespace Go.Proofs.YtjoffnbpaebgjaaGreat
set_option linter.unusedVariables false
set_option linter.unusedSimpArgs false
open Go.RowKit Go.Sort

theorem srt_nil : ([] : List Int).mergeSort (fun x y => decide (x ≤ y)) = [] := by simp [List.mergeSort]
/-- The cells of ints. -/
def clI (zs : List Int) : List Value := zs.map (Value.int .i64)
theorem clI_len (zs : List Int) : (clI zs).length = zs.length := by simp [clI]
theorem clI_app (zs : List Int) (x : Int) : clI (zs ++ [x]) = clI zs ++ [.int .i64 x] := by simp [clI]
theorem clI_get (zs : List Int) {i : Nat} (hi : i < zs.length) : (clI zs)[i]? = some (.int .i64 (gi zs i)) := by simp [clI, gi, hi]
theorem ints_nil (w : World) (a : Option Addr) : IntsS w a [] := ⟨by simp, fun i hi => absurd hi (Nat.not_lt_zero _), 0, 0, (fun h => absurd rfl h), fun i hi => absurd hi (Nat.not_lt_zero _)⟩
theorem ints_own {w : World} {base c : Nat} {a : Option Addr} {zs : List Int} {T : TypeId} (h : w.ownsRow base T 1 (.slice a zs.length c) zs.length (clI zs)) (hn : zs.length ≤ 9223372036854775807) (hf : ∀ j, j < zs.length → I64 (gi zs j)) : IntsS w a zs := by
  refine ⟨hn, hf, ?_⟩
  rcases h.2 with ⟨h1, h2⟩ | ⟨g2, c2, cur, h1, _⟩
  · exact ⟨0, 0, (fun hne => absurd (List.eq_nil_of_length_eq_zero h2) hne), fun i hi => by omega⟩
  · obtain ⟨rfl, rfl⟩ : a = some ⟨g2, 0, none⟩ ∧ c = c2 := by simpa using h1
    refine ⟨g2, 0, fun _ => rfl, fun i hi => ?_⟩
    rw [Nat.zero_add, World.ownsRow.cellAt h i (by omega)]; exact clI_get zs hi
/-- The ints in order. -/
def srt (zs : List Int) : List Int := zs.mergeSort fun x y => decide (x ≤ y)
theorem srt_len (zs : List Int) : (srt zs).length = zs.length := List.length_mergeSort zs
theorem srt_perm (zs : List Int) : (srt zs).Perm zs := List.mergeSort_perm zs _
theorem sort_own (base c : Nat) (a : Option Addr) (zs : List Int) (w : World) (h : w.ownsRow base 3 1 (.slice a zs.length c) zs.length (clI zs)) (hn : zs.length ≤ 100000000) :
    Calls Tryz.prog 93 #[.slice a zs.length c] w fun e w' => e = .returned (.tuple #[]) ∧ w'.ownsRow base 3 1 (.slice a zs.length c) zs.length (clI (srt zs)) ∧ (base ≤ w.heap.size → Below base w w') := by
  rcases h.2 with ⟨h1, h2⟩ | ⟨g, cap, cur, h1, hbase, hgb, r1, r2, r3, r4⟩
  · obtain rfl : zs = [] := List.eq_nil_of_length_eq_zero h2
    have := AnyM.slices_Sort_int_none Tryz.laysSortI a c w
    change Calls Tryz.prog 93 _ _ _ at this
    refine this.mono fun e w' ⟨he, hw⟩ => ⟨he, ?_, fun _ => ?_⟩
    · subst hw; unfold srt; rw [srt_nil]; exact h
    · subst hw; exact Below.refl _ _
  · obtain ⟨rfl, rfl⟩ : a = some ⟨g, 0, none⟩ ∧ c = cap := by simpa using h1
    have hgl : g < w.heap.size := (Array.getElem?_eq_some_iff.1 hgb).1
    have hH : Holds (Value.int .i64) w g 0 zs.toArray := holds_of_blockI hgb (by simpa [clI] using r4)
    have := AnyM.slices_Sort_int Tryz.laysSortI g 0 c zs w hH hgl (by omega)
    change Calls Tryz.prog 93 _ _ _ at this
    refine this.mono fun e w' ⟨he, n, os, hw⟩ => ⟨he, ?_, fun hb => ?_⟩
    · subst hw
      exact ownsRow_sortedI (ts := srt zs) (srt_len zs) hbase hgb r1 r2 r3
    · subst hw
      exact (Below.refl base w).grown (grownBy_sortedI _) hb (fun k e => by cases e; exact hbase)
theorem grow_none (w : World) : grow w #[] = w := by unfold grow; rw [Array.append_empty]
theorem cmp_len (zs : List Int) : (Lib.compact zs).length ≤ zs.length := by
  unfold Lib.compact Lib.compactUpTo
  rw [List.length_map]
  exact Nat.le_trans (List.length_filter_le _ _) (by simp)
theorem compact_own (base c : Nat) (a : Option Addr) (zs : List Int) (w : World) (h : w.ownsRow base 3 1 (.slice a zs.length c) zs.length (clI zs)) (hn : zs.length ≤ 100000000) :
    Calls Tryz.prog 68 #[.slice a zs.length c] w fun e w' => e = .returned (.slice a (Lib.compact zs).length c) ∧ w'.ownsRow base 3 1 (.slice a (Lib.compact zs).length c) (Lib.compact zs).length (clI (Lib.compact zs)) ∧ (base ≤ w.heap.size → Below base w w') := by
  have hl := cmp_len zs
  rcases h.2 with ⟨h1, h2⟩ | ⟨g, cap, cur, h1, hbase, hgb, r1, r2, r3, r4⟩
  · obtain rfl : zs = [] := List.eq_nil_of_length_eq_zero h2
    have := AnyG.slices_Compact_int_empty Tryz.laysCompactI a c w
    change Calls Tryz.prog 68 _ _ _ at this
    refine this.mono fun e w' ⟨he, hw⟩ => ⟨he, ?_, fun _ => ?_⟩
    · subst hw; exact h
    · subst hw; exact Below.refl _ _
  · obtain ⟨rfl, rfl⟩ : a = some ⟨g, 0, none⟩ ∧ c = cap := by simpa using h1
    have hgl : g < w.heap.size := (Array.getElem?_eq_some_iff.1 hgb).1
    have hH : Holds (Value.int .i64) w g 0 zs.toArray := holds_of_blockI hgb (by simpa [clI] using r4)
    have := AnyG.slices_Compact_int Tryz.laysCompactI g 0 c zs w hH (by omega) r1
    change Calls Tryz.prog 68 _ _ _ at this
    refine this.mono fun e w' ⟨he, q, hw⟩ => ⟨he, ?_, fun hb => ?_⟩
    · have hg0 : w' = grow (putRow (Value.int .i64) (Sort.ahead w q) g 0 (Lib.compact zs ++ List.replicate (zs.length - (Lib.compact zs).length) 0).toArray) #[] := by rw [hw]; exact (grow_none _).symm
      rw [hg0]
      have ht := take_putCellsI cur (Lib.compact zs ++ List.replicate (zs.length - (Lib.compact zs).length) 0) (by simp; omega)
      refine ⟨by simp [clI], .inr ⟨g, c, _, rfl, hbase, heap_sortedI _ hgb, by omega, r2, by simp [putCells, r3], ?_⟩⟩
      have := congrArg (List.take (Lib.compact zs).length) ht
      rw [List.take_take, Nat.min_eq_left (by simp), List.map_append, List.take_left' (by simp)] at this
      rw [Nat.mul_one]; exact this
    · have hg0 : w' = grow (putRow (Value.int .i64) (Sort.ahead w q) g 0 (Lib.compact zs ++ List.replicate (zs.length - (Lib.compact zs).length) 0).toArray) #[] := by rw [hw]; exact (grow_none _).symm
      rw [hg0]
      exact (Below.refl base w).grown (grownBy_sortedI _) hb (fun k e => by cases e; exact hbase)

set_option maxHeartbeats 1000000 in
/-- slices.Sorted of slices.Values. -/
theorem sorted_in (Bs b off cap : Nat) (zs : List Int) (hmax : zs.length ≤ 100000000) (w : World) (hBs : Bs < w.heap.size) (hb : b < w.heap.size)
    (hcs : w.cell? ⟨Bs, 0, none⟩ = some (.slice (some ⟨b, off, none⟩) zs.length cap)) (hI : ∀ j, j < zs.length → w.cell? ⟨b, off + j, none⟩ = some (.int .i64 (zs[j]?.getD 0))) :
    Calls Tryz.prog 54 #[.func (.func 99) #[] #[.pointer (some ⟨Bs, 0, none⟩)]] w fun e W' => ∃ a c, e = .returned (.slice a zs.length c) ∧ W'.ownsRow w.heap.size 3 1 (.slice a zs.length c) zs.length (clI (srt zs)) ∧ Below w.heap.size w W' := by
  have H := Lib.hid (collect_in Bs b off cap zs (by omega) w hBs hb hcs hI)
  clear hI hcs
  go_enter Tryz.func54, Tryz.ntmps54
  go_wp2_with (go_at_call 92; refine H.out.mono ?_; rintro e w' ⟨v, rfl, hr, hB⟩; obtain ⟨a, c, rfl⟩ : ∃ a c, v = .slice a zs.length c := (by rcases hr.2 with ⟨h1, h2⟩ | ⟨g, cp, cur, h1, _⟩; exact ⟨none, 0, by rw [h1, h2]⟩; exact ⟨_, _, h1⟩); have HS := Lib.hid (sort_own w.heap.size c a zs w' hr hmax); have hz := hB.size; clear hr)
  go_wp2_with (go_at_call 93; refine HS.out.mono ?_; rintro e w2 ⟨rfl, hr2, hb2⟩)
  go_ret
  exact ⟨a, c, rfl, hr2, hB.trans (hb2 hz)⟩
end Go.Proofs.YtjoffnbpaebgjaaGreat

namespace Go.Proofs.YtjoffnbpaebgjaaGreat
set_option linter.unusedVariables false
set_option linter.unusedSimpArgs false
open Go.RowKit

set_option maxRecDepth 100000 in
set_option maxHeartbeats 1000000 in
theorem idxSg_any (aa : Option Addr) (l : List Sgn) (ca : Nat) (lb : Array Value) (p : Nat → Bool) (w : World) (hA : SgnS w aa l)
    (hp : ∀ j ad cp W, j < l.length → PairsS W ad (gs l j).cv → Below w.heap.size w W → Calls Tryz.prog 83 (#[.agg #[.int .i64 (gs l j).n, .int .i64 (gs l j).k, .int .i64 (gs l j).v, .int .i64 (gs l j).c, .int .i64 (gs l j).d, .int .i64 (gs l j).rk, .int .i64 (gs l j).up, .int .i64 (gs l j).dn, .slice ad (gs l j).cv.length cp]] ++ lb) W fun e w' => e = .returned (.bool (p j)) ∧ Below W.heap.size W w') :
    Calls Tryz.prog 119 #[.slice aa l.length ca, .func (.func 83) #[] lb] w fun e w' => e = .returned (.int .i64 (idxK p l.length)) ∧ Below w.heap.size w w' := by
  obtain ⟨hlen, blk, off, ad, cp, hadr, hc⟩ := hA
  have HP := Lib.hid hp
  have HC := Lib.hid hc
  have HH : Hid (∀ k, k < l.length → p k = true → (∀ j, j < k → p j = false) → idxK p l.length = k) := Lib.hid fun k hk h hb => idxK_hit h hb _ hk
  have HM : Hid ((∀ j, j < l.length → p j = false) → idxK p l.length = -1) := Lib.hid fun h => idxK_miss _ h
  have HL : Hid (0 < l.length → aa = some ⟨blk, off, none⟩) := Lib.hid fun h => hadr (pos_ne (n := 0) h)
  generalize idxK p l.length = R at *
  clear hp hc hadr
  go_enter Tryz.func119, Tryz.ntmps119
  go_wp2_with fail
  go_loopw [8] (fun i wr => ∃ k : Nat, k ≤ l.length ∧ i = .int .i64 k ∧ Below w.heap.size w wr ∧ Hid (∀ j, j < k → p j = false)) (fun i _ => l.length - (intOf i).toNat)
  case atStart => exact ⟨0, Nat.zero_le _, rfl, Below.refl _ _, Lib.hid fun j hj => absurd hj (Nat.not_lt_zero _)⟩
  case round =>
    obtain ⟨k, hk, rfl, hb, HA⟩ := hrel
    by_cases hlt : k < l.length
    · obtain rfl := HL.out (by omega)
      obtain ⟨⟨c0, c1, c2, c3, c4, c5, c6, c7⟩, c8, hpr⟩ := HC.out k hlt
      have c0 := cell_below c0 hb
      have c1 := cell_below c1 hb
      have c2 := cell_below c2 hb
      have c3 := cell_below c3 hb
      have c4 := cell_below c4 hb
      have c5 := cell_below c5 hb
      have c6 := cell_below c6 hb
      have c7 := cell_below c7 hb
      have c8 := cell_below c8 hb
      have HK := Lib.hid (fun W hW => HP.out k (ad k) (cp k) W hlt (hpr.below hW) hW)
      have HHk := Lib.hid (HH.out k hlt)
      have HN : Hid (p k = false → ∀ j, j < k + 1 → p j = false) := Lib.hid fun h j hj => by
        by_cases e : j = k
        · subst e; exact h
        · exact HA.out j (by omega)
      clear HP HC HM HL HH hpr
      generalize ad k = adk at *
      generalize cp k = cpk at *
      generalize gs l k = s at *
      cases hpk : p k with
      | true =>
        have HR := Lib.hid (HHk.out hpk HA.out)
        rw [hpk] at HK
        clear hpk HHk HN
        go_wp2_with fail
        refine (HK.out _ hb).mono ?_
        rintro e w1 ⟨rfl, hb1⟩
        go_wp2_with fail
        go_ret
        rw [HR.out]
        exact ⟨rfl, hb.trans (hb1.mono hb.size)⟩
      | false =>
        have HR := Lib.hid (HN.out hpk)
        rw [hpk] at HK
        clear hpk HHk HN
        go_wp2_with fail
        refine (HK.out _ hb).mono ?_
        rintro e w1 ⟨rfl, hb1⟩
        go_wp2_with fail
        go_roundw
        case rel => exact ⟨k + 1, by omega, by go_num, hb.trans (hb1.mono hb.size), HR⟩
        case measure => simp [intOf]; omega
    · obtain rfl : k = l.length := by omega
      have HR := Lib.hid (HM.out HA.out)
      go_wp2_with fail
      go_ret
      rw [HR.out]
      exact ⟨rfl, hb⟩
set_option maxRecDepth 100000 in
theorem containsSg_any (aa : Option Addr) (l : List Sgn) (ca : Nat) (lb : Array Value) (p : Nat → Bool) (w : World) (hA : SgnS w aa l)
    (hp : ∀ j ad cp W, j < l.length → PairsS W ad (gs l j).cv → Below w.heap.size w W → Calls Tryz.prog 83 (#[.agg #[.int .i64 (gs l j).n, .int .i64 (gs l j).k, .int .i64 (gs l j).v, .int .i64 (gs l j).c, .int .i64 (gs l j).d, .int .i64 (gs l j).rk, .int .i64 (gs l j).up, .int .i64 (gs l j).dn, .slice ad (gs l j).cv.length cp]] ++ lb) W fun e w' => e = .returned (.bool (p j)) ∧ Below W.heap.size W w') :
    Calls Tryz.prog 82 #[.slice aa l.length ca, .func (.func 83) #[] lb] w fun e w' => e = .returned (.bool (anyK p l.length)) ∧ Below w.heap.size w w' := by
  have H := Lib.hid (idxSg_any aa l ca lb p w hA hp)
  have hq := Lib.hid (idxK_any p l.length)
  clear hp hA
  generalize idxK p l.length = R at *
  generalize anyK p l.length = B at *
  have hq := hq.out
  subst hq
  go_enter Tryz.func82, Tryz.ntmps82
  go_wp2_with fail
  refine H.out.mono ?_
  rintro e w1 ⟨rfl, hb1⟩
  go_wp2_with fail
  all_goals
    go_ret
    exact ⟨by simp_all, hb1⟩
set_option maxRecDepth 100000 in
theorem sg1_r (L : Int) (a : Option Addr) (js : List Int) (ca B : Nat) (s : Sgn) (ad : Option Addr) (cp : Nat) (w : World) (hP : PairsS w ad s.cv) (hB : B < w.heap.size) (c0 : w.cell? ⟨B, 0, none⟩ = some (.int .i64 L)) (c1 : w.cell? ⟨B, 1, none⟩ = some (.slice a js.length ca)) :
    Calls Tryz.prog 83 (#[.agg #[.int .i64 s.n, .int .i64 s.k, .int .i64 s.v, .int .i64 s.c, .int .i64 s.d, .int .i64 s.rk, .int .i64 s.up, .int .i64 s.dn, .slice ad s.cv.length cp]] ++ #[.pointer (some ⟨B, 0, none⟩)]) w fun e w' => e = .returned (.bool (!(sgnB L s))) ∧ Below w.heap.size w w' := by
  have H := Lib.hid (fun W (hW : Below w.heap.size w W) => signValid_r L a js ca s ad cp W (hP.below hW))
  generalize sgnB L s = b at *
  have hq : Hid (∀ c t o, o < 2 → (w.alloc (.cells c t)).cell? ⟨B, o, none⟩ = w.cell? ⟨B, o, none⟩) := Lib.hid fun c t o _ => ((Below.refl w.heap.size w).alloc (Nat.le_refl _) _).cell (p := ⟨B, o, none⟩) hB
  have q0 : ∀ c t, (w.alloc (.cells c t)).cell? ⟨B, 0, none⟩ = some (.int .i64 L) := fun c t => (hq.out c t 0 (by omega)).trans c0
  have q1 : ∀ c t, (w.alloc (.cells c t)).cell? ⟨B, 1, none⟩ = some (.slice a js.length ca) := fun c t => (hq.out c t 1 (by omega)).trans c1
  clear hP hq
  go_enter Tryz.func83, Tryz.ntmps83
  go_wp2_with (go_at_call 84; refine (H.out _ ((Below.refl _ _).alloc (Nat.le_refl _) _)).mono ?_; rintro e w' ⟨rfl, hb⟩)
  go_ret
  exact ⟨rfl, below_onR ((Below.refl _ _).alloc (Nat.le_refl _) _) hb⟩
set_option maxRecDepth 100000 in
theorem sg2_r (s : Sgn) (ad : Option Addr) (cp : Nat) (w : World) :
    Calls Tryz.prog 86 #[.agg #[.int .i64 s.n, .int .i64 s.k, .int .i64 s.v, .int .i64 s.c, .int .i64 s.d, .int .i64 s.rk, .int .i64 s.up, .int .i64 s.dn, .slice ad s.cv.length cp]] w fun e w' => e = .returned (.int .i64 s.n) ∧ Below w.heap.size w w' := by
  go_enter Tryz.func86, Tryz.ntmps86
  go_wp2_with fail
  go_ret
  exact ⟨rfl, (Below.refl _ _).alloc (Nat.le_refl _) _⟩
end Go.Proofs.YtjoffnbpaebgjaaGreat

namespace Go.Proofs.YtjoffnbpaebgjaaGreat
set_option linter.unusedVariables false
set_option linter.unusedSimpArgs false
open Go.RowKit

theorem owns_belowI {w w' : World} {base : Nat} {e : TypeId} {size : Nat} {v : Value} {n : Nat} {xs : List Value} (h : w.ownsRow base e size v n xs) (hb : Below w.heap.size w w') : w'.ownsRow base e size v n xs := by
  refine ⟨h.1, ?_⟩
  rcases h.2 with h2 | ⟨g, cap, cur, h1, h2, h3, h4⟩
  · exact .inl h2
  · have hg : g < w.heap.size := (Array.getElem?_eq_some_iff.1 h3).1
    exact .inr ⟨g, cap, cur, h1, h2, by rw [hb.block g hg]; exact h3, h4⟩
theorem owns_baseI {w : World} {base base' : Nat} {e : TypeId} {size : Nat} {v : Value} {n : Nat} {xs : List Value} (h : w.ownsRow base e size v n xs) (hb : base' ≤ base) : w.ownsRow base' e size v n xs := by
  refine ⟨h.1, ?_⟩
  rcases h.2 with h2 | ⟨g, cap, cur, h1, h2, h3, h4⟩
  · exact .inl h2
  · exact .inr ⟨g, cap, cur, h1, Nat.le_trans hb h2, h3, h4⟩
theorem owns_blockI {w : World} {base : Nat} {e : TypeId} {size : Nat} {v : Value} {n : Nat} {xs : List Value} (h : w.ownsRow base e size v n xs) {z : Nat} (hz : v.ownBlock = some z) : base ≤ z := by
  rcases h.2 with ⟨h1, _⟩ | ⟨g2, c3, cur, h1, h2, _⟩
  · rw [h1] at hz; simp [Value.ownBlock] at hz
  · rw [h1] at hz; simp [Value.ownBlock] at hz; omega
/-- Is the number at place k greater than the one ahead of it, and not too great? -/
def nOk (zs : List Int) (k : Nat) : Bool := decide (prvR zs k < gi zs k) && decide (gi zs k ≤ 1000000000)
def ascB (zs : List Int) : Bool := !(anyK (fun k => !(nOk zs k)) zs.length)
/-- Has each a number of its own? -/
def numB (ns : List Int) : Bool := ascB (srt ns)
theorem asc_bad {zs : List Int} {k : Nat} (hk : k < zs.length) (h : nOk zs k = false) : ascB zs = false := by
  unfold ascB; rw [anyK_true (j := k) (by simp [h]) _ hk]; simp
theorem asc_end {zs : List Int} (h : ∀ k, k < zs.length → nOk zs k = true) : ascB zs = true := by
  unfold ascB; rw [(anyK_iff _).2 (fun k hk => by simp [h k hk])]; simp
/-- The numbers of the first k signs. -/
def nosK (l : List Sgn) (k : Nat) : List Int := (l.take k).map (·.n)
theorem nosK_succ (l : List Sgn) {k : Nat} (h : k < l.length) : nosK l (k + 1) = nosK l k ++ [(gs l k).n] := by
  unfold nosK gs; rw [List.take_add_one, List.map_append]; simp [h]
theorem nosK_len (l : List Sgn) {k : Nat} (h : k ≤ l.length) : (nosK l k).length = k := by unfold nosK; simp; omega
set_option maxRecDepth 100000 in
set_option maxHeartbeats 2000000 in
theorem numbered_r (aa : Option Addr) (l : List Sgn) (ca : Nat) (w : World) (hA : SgnS w aa l) (hn : l.length ≤ 100000000) :
    Calls Tryz.prog 85 #[.slice aa l.length ca, .func (.func 86) #[] #[]] w fun e w' => e = .returned (.bool (numB (nosK l l.length))) ∧ Below w.heap.size w w' := by
  obtain ⟨hlen, blk, off, ad, cp, hadr, hc⟩ := hA
  have HC := Lib.hid hc
  have HL : Hid (0 < l.length → aa = some ⟨blk, off, none⟩) := Lib.hid fun h => hadr (pos_ne (n := 0) h)
  have HNS : Hid (∀ k, k < l.length → clI (nosK l (k + 1)) = clI (nosK l k) ++ [.int .i64 (gs l k).n]) := Lib.hid fun k hk => by rw [nosK_succ l hk, clI_app]
  have HNL : Hid (∀ k, k ≤ l.length → (nosK l k).length = k) := Lib.hid fun k hk => nosK_len l hk
  obtain ⟨i0, hi, hz0, hz1, hz2⟩ := info_parts infoInt
  clear hc hadr
  go_enter Tryz.func85, Tryz.ntmps85
  go_wp2_with fail
  go_loopw [5, 13] (fun v i wr => ∃ k : Nat, k ≤ l.length ∧ i = .int .i64 k ∧ (∃ a c, v = .slice a k c) ∧ Hid (wr.ownsRow w.heap.size 3 1 v k (clI (nosK l k))) ∧ Below w.heap.size w wr) (fun _ i _ => l.length - (intOf i).toNat)
  case atStart => exact ⟨0, Nat.zero_le _, rfl, ⟨none, 0, rfl⟩, Lib.hid ⟨rfl, .inl ⟨rfl, rfl⟩⟩, Below.refl _ _⟩
  case round =>
    obtain ⟨k, hk, rfl, ⟨av, cv, rfl⟩, HRow, hbr⟩ := hrel
    by_cases hlt : k < l.length
    · obtain rfl := HL.out (by omega)
      obtain ⟨⟨c0, c1, c2, c3, c4, c5, c6, c7⟩, c8, hpr⟩ := HC.out k hlt
      have c0 := cell_below c0 hbr
      have c1 := cell_below c1 hbr
      have c2 := cell_below c2 hbr
      have c3 := cell_below c3 hbr
      have c4 := cell_below c4 hbr
      have c5 := cell_below c5 hbr
      have c6 := cell_below c6 hbr
      have c7 := cell_below c7 hbr
      have c8 := cell_below c8 hbr
      have HNk := Lib.hid (HNS.out k hlt)
      clear HC HL HNS HNL hpr
      generalize ad k = adk at *
      generalize cp k = cpk at *
      generalize hsk : gs l k = s at *
      clear hsk
      generalize nosK l k = X0 at *
      have HK := Lib.hid (fun W => sg2_r s adk cpk W)
      go_wp2_with fail
      refine (HK.out _).mono ?_
      rintro e w1 ⟨rfl, hb1⟩
      have hb0 : Below w.heap.size w (wr.alloc (.cells #[.int .i64 s.n, .int .i64 s.k, .int .i64 s.v, .int .i64 s.c, .int .i64 s.d, .int .i64 s.rk, .int .i64 s.up, .int .i64 s.dn, .slice adk s.cv.length cpk] 58)) := hbr.alloc hbr.size _
      have hbq := hb0.trans (hb1.mono hb0.size)
      have HRow1 := Lib.hid (owns_belowI (HRow.out.alloc (.cells #[.int .i64 s.n, .int .i64 s.k, .int .i64 s.v, .int .i64 s.c, .int .i64 s.d, .int .i64 s.rk, .int .i64 s.up, .int .i64 s.dn, .slice adk s.cv.length cpk] 58)) hb1)
      clear hb1 hb0 HRow HK c0 c1 c2 c3 c4 c5 c6 c7 c8 hbr
      have hown := Lib.hid (HRow1.out.alloc (.cells #[.int .i64 s.n] 3))
      have hbs := hbq.size
      go_wp2_with (first | (at_builtin; go_loud (refine wpList_append_lies _ rfl _ _ 22 rfl w.heap.size 3 i0 _ 1 8 Tryz.underlying22 hi hz0 hz1 hz2 rfl (by decide) (.slice av k cv) k _ (by rfl) hown.out ⟨w1.heap.size, 0, none⟩ 1 1 [.int .i64 s.n] (by rfl) (by rfl) ?d1 ?d2 (by decide) ?d3 ?d4 ?d5 _ rfl ?_)))
      case d1 =>
        refine World.news_of_block (cs := #[.int .i64 s.n]) (t := 3) (fr := (0, 0)) ?_
        exact heap_alloc_new _ _
      case d2 => simp [Value.oneCell']
      case d3 => unfold maxLen; omega
      case d4 => omega
      case d5 => first | (simp; omega) | simp | omega
      intro g6 c6 w6 hown6 hgrow6 hat6 hlt6
      have hb6 : Below w.heap.size w w6 := ((hbq.alloc hbs _).grown hgrow6 (by first | (simp; omega) | simp | omega) (fun z hz => owns_blockI hown.out hz))
      have HRow6 : Hid (w6.ownsRow w.heap.size 3 1 (.slice (some ⟨g6, 0, none⟩) (k + 1) c6) (k + 1) (clI (nosK l (k + 1)))) := Lib.hid (by rw [HNk.out]; exact hown6)
      clear hown6 hown HRow1 hbq hgrow6 hat6 hlt6 HNk
      go_wp2_with fail
      go_roundw
      case rel => exact ⟨k + 1, by omega, by go_num, ⟨_, c6, rfl⟩, HRow6, hb6⟩
      case measure => simp [intOf]; omega
    · obtain rfl : k = l.length := by omega
      have hle := HNL.out l.length (Nat.le_refl _)
      have HS := Lib.hid (sort_own w.heap.size cv av (nosK l l.length) wr (by rw [hle]; exact HRow.out) (by rw [hle]; exact hn))
      have HZL : Hid ((srt (nosK l l.length)).length = l.length) := Lib.hid ((srt_len _).trans hle)
      have HN : Hid (numB (nosK l l.length) = ascB (srt (nosK l l.length))) := Lib.hid rfl
      rw [hle] at HS
      generalize srt (nosK l l.length) = Z at *
      clear HRow HC HL HNS HNL hle
      have hbs := hbr.size
      go_wp2_with (go_at_call 93; refine HS.out.mono ?_; rintro e w2 ⟨rfl, hown2, hb2⟩)
      have hbz := hbr.trans (hb2 hbs)
      have HOwn := Lib.hid hown2
      clear hown2 hb2 HS hbr
      have HZ : Hid (∀ k, k < l.length → ∃ g, av = some ⟨g, 0, none⟩ ∧ w2.cell? ⟨g, k, none⟩ = some (.int .i64 (gi Z k))) := Lib.hid fun k hk => by
        have hz := HZL.out
        have h := HOwn.out
        rcases h.2 with ⟨h1, h2⟩ | ⟨g2, c2, cur, h1, _⟩
        · omega
        · obtain ⟨rfl, rfl⟩ : av = some ⟨g2, 0, none⟩ ∧ cv = c2 := by simpa using h1
          refine ⟨g2, rfl, ?_⟩
          rw [World.ownsRow.cellAt h k (by omega)]
          exact clI_get Z (by omega)
      have HE : Hid ((∀ k, k < l.length → nOk Z k = true) → ascB Z = true) := Lib.hid fun h => asc_end fun k hk => h k (by rw [← HZL.out]; exact hk)
      have HB : Hid (∀ k, k < l.length → nOk Z k = false → ascB Z = false) := Lib.hid fun k hk h => asc_bad (by rw [HZL.out]; exact hk) h
      have HNK : Hid (∀ k, nOk Z k = (decide (prvR Z k < gi Z k) && decide (gi Z k ≤ 1000000000))) := Lib.hid fun k => rfl
      have HP1 : Hid (∀ k, prvR Z (k + 1) = gi Z k) := Lib.hid fun k => rfl
      have HP0 : Hid (prvR Z 0 = 0) := Lib.hid rfl
      clear HOwn HZL
      generalize ascB Z = AB at *
      go_wp2_with fail
      go_loopw [8, 28] (fun q i wr => ∃ k : Nat, k ≤ l.length ∧ i = .int .i64 k ∧ q = .int .i64 (prvR Z k) ∧ wr = w2 ∧ Hid (∀ j, j < k → nOk Z j = true)) (fun _ i _ => l.length - (intOf i).toNat)
      case atStart => exact ⟨0, Nat.zero_le _, rfl, by rw [HP0.out], rfl, Lib.hid fun j hj => absurd hj (Nat.not_lt_zero _)⟩
      case round =>
        obtain ⟨k, hk, rfl, rfl, rfl, HA⟩ := hrel
        by_cases hlt : k < l.length
        · obtain ⟨g, rfl, cz⟩ := HZ.out k hlt
          have HNk := Lib.hid (HNK.out k)
          have HBk := Lib.hid (HB.out k hlt)
          have HP := Lib.hid (HP1.out k)
          have HA1 : Hid (nOk Z k = true → ∀ j, j < k + 1 → nOk Z j = true) := Lib.hid fun h j hj => by
            by_cases e : j = k
            · subst e; exact h
            · exact HA.out j (by omega)
          clear HZ HE HB HNK HP1 HP0 HA
          generalize prvR Z (k + 1) = x1 at *
          have HP := HP.out
          subst HP
          generalize prvR Z k = x0 at *
          generalize hxx : gi Z k = x at *
          generalize nOk Z k = ok at *
          by_cases h1 : x0 < x
          · by_cases h2 : x ≤ 1000000000
            · have hok : ok = true := by rw [HNk.out, decide_eq_true h1, decide_eq_true h2]; rfl
              have HA1 := Lib.hid (HA1.out hok)
              clear hok HNk HBk
              subst hxx
              go_wp2_with fail
              go_roundw
              case rel => exact ⟨k + 1, by omega, by go_num, by first | rfl | trivial | simp, by first | rfl | trivial, HA1⟩
              case measure => simp [intOf]; omega
            · have hok : ok = false := by rw [HNk.out, decide_eq_false h2]; simp
              have HR := Lib.hid (HBk.out hok)
              clear hok HNk HBk HA1 hxx
              go_wp2_with fail
              go_ret
              exact ⟨by rw [HN.out, HR.out]; rfl, hbz⟩
          · have hok : ok = false := by rw [HNk.out, decide_eq_false h1]; simp
            have HR := Lib.hid (HBk.out hok)
            clear hok HNk HBk HA1 hxx
            go_wp2_with fail
            go_ret
            exact ⟨by rw [HN.out, HR.out]; rfl, hbz⟩
        · obtain rfl : k = l.length := by omega
          have HR := Lib.hid (HE.out HA.out)
          go_wp2_with fail
          go_ret
          exact ⟨by rw [HN.out, HR.out]; rfl, hbz⟩
end Go.Proofs.YtjoffnbpaebgjaaGreat
