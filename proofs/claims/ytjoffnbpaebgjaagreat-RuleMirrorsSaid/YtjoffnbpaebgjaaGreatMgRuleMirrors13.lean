/-
  faulty; slices.SortFunc at faults. By an AI agent.; Parts between cuts, and stretches metre by metre: one list. By an AI agent.; Between the cuts of a course nothing changes: what holds, and what must hold, as stretches. By an AI agent.; append of a slice that has no elements, whatever its address and its capacity: the slice stays. By an AI agent.
-/
import Derived.Test.YtjoffnbpaebgjaaGreatMgRuleMirrors4
import Derived.Test.YtjoffnbpaebgjaaGreatMgRuleMirrors6
import Derived.Test.YtjoffnbpaebgjaaGreatMgRuleMirrors11
import Derived.Test.YtjoffnbpaebgjaaGreatMgRuleMirrors12
import Derived.Deep.RegionHeld3
import Derived.Deep.AppendLies
import Derived.BigQuiet
import Derived.BigRegion
import Derived.Shelf.SlSortCmp.WholeK
import Derived.Shelf.SlSortCmp.NoneTotal
import Derived.Lib.OwnBridge
import Derived.Lib.AppendIntMem
import Derived.Laws.AppendOwnNone

namespace Go.Proofs.YtjoffnbpaebgjaaGreat
set_option linter.unusedVariables false
set_option linter.unusedSimpArgs false
open Go.RowKit

abbrev Flt := Int × Int
theorem infoF : (Tryz.prog.info? 96).map (fun i => (i.zero, i.size, i.bytes)) = some (some (.agg #[.int .i64 0, .int .i64 0]), 2, 16) := by kernel_rfl
def enc2 (x : Flt) : List Value := [.int .i64 x.1, .int .i64 x.2]
theorem enc2_len (x : Flt) : (enc2 x).length = 2 := rfl
theorem enc2_one (x : Flt) : ∀ v ∈ enc2 x, v.oneCell' = true := by
  intro v hv
  simp [enc2] at hv
  rcases hv with rfl | rfl <;> rfl
def cl2 (l : List Flt) : List Value := l.flatMap enc2
theorem cl2_app (l m : List Flt) : cl2 (l ++ m) = cl2 l ++ cl2 m := by simp [cl2]
theorem cl2_one (l : List Flt) : ∀ v ∈ cl2 l, v.oneCell' = true := by
  intro v hv
  obtain ⟨x, -, hx⟩ := List.mem_flatMap.1 hv
  exact enc2_one x v hx
theorem cl2_len (l : List Flt) : (cl2 l).length = l.length * 2 := by
  induction l with
  | nil => rfl
  | cons p l ih => unfold cl2 at *; rw [List.flatMap_cons, List.length_append, ih, enc2_len]; simp; omega
theorem cl2_c : ∀ (s : List Flt) (i : Nat), i < s.length → (cl2 s)[i * 2]? = some (.int .i64 (gp s i).1) ∧ (cl2 s)[i * 2 + 1]? = some (.int .i64 (gp s i).2)
  | [], i, h => by simp at h
  | p :: s, 0, _ => ⟨rfl, rfl⟩
  | p :: s, i + 1, h => by
    obtain ⟨h1, h2⟩ := cl2_c s i (by simpa using h)
    have e : cl2 (p :: s) = enc2 p ++ cl2 s := rfl
    rw [e, List.getElem?_append_right (by rw [enc2_len]; omega), List.getElem?_append_right (by rw [enc2_len]; omega), enc2_len, show (i + 1) * 2 - 2 = i * 2 by omega, show (i + 1) * 2 + 1 - 2 = i * 2 + 1 by omega]
    exact ⟨h1, h2⟩
theorem cl2_get : ∀ (l : List Flt) (j : Nat), j < l.length * 2 → (cl2 l)[j]? = some ((enc2 l[j / 2]!)[j % 2]!)
  | [], j, h => by simp at h
  | p :: l, j, h => by
    unfold cl2
    rw [List.flatMap_cons]
    by_cases h1 : j < 2
    · rw [List.getElem?_append_left (by rw [enc2_len]; exact h1), show j / 2 = 0 by omega, show j % 2 = j by omega]
      have hl : j < (enc2 p).length := h1
      rw [List.getElem?_eq_getElem hl, getElem!_pos _ j hl]
      rfl
    · have ih := cl2_get l (j - 2) (by simp at h; omega)
      unfold cl2 at ih
      rw [List.getElem?_append_right (by rw [enc2_len]; omega), enc2_len, ih, show j / 2 = (j - 2) / 2 + 1 by omega, show j % 2 = (j - 2) % 2 by omega]
      rfl
theorem pairs_own2 {w : World} {base c : Nat} {a : Option Addr} {zs : List Flt} {T : TypeId} (h : w.ownsRow base T 2 (.slice a zs.length c) zs.length (cl2 zs)) (hn : zs.length ≤ 9223372036854775807) (hf : ∀ j, j < zs.length → I64 (gp zs j).1 ∧ I64 (gp zs j).2) : PairsS w a zs := by
  refine ⟨hn, hf, ?_⟩
  rcases h.2 with ⟨h1, h2⟩ | ⟨g2, c2, cur, h1, _⟩
  · exact ⟨0, 0, (fun hne => absurd (List.eq_nil_of_length_eq_zero h2) hne), fun i hi => by omega⟩
  · obtain ⟨rfl, rfl⟩ : a = some ⟨g2, 0, none⟩ ∧ c = c2 := by simpa using h1
    refine ⟨g2, 0, fun _ => rfl, fun i hi => ?_⟩
    obtain ⟨c0, c1⟩ := cl2_c zs i hi
    rw [Nat.zero_add]
    exact ⟨by rw [World.ownsRow.cellAt h (i * 2) (by omega)]; exact c0, by rw [World.ownsRow.cellAt h (i * 2 + 1) (by omega)]; exact c1⟩
/-- The faults of the first k signs of a row. -/
def fltK (L : Int) (row : List Pst) : Nat → List Flt
  | 0 => []
  | k + 1 => if codP L row (gq row k) = 0 then fltK L row k else fltK L row k ++ [((gq row k).s.n, codP L row (gq row k))]
theorem fltK_len (L : Int) (row : List Pst) : ∀ k, (fltK L row k).length ≤ k
  | 0 => Nat.le_refl _
  | k + 1 => by
    have := fltK_len L row k
    rw [fltK]; split
    · omega
    · simp; omega
theorem codP_bd (L : Int) (row : List Pst) (p : Pst) : 0 ≤ codP L row p ∧ codP L row p ≤ 4 := by
  unfold codP; split
  · split <;> omega
  · split
    · split <;> omega
    · split
      · split <;> omega
      · split
        · split <;> omega
        · omega
theorem fltK_mem {L : Int} {row : List Pst} {x : Flt} : ∀ {k}, x ∈ fltK L row k → ∃ i, i < k ∧ x = ((gq row i).s.n, codP L row (gq row i))
  | 0, h => by cases h
  | k + 1, h => by
    rw [fltK] at h
    split at h
    · obtain ⟨i, hi, e⟩ := fltK_mem h; exact ⟨i, by omega, e⟩
    · rw [List.mem_append, List.mem_singleton] at h
      rcases h with h | h
      · obtain ⟨i, hi, e⟩ := fltK_mem h; exact ⟨i, by omega, e⟩
      · exact ⟨k, by omega, h⟩
/-- What faulty returns. -/
def FltE (M : List Flt) (w : World) (e : Ending) (w' : World) : Prop := ∃ b c, e = .returned (.slice b M.length c) ∧ w'.ownsRow w.heap.size 96 2 (.slice b M.length c) M.length (cl2 M) ∧ Below w.heap.size w w'
set_option maxRecDepth 100000 in
set_option maxHeartbeats 4000000 in
theorem faulty_r (L : Int) (ar : Option Addr) (row : List Pst) (cr : Nat) (hL : 0 ≤ L ∧ L ≤ 100000) (hd : ∀ i, i < row.length → (-100000 ≤ (gq row i).d ∧ (gq row i).d ≤ 100000) ∧ -100000 ≤ (gq row i).s.v ∧ (gq row i).s.v ≤ 100000) (hn : row.length ≤ 1000) (w : World) (hR : PstS w ar row) :
    Calls Tryz.prog 43 #[.slice ar row.length cr, .func (.func 44) #[.agg #[.int .i64 L, .slice ar row.length cr]] #[]] w (FltE (fltK L row row.length) w) := by
  have HCd := Lib.hid (fun p ad cp W (hdp : -100000 ≤ p.d ∧ p.d ≤ 100000) (hvp : -100000 ≤ p.s.v ∧ p.s.v ≤ 100000) (hW : Below w.heap.size w W) => code_r L ar row cr p ad cp hL hdp hvp W (hR.below hW))
  obtain ⟨-, pb, po, pad, pcp, hpa, hpc⟩ := hR
  have HPC := Lib.hid hpc
  have HPA : Hid (0 < row.length → ar = some ⟨pb, po, none⟩) := Lib.hid fun h => hpa (List.ne_nil_of_length_pos h)
  have HD := Lib.hid hd
  have HLen := Lib.hid (fltK_len L row)
  have HStep : Hid (∀ k, fltK L row (k + 1) = if codP L row (gq row k) = 0 then fltK L row k else fltK L row k ++ [((gq row k).s.n, codP L row (gq row k))]) := Lib.hid fun k => rfl
  have HM0 : Hid (fltK L row 0 = []) := Lib.hid rfl
  obtain ⟨n0, hi, hz0, hz1, hz2⟩ := info_parts infoF
  generalize fltK L row = MM at *
  clear hpa hpc hd
  go_enter Tryz.func43, Tryz.ntmps43
  go_wp2_with fail
  go_loopw [5, 11] (fun v i9 wr => ∃ k : Nat, k ≤ row.length ∧ i9 = .int .i64 k ∧ (∃ a c, v = .slice a (MM k).length c) ∧ Hid (wr.ownsRow w.heap.size 96 2 v (MM k).length (cl2 (MM k))) ∧ Below w.heap.size w wr) (fun _ i9 _ => row.length - (intOf i9).toNat)
  case atStart => exact ⟨0, Nat.zero_le _, rfl, ⟨none, 0, by rw [HM0.out]; rfl⟩, Lib.hid (by rw [HM0.out]; exact ⟨rfl, .inl ⟨rfl, rfl⟩⟩), Below.refl _ _⟩
  case round =>
    obtain ⟨k, hk, rfl, ⟨av, cv, rfl⟩, HRow, hbr⟩ := hrel
    have hkl := HLen.out k
    by_cases hlt : k < row.length
    · obtain rfl := HPA.out (by omega)
      obtain ⟨⟨⟨c0, c1, c2, c3, c4, c5, c6, c7⟩, c8, c9, c10, c11⟩, -⟩ := HPC.out k hlt
      have c0 := cell_below c0 hbr
      have c1 := cell_below c1 hbr
      have c2 := cell_below c2 hbr
      have c3 := cell_below c3 hbr
      have c4 := cell_below c4 hbr
      have c5 := cell_below c5 hbr
      have c6 := cell_below c6 hbr
      have c7 := cell_below c7 hbr
      have c8 := cell_below c8 hbr
      have c9 := cell_below c9 hbr
      have c10 := cell_below c10 hbr
      have c11 := cell_below c11 hbr
      have hdk := HD.out k hlt
      have HCk := Lib.hid (fun W (hW : Below w.heap.size w W) => HCd.out (gq row k) (pad k) (pcp k) W hdk.1 hdk.2 hW)
      have HN := Lib.hid (HStep.out k)
      have hsr := hbr.size
      clear HPC HPA HD HCd HStep HLen HM0 hdk
      generalize codP L row (gq row k) = CD at *
      generalize pad k = adk at *
      generalize pcp k = cpk at *
      obtain ⟨x, hx⟩ : ∃ x, gq row k = x := ⟨_, rfl⟩
      rw [hx] at HN HCk c0 c1 c2 c3 c4 c5 c6 c7 c8 c9 c10 c11
      clear hx
      obtain ⟨S, hS⟩ : ∃ S, MM k = S := ⟨_, rfl⟩
      rw [hS] at HN HRow hkl ⊢
      clear hS
      go_upto_region 5 with (fail)
      obtain ⟨wq, hwq⟩ : ∃ wq, wr.alloc (.cells #[.int .i64 x.s.n, .int .i64 x.s.k, .int .i64 x.s.v, .int .i64 x.s.c, .int .i64 x.s.d, .int .i64 x.s.rk, .int .i64 x.s.up, .int .i64 x.s.dn, .slice adk x.s.cv.length cpk, .int .i64 x.d, .int .i64 x.u, .bool x.b] 88) = wq := ⟨_, rfl⟩
      have hbq0 : Below wr.heap.size wr wq := by rw [← hwq]; exact (Below.refl _ _).alloc (Nat.le_refl _) _
      have x0 : wq.cell? ⟨wr.heap.size, 0, none⟩ = some (.int .i64 x.s.n) := by rw [← hwq]; simp [go_sem]
      have x1 : wq.cell? ⟨wr.heap.size, 1, none⟩ = some (.int .i64 x.s.k) := by rw [← hwq]; simp [go_sem]
      have x2 : wq.cell? ⟨wr.heap.size, 2, none⟩ = some (.int .i64 x.s.v) := by rw [← hwq]; simp [go_sem]
      have x3 : wq.cell? ⟨wr.heap.size, 3, none⟩ = some (.int .i64 x.s.c) := by rw [← hwq]; simp [go_sem]
      have x4 : wq.cell? ⟨wr.heap.size, 4, none⟩ = some (.int .i64 x.s.d) := by rw [← hwq]; simp [go_sem]
      have x5 : wq.cell? ⟨wr.heap.size, 5, none⟩ = some (.int .i64 x.s.rk) := by rw [← hwq]; simp [go_sem]
      have x6 : wq.cell? ⟨wr.heap.size, 6, none⟩ = some (.int .i64 x.s.up) := by rw [← hwq]; simp [go_sem]
      have x7 : wq.cell? ⟨wr.heap.size, 7, none⟩ = some (.int .i64 x.s.dn) := by rw [← hwq]; simp [go_sem]
      have x8 : wq.cell? ⟨wr.heap.size, 8, none⟩ = some (.slice adk x.s.cv.length cpk) := by rw [← hwq]; simp [go_sem]
      have x9 : wq.cell? ⟨wr.heap.size, 9, none⟩ = some (.int .i64 x.d) := by rw [← hwq]; simp [go_sem]
      have x10 : wq.cell? ⟨wr.heap.size, 10, none⟩ = some (.int .i64 x.u) := by rw [← hwq]; simp [go_sem]
      have x11 : wq.cell? ⟨wr.heap.size, 11, none⟩ = some (.bool x.b) := by rw [← hwq]; simp [go_sem]
      rw [hwq]
      clear hwq c0 c1 c2 c3 c4 c5 c6 c7 c8 c9 c10 c11
      have hbq := hbr.trans (hbq0.mono hsr)
      have HRow := Lib.hid (owns_belowI HRow.out hbq0)
      have HCq := Lib.hid (HCk.out wq hbq)
      clear HCk hbq0
      by_cases h0 : CD = 0
      · have d0 : (CD != 0) = false := by rw [h0]; rfl
        have HE : Hid (MM (k + 1) = S) := Lib.hid (by rw [HN.out, if_pos h0])
        clear HN h0
        go_wp2_with (go_at_call 44; refine HCq.out.mono ?_; rintro e w3 ⟨rfl, hb3⟩)
        go_roundw
        case rel => exact ⟨k + 1, by omega, by go_num, ⟨av, cv, by rw [HE.out]⟩, Lib.hid (by rw [HE.out]; exact owns_belowI HRow.out hb3), hbq.trans (hb3.mono hbq.size)⟩
        case measure => simp [intOf]; omega
      · have d0 : (CD != 0) = true := by simp [h0]
        have HE : Hid (S.length + 1 = (MM (k + 1)).length ∧ cl2 S ++ [.int .i64 x.s.n, .int .i64 CD] = cl2 (MM (k + 1))) := Lib.hid (by rw [HN.out, if_neg h0, cl2_app]; exact ⟨by simp, rfl⟩)
        clear HN h0
        have hzx := block_lt x0
        go_wp2_with (first | (go_at_call 44; refine HCq.out.mono ?_; rintro e w3 ⟨rfl, hb3⟩; have x0 := cell_below x0 hb3; have hOW0 := Lib.hid ((owns_belowI HRow.out hb3).alloc (.cells #[.int .i64 x.s.n, .int .i64 CD] 96)); have hb3w := hbq.trans (hb3.mono hbq.size); have hs3 := hb3w.size) | (at_builtin; go_loud (refine wpList_append_lies _ rfl _ _ 51 rfl w.heap.size 96 n0 _ 2 16 Tryz.underlying51 hi hz0 hz1 hz2 rfl (by decide) (.slice av S.length cv) S.length _ (by rfl) hOW0.out ⟨w3.heap.size, 0, none⟩ 1 1 [.int .i64 x.s.n, .int .i64 CD] (by rfl) (by rfl) ?d1 ?d2 (by decide) ?d3 ?d4 ?d5 _ rfl ?_)))
        case d1 =>
          refine World.news_of_block (cs := #[.int .i64 x.s.n, .int .i64 CD]) (t := 96) (fr := (0, 0)) ?_
          exact heap_alloc_new _ _
        case d2 => simp [Value.oneCell']
        case d3 => unfold maxLen; omega
        case d4 => omega
        case d5 => first | (simp; omega) | simp | omega
        intro g6 c6 w6 hown6 hgrow6 hat6 hlt6
        have hb6 : Below w.heap.size w w6 := (hb3w.alloc hs3 _).grown hgrow6 (by first | (simp; omega) | simp | omega) (fun z hz => owns_blockI hOW0.out hz)
        have HRow6 := Lib.hid hown6
        clear hown6 hOW0 hgrow6 hat6 hlt6
        go_wp2_with fail
        go_roundw
        case rel => exact ⟨k + 1, by omega, by go_num, ⟨_, c6, by rw [← HE.out.1]⟩, Lib.hid (by rw [← HE.out.1, ← HE.out.2]; exact HRow6.out), hb6⟩
        case measure => simp [intOf]; omega
    · obtain rfl : k = row.length := by omega
      have HEnd : Hid (FltE (MM row.length) w (.returned (.slice av (MM row.length).length cv)) wr) := Lib.hid ⟨av, cv, rfl, HRow.out, hbr⟩
      clear HRow HPC HPA HD HCd HStep HLen HM0
      go_wp2_with fail
      go_ret
      exact HEnd.out
theorem fnum_r (p : Flt) (w : World) : Calls Tryz.prog 47 #[.agg #[.int .i64 p.1, .int .i64 p.2]] w fun e w' => e = .returned (.int .i64 p.1) ∧ w' = w.alloc (.cells #[.int .i64 p.1, .int .i64 p.2] 96) := by
  go_enter Tryz.func47, Tryz.ntmps47
  go_wp2_with fail
  go_ret
  exact ⟨rfl, rfl⟩
set_option maxRecDepth 100000 in
set_option maxHeartbeats 4000000 in
theorem byF_r (p q : Flt) (B Fb : Nat) (w : World) (cB : w.cell? ⟨B, 0, none⟩ = some (.slice (some ⟨Fb, 0, none⟩) 1 1)) (f0 : w.cell? ⟨Fb, 0, none⟩ = some (.func (.func 47) #[] #[])) :
    Calls Tryz.prog 79 #[.agg #[.int .i64 p.1, .int .i64 p.2], .agg #[.int .i64 q.1, .int .i64 q.2], .pointer (some ⟨B, 0, none⟩)] w fun e w' => e = .returned (.int .i64 (Lib.compareInt p.1 q.1)) ∧ GrownW w w' := by
  have HC0 := Lib.hid (fun W => compare_r p.1 q.1 W)
  generalize hr : Lib.compareInt p.1 q.1 = r0 at *
  have HRc := Lib.hid hr
  clear hr
  have kk : ∀ (o : Nat) (v : Value) (b : Nat), w.cell? ⟨b, o, none⟩ = some v → ∀ c t c' t', ((w.alloc (.cells c t)).alloc (.cells c' t')).cell? ⟨b, o, none⟩ = some v := fun o v b h c t c' t' => cell_below h (((GrownW.refl w).alloc _).alloc _).below
  have kB := kk _ _ _ cB
  clear kk
  go_enter Tryz.func79, Tryz.ntmps79
  go_wp2_with fail
  obtain ⟨wB, hwB⟩ : ∃ wB, (w.alloc (.cells #[.int .i64 p.1, .int .i64 p.2] 96)).alloc (.cells #[.int .i64 q.1, .int .i64 q.2] 96) = wB := ⟨_, rfl⟩
  have hG : GrownW w wB := by rw [← hwB]; exact ((GrownW.refl w).alloc _).alloc _
  have hzB : w.heap.size + 1 < wB.heap.size := by rw [← hwB]; simp
  have cB := cell_below cB hG.below
  have f0 := cell_below f0 hG.below
  have s0 : wB.cell? ⟨w.heap.size, 0, none⟩ = some (.int .i64 p.1) := by rw [← hwB]; simp [go_sem]
  have s1 : wB.cell? ⟨w.heap.size, 1, none⟩ = some (.int .i64 p.2) := by rw [← hwB]; simp [go_sem]
  have s2 : wB.cell? ⟨w.heap.size + 1, 0, none⟩ = some (.int .i64 q.1) := by rw [← hwB]; simp [go_sem]
  have s3 : wB.cell? ⟨w.heap.size + 1, 1, none⟩ = some (.int .i64 q.2) := by rw [← hwB]; simp [go_sem]
  rw [hwB]
  clear hwB kB
  go_loopw [11] (fun i wr => ∃ k : Nat, k ≤ 1 ∧ i = .int .i64 k ∧ GrownW wB wr ∧ Hid (0 < k → r0 = 0)) (fun i _ => 1 - (intOf i).toNat)
  case atStart => exact ⟨0, by omega, rfl, GrownW.refl _, Lib.hid fun h => absurd h (by omega)⟩
  case round =>
    obtain ⟨k, hk, rfl, hGr, HA⟩ := hrel
    have hGb := hGr.below
    have hGw := hG.trans hGr
    have f0 := cell_below f0 hGb
    have hzr := Nat.lt_of_lt_of_le hzB hGb.size
    have s0 := cell_below s0 hGb
    have s1 := cell_below s1 hGb
    have s2 := cell_below s2 hGb
    have s3 := cell_below s3 hGb
    rcases (by omega : k = 0 ∨ k = 1) with rfl | rfl
    · go_wp2_with fail
      have hz1 : w.heap.size + 1 < wr.heap.size := hzr
      clear f0 cB hzB hGb
      go_region_held3 (fun w' => w'.cell? ⟨w.heap.size, 0, none⟩ = some (.int .i64 p.1) ∧ w'.cell? ⟨w.heap.size, 1, none⟩ = some (.int .i64 p.2) ∧ w'.cell? ⟨w.heap.size + 1, 0, none⟩ = some (.int .i64 q.1) ∧ w'.cell? ⟨w.heap.size + 1, 1, none⟩ = some (.int .i64 q.2)) (go_keep)
        (first
          | (go_at_call 47
             first | (with_reducible refine Calls.mono (fnum_r p _) ?_) | (with_reducible refine Calls.mono (fnum_r q _) ?_)
             rintro e w9 ⟨rfl, h9⟩
             have hG9 := GrownW.of_eq h9
             clear h9
             have hb9 := hG9.below
             have hz0 : w.heap.size < wr.heap.size := by omega
             have hzA := Nat.lt_of_lt_of_le hz1 hb9.size
             have s0 := (hb9.cell (p := ⟨w.heap.size, 0, none⟩) (Nat.lt_of_succ_lt hz1)).trans s0
             have s1 := (hb9.cell (p := ⟨w.heap.size, 1, none⟩) (Nat.lt_of_succ_lt hz1)).trans s1
             have s2 := (hb9.cell (p := ⟨w.heap.size + 1, 0, none⟩) hz1).trans s2
             have s3 := (hb9.cell (p := ⟨w.heap.size + 1, 1, none⟩) hz1).trans s3
             have hGr : GrownW wB w9 := by first | exact hGr.trans hG9 | exact hGr.drew.trans hG9
             have hz1 := hzA)
          | (go_at_call 80
             refine (HC0.out _).mono ?_
             rintro e w9 ⟨rfl, rfl⟩))
      all_goals
        by_cases h0 : r0 = 0
        · have HA2 : Hid (0 < 0 + 1 → r0 = 0) := Lib.hid fun _ => h0
          have b0 : (r0 == 0) = true := by rw [h0]; rfl
          clear HA h0
          go_wp2_with fail
          go_roundw
          case rel => exact ⟨0 + 1, by omega, by go_num, by first | exact hGr | exact hGr.drew, HA2⟩
          case measure => simp [intOf]
        · have b0 : (r0 == 0) = false := beq_false_of_ne h0
          clear HA
          go_wp2_with fail
          go_ret
          exact ⟨rfl, by first | exact hG.trans hGr | exact hG.trans hGr.drew⟩
    · have HR : Hid (r0 = 0) := Lib.hid (HA.out (by omega))
      clear HA
      go_wp2_with fail
      go_ret
      exact ⟨by rw [HR.out]; rfl, hGw⟩
theorem holdsF {w : World} {base g c : Nat} {l : List Flt} (h : w.ownsRow base 96 2 (.slice (some ⟨g, 0, none⟩) l.length c) l.length (cl2 l)) : Sort.HoldsK enc2 2 w g 0 l.toArray := by
  intro j hj
  rw [Sort.size_flatK] at hj
  have hj2 : j < l.length * 2 := by simpa using hj
  rw [Sort.get_flatK _ _ _ _ hj, Nat.zero_add, World.ownsRow.cellAt h j (by omega), cl2_get l j hj2]
  refine ⟨?_, World.ownsRow.frozenAt h j⟩
  have hd : j / 2 < l.length := by omega
  have e : l.toArray[j / 2]! = l[j / 2]! := by rw [getElem!_pos _ (j / 2) (by simpa using hd), getElem!_pos _ (j / 2) hd]; simp
  rw [e]; rfl
theorem ltF (x y : Flt) : ltOf (fun x y : Flt => Lib.compareInt x.1 y.1) x y = decide (Lib.compareInt x.1 y.1 < 0) := rfl
theorem swoF : Sort.SWO (ltOf fun x y : Flt => Lib.compareInt x.1 y.1) where
  irrefl x := by rw [ltF, decide_eq_false_iff_not, cmp_lt]; omega
  trans x y z h1 h2 := by rw [ltF, decide_eq_true_eq, cmp_lt] at *; omega
  ntrans x y z h1 h2 := by rw [ltF, decide_eq_false_iff_not, cmp_lt] at *; omega
/-- The faults, by their numbers. -/
def SrtF (base : Nat) (av : Option Addr) (R : List Flt) (w : World) (e : Ending) (w' : World) : Prop :=
  e = .returned (.tuple #[]) ∧ ∃ S : List Flt, S.Perm R ∧ (∀ i j, i < j → j < S.length → (gp S i).1 ≤ (gp S j).1) ∧ (∃ g, (S ≠ [] → av = some ⟨g, 0, none⟩) ∧ ∀ i, i < S.length → w'.cell? ⟨g, i * 2, none⟩ = some (.int .i64 (gp S i).1) ∧ w'.cell? ⟨g, i * 2 + 1, none⟩ = some (.int .i64 (gp S i).2)) ∧ Below base w w'
theorem cells_holdsF {w : World} {g : Nat} {d : Array Flt} (h : Sort.HoldsK enc2 2 w g 0 d) : ∀ i, i < d.toList.length → w.cell? ⟨g, i * 2, none⟩ = some (.int .i64 (gp d.toList i).1) ∧ w.cell? ⟨g, i * 2 + 1, none⟩ = some (.int .i64 (gp d.toList i).2) := fun i hi => by
  have hi2 : i < d.size := by simpa using hi
  have e : gp d.toList i = d[i]! := by unfold gp; rw [getElem!_pos d i hi2]; simp [hi2]
  have k := fun (o : Nat) (ho : o < 2) => (h (i * 2 + o) (by rw [Sort.size_flatK]; omega)).1
  have g := fun (o : Nat) (ho : o < 2) => Sort.get_flatK enc2 2 d (i * 2 + o) (by omega)
  have h0 := k 0 (by omega)
  have h1 := k 1 (by omega)
  rw [g 0 (by omega), Nat.zero_add, show (i * 2 + 0) / 2 = i by omega, show (i * 2 + 0) % 2 = 0 by omega] at h0
  rw [g 1 (by omega), Nat.zero_add, show (i * 2 + 1) / 2 = i by omega, show (i * 2 + 1) % 2 = 1 by omega] at h1
  rw [e]
  exact ⟨h0, h1⟩
theorem sortF_r (base B Fb cv : Nat) (av : Option Addr) (R : List Flt) (w : World) (h : w.ownsRow base 96 2 (.slice av R.length cv) R.length (cl2 R)) (hn : R.length ≤ 100000000) (cB : w.cell? ⟨B, 0, none⟩ = some (.slice (some ⟨Fb, 0, none⟩) 1 1)) (f0 : w.cell? ⟨Fb, 0, none⟩ = some (.func (.func 47) #[] #[])) (hB : ∀ g, av = some ⟨g, 0, none⟩ → B ≠ g ∧ Fb ≠ g) :
    Calls Tryz.prog 45 #[.slice av R.length cv, .func (.func 79) #[] #[.pointer (some ⟨B, 0, none⟩)]] w (SrtF base av R w) := by
  rcases h.2 with ⟨h1, h2⟩ | ⟨g, cap, cur, h1, hg, hg2, _⟩
  · have ha : av = none := by simpa using (Value.slice.inj h1).1
    have hR : R = [] := List.eq_nil_of_length_eq_zero h2
    subst ha; subst hR
    have := AnyF.slices_SortFunc_none Tryz.laysSortF none cv (.func (.func 79) #[] #[.pointer (some ⟨B, 0, none⟩)]) w
    change Calls Tryz.prog 45 _ _ _ at this
    refine this.mono ?_
    rintro e w' ⟨he, hw⟩
    exact ⟨he, [], List.Perm.refl _, (fun i j _ hj => absurd hj (Nat.not_lt_zero _)), ⟨0, fun h => (h rfl).elim, fun i hi => absurd hi (Nat.not_lt_zero i)⟩, (by rw [hw]; exact Below.refl _ _)⟩
  · obtain ⟨rfl, rfl⟩ : av = some ⟨g, 0, none⟩ ∧ cv = cap := by simpa using h1
    obtain ⟨b1, b2⟩ := hB g rfl
    have hg3 : g < w.heap.size := (Array.getElem?_eq_some_iff.1 hg2).1
    have eg : ∀ args w, (callFunc 79 args).run Tryz.prog w = .ok (.enter 79 args) w := enters_of Tryz.func79 (by kernel_rfl) rfl
    have hcmp : CmpLays Tryz.prog 79 #[.pointer (some ⟨B, 0, none⟩)] enc2 2 (fun x y : Flt => Lib.compareInt x.1 y.1) g 0 R.toArray.size w := fun m os dk _ x y => by
      have k := fun (b o : Nat) (v : Value) (hb : b ≠ g) (hv : w.cell? ⟨b, o, none⟩ = some v) => (cell?_sortWorldK_other enc2 2 w g 0 m dk os ⟨b, o, none⟩ hb (block_lt hv)).trans hv
      exact byF_r x y B Fb _ (k B 0 _ b1 cB) (k Fb 0 _ b2 f0)
    have hcon := AnyQ.slices_SortFunc Tryz.laysSortF 2 Tryz.isAgg96 Tryz.sizeOf96 enc2 enc2_len enc2_one (fun x y : Flt => Lib.compareInt x.1 y.1) swoF 79 #[.pointer (some ⟨B, 0, none⟩)] g 0 cv R.toArray w eg hcmp (holdsF h) hg3 (by simp; omega)
    change Calls Tryz.prog 45 _ _ _ at hcon
    rw [show R.toArray.size = R.length by simp] at hcon
    refine hcon.mono ?_
    rintro e w' ⟨he, d', n, os, ⟨hs, -, hp⟩, hso, rfl⟩
    have hs2 : d'.size = R.length := by simpa using hs
    refine ⟨he, d'.toList, ?_, ?_, ⟨g, fun _ => rfl, cells_holdsF (holdsK_sortWorldK enc2 2 w g 0 n R.toArray d' os hg3 (holdsF h) hs)⟩, ?_⟩
    · have e1 : (d'.extract 0 R.length).toList = d'.toList := by rw [← hs2]; simp
      have e2 : (R.toArray.extract 0 R.length).toList = R := by simp
      rw [e1, e2] at hp
      exact hp
    · intro i j hij hj
      have hj2 : j < d'.size := by simpa using hj
      have := hso i j (Nat.zero_le _) hij (by omega)
      rw [ltF, decide_eq_false_iff_not, cmp_lt] at this
      have e1 : gp d'.toList i = d'[i]! := by unfold gp; rw [getElem!_pos d' i (by omega)]; simp [show i < d'.size by omega]
      have e2 : gp d'.toList j = d'[j]! := by unfold gp; rw [getElem!_pos d' j hj2]; simp [hj2]
      rw [e1, e2]
      omega
    · have b1 : Below base w (Sort.putRowK enc2 2 (Sort.ahead w n) g 0 d') := Lib.below_putRow (Below.refl _ _) hg
      exact b1.trans (by
        have := Lib.below_grow base (Sort.putRowK enc2 2 (Sort.ahead w n) g 0 d') (by have := b1.size; omega) 0 os
        exact this)
theorem by0F_r (Fb : Nat) (w : World) : Calls Tryz.prog 46 #[.slice (some ⟨Fb, 0, none⟩) 1 1] w fun e w' => ∃ B, e = .returned (.func (.func 79) #[] #[.pointer (some ⟨B, 0, none⟩)]) ∧ w.heap.size ≤ B ∧ w'.cell? ⟨B, 0, none⟩ = some (.slice (some ⟨Fb, 0, none⟩) 1 1) ∧ Below w.heap.size w w' := by
  go_enter Tryz.func46, Tryz.ntmps46
  go_wp2_with fail
  go_ret
  exact ⟨w.heap.size, rfl, Nat.le_refl _, by simp [go_sem], (Below.refl _ _).alloc (Nat.le_refl _) _⟩
end Go.Proofs.YtjoffnbpaebgjaaGreat

namespace Go.Proofs.YtjoffnbpaebgjaaGreat
set_option linter.unusedVariables false
set_option linter.unusedSimpArgs false
open Go.RowKit

theorem cmp_spec (d : Array Int) (hs : ∀ i j, i ≤ j → j < d.size → d[i]! ≤ d[j]!) : ∀ m, m ≤ d.size → (Lib.compactUpTo d m).Pairwise (· < ·) ∧ ∀ x, x ∈ Lib.compactUpTo d m ↔ ∃ j, j < m ∧ d[j]! = x
  | 0, _ => ⟨by simp [Lib.compactUpTo], fun x => by simp [Lib.compactUpTo]⟩
  | m + 1, hm => by
    obtain ⟨h1, h2⟩ := cmp_spec d hs m (by omega)
    rw [Lib.compactUpTo_succ]
    by_cases hk : Lib.keeps d m = true
    · rw [if_pos hk]
      refine ⟨List.pairwise_append.2 ⟨h1, by simp, fun x hx y hy => ?_⟩, fun x => ?_⟩
      · obtain ⟨j, hj, e⟩ := (h2 x).1 hx
        rw [List.mem_singleton.1 hy, ← e]
        by_cases h0 : m = 0
        · omega
        · have h3 := hs j (m - 1) (by omega) (by omega)
          have h4 := hs (m - 1) m (by omega) (by omega)
          have h5 : d[m]! ≠ d[m - 1]! := by
            intro e2
            unfold Lib.keeps at hk
            simp [h0, e2] at hk
          omega
      · rw [List.mem_append, h2, List.mem_singleton]
        constructor
        · rintro (⟨j, hj, e⟩ | e)
          · exact ⟨j, by omega, e⟩
          · exact ⟨m, by omega, e.symm⟩
        · rintro ⟨j, hj, e⟩
          by_cases hjm : j = m
          · right; rw [← e, hjm]
          · left; exact ⟨j, by omega, e⟩
    · rw [if_neg hk, List.append_nil]
      refine ⟨h1, fun x => ?_⟩
      rw [h2]
      have h0 : m ≠ 0 := by rintro rfl; exact hk (by simp [Lib.keeps])
      have h5 : d[m]! = d[m - 1]! := by
        by_cases e : d[m]! = d[m - 1]!
        · exact e
        · exact absurd (by unfold Lib.keeps; simp [h0, e]) hk
      constructor
      · rintro ⟨j, hj, e⟩; exact ⟨j, by omega, e⟩
      · rintro ⟨j, hj, e⟩
        by_cases hjm : j = m
        · exact ⟨m - 1, by omega, by rw [← e, hjm, h5]⟩
        · exact ⟨j, by omega, e⟩
theorem srt_pw (zs : List Int) : (srt zs).Pairwise (· ≤ ·) := by
  have := List.pairwise_mergeSort (le := fun x y : Int => decide (x ≤ y)) (fun a b c h1 h2 => by simp only [decide_eq_true_eq] at *; omega) (fun a b => by simp only [Bool.or_eq_true, decide_eq_true_eq]; omega) zs
  exact this.imp (fun h => by simpa using h)
theorem cmp_sorted {zs : List Int} (h : zs.Pairwise (· ≤ ·)) : (Lib.compact zs).Pairwise (· < ·) ∧ ∀ x, x ∈ Lib.compact zs ↔ x ∈ zs := by
  have hs : ∀ i j, i ≤ j → j < zs.toArray.size → zs.toArray[i]! ≤ zs.toArray[j]! := fun i j hij hj => by
    have hj' : j < zs.length := by simpa using hj
    rw [List.getElem!_toArray, List.getElem!_toArray, getElem!_pos zs i (by omega), getElem!_pos zs j hj']
    by_cases e : i = j
    · subst e; exact Int.le_refl _
    · exact (List.pairwise_iff_getElem.1 h) i j (by omega) hj' (by omega)
  obtain ⟨h1, h2⟩ := cmp_spec zs.toArray hs zs.length (by simp)
  refine ⟨h1, fun x => ?_⟩
  show x ∈ Lib.compactUpTo _ _ ↔ _
  rw [h2]
  constructor
  · rintro ⟨j, hj, e⟩
    rw [List.getElem!_toArray, getElem!_pos zs j hj] at e
    rw [← e]; exact List.getElem_mem hj
  · intro hx
    obtain ⟨j, hj, e⟩ := List.getElem_of_mem hx
    exact ⟨j, hj, by rw [List.getElem!_toArray, getElem!_pos zs j hj]; exact e⟩
theorem asc_pw (cuts : List Int) : (ascL cuts).Pairwise (· < ·) := (cmp_sorted (srt_pw cuts)).1
theorem asc_iff (cuts : List Int) (x : Int) : x ∈ ascL cuts ↔ x ∈ cuts := ((cmp_sorted (srt_pw cuts)).2 x).trans (srt_perm cuts).mem_iff

section
variable {V : Type} [DecidableEq V] [Inhabited V]
def gtV (l : List (Int × Int × V)) (i : Nat) : Int × Int × V := l.getD i (0, 0, default)
def prt1V (acc : List (Int × Int × V)) (x y : Int) (v : V) : List (Int × Int × V) := if 0 < acc.length ∧ (gtV acc (acc.length - 1)).2.2 = v then acc.set (acc.length - 1) ((gtV acc (acc.length - 1)).1, y, v) else acc ++ [(x, y, v)]
def prtV (z : List Int) (f : Int → V) : Nat → List (Int × Int × V)
  | 0 => []
  | k + 1 => if k = 0 then [] else prt1V (prtV z f k) (gi z (k - 1)) (gi z k) (f (gi z (k - 1)))
/-- One metre more, where some values are of no account. -/
def st1V (sk : V → Bool) (acc : List (Int × Int × V)) (m : Int) (v : V) : List (Int × Int × V) :=
  if sk v = true then acc else if 0 < acc.length ∧ (gtV acc (acc.length - 1)).2.1 = m ∧ (gtV acc (acc.length - 1)).2.2 = v then acc.set (acc.length - 1) ((gtV acc (acc.length - 1)).1, m + 1, v) else acc ++ [(m, m + 1, v)]
def strV (sk : V → Bool) (f : Int → V) : Nat → List (Int × Int × V)
  | 0 => []
  | n + 1 => st1V sk (strV sk f n) n (f n)
omit [DecidableEq V] in
theorem gtV_snoc (pre : List (Int × Int × V)) (q : Int × Int × V) : gtV (pre ++ [q]) ((pre ++ [q]).length - 1) = q := by
  unfold gtV; simp
theorem set_snoc {α : Type} (pre : List α) (q r : α) : (pre ++ [q]).set ((pre ++ [q]).length - 1) r = pre ++ [r] := by
  rw [List.length_append, List.length_singleton, Nat.add_sub_cancel, List.set_append_right _ _ (Nat.le_refl _)]
  simp
theorem prt1V_snoc (pre : List (Int × Int × V)) (x y0 a b : Int) (u v : V) : prt1V (pre ++ [(x, y0, u)]) a b v = if u = v then pre ++ [(x, b, v)] else pre ++ [(x, y0, u)] ++ [(a, b, v)] := by
  unfold prt1V
  rw [gtV_snoc, set_snoc]
  by_cases h : u = v
  · rw [if_pos ⟨by simp, h⟩, if_pos h]
  · rw [if_neg (fun hh => h hh.2), if_neg h]
theorem strV_skip {sk : V → Bool} {f : Int → V} {v : V} (hv : sk v = true) (a : Nat) : ∀ n, (∀ i : Nat, a ≤ i → i < a + n → f i = v) → strV sk f (a + n) = strV sk f a
  | 0, _ => rfl
  | n + 1, h => by
    rw [← Nat.add_assoc, strV, h (a + n) (by omega) (by omega)]
    unfold st1V
    rw [if_pos hv]
    exact strV_skip hv a n (fun i h1 h2 => h i h1 (by omega))
theorem strV_more {sk : V → Bool} {f : Int → V} {v : V} (hv : sk v = false) (a : Nat) (pre : List (Int × Int × V)) (x : Int) (hS : strV sk f a = pre ++ [(x, (a : Int), v)]) : ∀ n, (∀ i : Nat, a ≤ i → i < a + n → f i = v) → strV sk f (a + n) = pre ++ [(x, ((a + n : Nat) : Int), v)]
  | 0, _ => hS
  | n + 1, h => by
    have ih := strV_more hv a pre x hS n (fun i h1 h2 => h i h1 (by omega))
    rw [← Nat.add_assoc, strV, h (a + n) (by omega) (by omega), ih]
    unfold st1V
    rw [if_neg (by rw [hv]; simp), gtV_snoc, set_snoc, if_pos ⟨by simp, rfl, rfl⟩]
    simp
theorem strV_new {sk : V → Bool} {f : Int → V} {v : V} (hv : sk v = false) (a : Nat) (hS : ¬ (0 < (strV sk f a).length ∧ (gtV (strV sk f a) ((strV sk f a).length - 1)).2.1 = a ∧ (gtV (strV sk f a) ((strV sk f a).length - 1)).2.2 = v)) (n : Nat) (h : ∀ i : Nat, a ≤ i → i < a + (n + 1) → f i = v) : strV sk f (a + (n + 1)) = strV sk f a ++ [((a : Int), ((a + (n + 1) : Nat) : Int), v)] := by
  have h1 : strV sk f (a + 1) = strV sk f a ++ [((a : Int), ((a + 1 : Nat) : Int), v)] := by
    rw [strV, h a (Nat.le_refl _) (by omega)]
    unfold st1V
    rw [if_neg (by rw [hv]; simp), if_neg hS]
    simp
  have h2 := strV_more hv (a + 1) (strV sk f a) (a : Int) h1 n (fun i h1 h2 => h i (by omega) (by omega))
  rw [show a + 1 + n = a + (n + 1) by omega] at h2
  exact h2
def fltV (sk : V → Bool) (acc : List (Int × Int × V)) : List (Int × Int × V) := acc.filter fun p => !(sk p.2.2)
omit [DecidableEq V] [Inhabited V] in
theorem fltV_snoc (sk : V → Bool) (pre : List (Int × Int × V)) (q : Int × Int × V) : fltV sk (pre ++ [q]) = fltV sk pre ++ if sk q.2.2 = true then [] else [q] := by
  unfold fltV
  rw [List.filter_append]
  cases h : sk q.2.2 <;> simp [List.filter_cons, h]
/-- What the two ways agree on, up to a cut. -/
def InvV (sk : V → Bool) (f : Int → V) (acc : List (Int × Int × V)) (a : Nat) : Prop :=
  strV sk f a = fltV sk acc ∧ ((acc = [] ∧ a = 0) ∨ ∃ pre x u, acc = pre ++ [(x, (a : Int), u)] ∧ x < (a : Int) ∧ ∀ p, p ∈ pre → p.2.1 ≤ x)
theorem invV_step {sk : V → Bool} {f : Int → V} {acc : List (Int × Int × V)} {a b : Nat} (hab : a < b) (hc : ∀ i : Nat, a ≤ i → i < b → f i = f a) (h : InvV sk f acc a) : InvV sk f (prt1V acc a b (f a)) b := by
  obtain ⟨n, rfl⟩ : ∃ n, b = a + (n + 1) := ⟨b - a - 1, by omega⟩
  generalize f a = v at *
  obtain ⟨h1, h2⟩ := h
  rcases h2 with ⟨rfl, rfl⟩ | ⟨pre, x, u, rfl, hx, hp⟩
  · have e : prt1V ([] : List (Int × Int × V)) ((0 : Nat) : Int) ((0 + (n + 1) : Nat) : Int) v = [] ++ [(((0 : Nat) : Int), ((0 + (n + 1) : Nat) : Int), v)] := by unfold prt1V; simp
    rw [e]
    refine ⟨?_, .inr ⟨[], _, v, rfl, by omega, fun p hp => by cases hp⟩⟩
    rw [fltV_snoc]
    cases hv : sk v with
    | true => rw [strV_skip hv 0 (n + 1) hc, if_pos rfl]; rfl
    | false => rw [strV_new hv 0 (fun hh => absurd hh.1 (by simp [strV])) n hc, if_neg (by simp)]; rfl
  · rw [prt1V_snoc]
    rw [fltV_snoc] at h1
    by_cases huv : u = v
    · subst huv
      rw [if_pos rfl]
      refine ⟨?_, .inr ⟨pre, x, u, rfl, by omega, hp⟩⟩
      rw [fltV_snoc]
      cases hv : sk u with
      | true =>
        rw [if_pos hv] at h1
        rw [strV_skip hv a (n + 1) hc, h1, if_pos rfl]
      | false =>
        rw [if_neg (by rw [hv]; simp)] at h1
        rw [strV_more hv a _ x h1 (n + 1) hc, if_neg (by simp)]
    · rw [if_neg huv]
      refine ⟨?_, .inr ⟨pre ++ [(x, (a : Int), u)], a, v, rfl, by omega, fun p hpm => ?_⟩⟩
      · rw [fltV_snoc, fltV_snoc, ← h1]
        cases hv : sk v with
        | true => rw [strV_skip hv a (n + 1) hc, if_pos rfl, List.append_nil]
        | false =>
          rw [strV_new hv a ?_ n hc, if_neg (by simp)]
          rw [h1]
          rintro ⟨g1, g2, g3⟩
          cases hu : sk u with
          | false =>
            rw [hu, if_neg (by simp), gtV_snoc] at g3
            exact huv g3
          | true =>
            rw [hu, if_pos rfl, List.append_nil] at g1 g2
            have hm : gtV (fltV sk pre) ((fltV sk pre).length - 1) ∈ fltV sk pre := by
              unfold gtV
              rw [List.getD_eq_getElem?_getD, List.getElem?_eq_getElem (by omega)]
              exact List.getElem_mem _
            have := hp _ (List.mem_filter.1 hm).1
            omega
      · rw [List.mem_append, List.mem_singleton] at hpm
        rcases hpm with hpm | rfl
        · have := hp p hpm; omega
        · exact Int.le_refl _
theorem parts_str {sk : V → Bool} {f : Int → V} {z : List Int} (hz : z.Pairwise (· < ·)) (h0 : 0 < z.length → gi z 0 = 0) (hc : ∀ k, k + 1 < z.length → ∀ i : Int, gi z k ≤ i → i < gi z (k + 1) → f i = f (gi z k)) : ∀ k, k < z.length → InvV sk f (prtV z f (k + 1)) (gi z k).toNat
  | 0, hk => by
    rw [h0 hk]
    refine ⟨?_, .inl ⟨by rw [prtV, if_pos rfl], rfl⟩⟩
    rw [prtV, if_pos rfl]; rfl
  | k + 1, hk => by
    have ih := parts_str (sk := sk) hz h0 hc k (by omega)
    have hlt : ∀ i j, i < j → j < z.length → gi z i < gi z j := fun i j hij hj => by
      unfold gi
      rw [List.getD_eq_getElem?_getD, List.getD_eq_getElem?_getD, List.getElem?_eq_getElem (by omega), List.getElem?_eq_getElem hj]
      exact (List.pairwise_iff_getElem.1 hz) i j (by omega) hj hij
    have hpos : 0 ≤ gi z k := by
      by_cases e : k = 0
      · subst e; rw [h0 (by omega)]; exact Int.le_refl _
      · have := hlt 0 k (by omega) (by omega); rw [h0 (by omega)] at this; omega
    have hlk := hlt k (k + 1) (by omega) hk
    have e1 : ((gi z k).toNat : Int) = gi z k := Int.toNat_of_nonneg hpos
    have e2 : ((gi z (k + 1)).toNat : Int) = gi z (k + 1) := Int.toNat_of_nonneg (by omega)
    have st := invV_step (b := (gi z (k + 1)).toNat) (by omega) (fun i h1 h2 => by
      rw [e1]; exact hc k hk i (by omega) (by omega)) ih
    rw [e1, e2] at st
    rw [prtV, if_neg (by omega)]
    exact st
/-- Parts between cuts, those of no account left out, are the stretches metre by metre. -/
theorem parts_all {sk : V → Bool} {f : Int → V} {z : List Int} {L : Int} (hz : z.Pairwise (· < ·)) (h0 : gi z 0 = 0) (hL : gi z (z.length - 1) = L) (hne : 0 < z.length) (hc : ∀ k, k + 1 < z.length → ∀ i : Int, gi z k ≤ i → i < gi z (k + 1) → f i = f (gi z k)) : fltV sk (prtV z f z.length) = strV sk f L.toNat := by
  have := (parts_str (sk := sk) hz (fun _ => h0) hc (z.length - 1) (by omega)).1
  rw [hL, show z.length - 1 + 1 = z.length by omega] at this
  exact this.symm
end
theorem prtK_V (z : List Int) (f : Int → Int) : ∀ k, prtK z f k = prtV z f k
  | 0 => rfl
  | k + 1 => by
    rw [prtK, prtV, prtK_V z f k]; rfl
end Go.Proofs.YtjoffnbpaebgjaaGreat

namespace Go.Proofs.YtjoffnbpaebgjaaGreat
set_option linter.unusedVariables false
set_option linter.unusedSimpArgs false
open Go.RowKit

theorem gi_mem {z : List Int} {k : Nat} (h : k < z.length) : gi z k ∈ z := by rw [gi_at z h]; exact List.getElem_mem h
theorem asc_lt (cuts : List Int) {i j : Nat} (hij : i < j) (hj : j < (ascL cuts).length) : gi (ascL cuts) i < gi (ascL cuts) j := by
  rw [gi_at _ (by omega), gi_at _ hj]
  exact (List.pairwise_iff_getElem.1 (asc_pw cuts)) i j (by omega) hj hij
theorem asc_ends {cuts : List Int} {A B : Int} (hA : A ∈ cuts) (hB : B ∈ cuts) (h : ∀ c, c ∈ cuts → A ≤ c ∧ c ≤ B) : gi (ascL cuts) 0 = A ∧ gi (ascL cuts) ((ascL cuts).length - 1) = B ∧ 0 < (ascL cuts).length := by
  have hp : 0 < (ascL cuts).length := asc_pos (by rintro rfl; cases hA)
  have hm : ∀ k, k < (ascL cuts).length → A ≤ gi (ascL cuts) k ∧ gi (ascL cuts) k ≤ B := fun k hk => h _ ((asc_iff cuts _).1 (gi_mem hk))
  obtain ⟨i, hi, ei⟩ := List.getElem_of_mem ((asc_iff cuts A).2 hA)
  obtain ⟨j, hj, ej⟩ := List.getElem_of_mem ((asc_iff cuts B).2 hB)
  rw [← gi_at _ hi] at ei
  rw [← gi_at _ hj] at ej
  refine ⟨?_, ?_, hp⟩
  · by_cases e : i = 0
    · rw [← ei, e]
    · have := asc_lt cuts (i := 0) (j := i) (by omega) hi
      have := (hm 0 hp).1
      omega
  · by_cases e : j = (ascL cuts).length - 1
    · rw [← ej, e]
    · have := asc_lt cuts (i := j) (j := (ascL cuts).length - 1) (by omega) (by omega)
      have := (hm ((ascL cuts).length - 1) (by omega)).2
      omega
/-- A function that hangs on how a place lies to the cuts alone. -/
theorem asc_const {V : Type} {cuts : List Int} {f : Int → V} (h : ∀ a m : Int, (∀ c, c ∈ cuts → (a < c ↔ m < c)) → f m = f a) (k : Nat) (hk : k + 1 < (ascL cuts).length) (i : Int) (h1 : gi (ascL cuts) k ≤ i) (h2 : i < gi (ascL cuts) (k + 1)) : f i = f (gi (ascL cuts) k) := by
  refine h _ _ fun c hc => ?_
  obtain ⟨j, hj, e⟩ := List.getElem_of_mem ((asc_iff cuts c).2 hc)
  rw [← gi_at _ hj] at e
  by_cases hjk : j ≤ k
  · have : gi (ascL cuts) j ≤ gi (ascL cuts) k := by
      by_cases e2 : j = k
      · rw [e2]; exact Int.le_refl _
      · exact Int.le_of_lt (asc_lt cuts (by omega) (by omega))
    omega
  · have : gi (ascL cuts) (k + 1) ≤ gi (ascL cuts) j := by
      by_cases e2 : j = k + 1
      · rw [e2]; exact Int.le_refl _
      · exact Int.le_of_lt (asc_lt cuts (by omega) hj)
    omega
theorem strV_congr {V : Type} [DecidableEq V] [Inhabited V] {sk : V → Bool} {f g : Int → V} : ∀ n : Nat, (∀ i : Nat, i < n → f i = g i) → strV sk f n = strV sk g n
  | 0, _ => rfl
  | n + 1, h => by rw [strV, strV, strV_congr n (fun i hi => h i (by omega)), h n (by omega)]
/-- The stretches of a function along a line. -/
def strS (L : Int) (f : Int → Int) : List Tri := strV (fun v : Int => v == 0) f L.toNat
theorem strS_congr {L : Int} {f g : Int → Int} (h : ∀ m : Int, 0 ≤ m → m < L → f m = g m) : strS L f = strS L g := strV_congr _ fun i hi => h i (by omega) (by omega)
theorem held_cuts {cuts : List Int} {L : Int} {f : Int → Int} (hL : 0 ≤ L) (hA : 0 ∈ cuts) (hB : L ∈ cuts) (hb : ∀ c, c ∈ cuts → 0 ≤ c ∧ c ≤ L) (h : ∀ a m : Int, (∀ c, c ∈ cuts → (a < c ↔ m < c)) → f m = f a) : heldL (prtK (ascL cuts) f (ascL cuts).length) = strS L f := by
  obtain ⟨e1, e2, e3⟩ := asc_ends hA hB hb
  have := parts_all (sk := fun v : Int => v == 0) (asc_pw cuts) e1 e2 e3 (fun k hk i h1 h2 => asc_const (f := f) h k hk i h1 h2)
  rw [← prtK_V] at this
  exact this
theorem line_jct {L : Int} {js : List Int} (h : lineB L js = true) : ∀ j, j < js.length → 0 < gi js j ∧ gi js j < L := by
  unfold lineB at h
  simp only [Bool.and_eq_true, decide_eq_true_eq, Bool.not_eq_true'] at h
  have hj : ∀ j, j < js.length → jOk L js j = true := fun j hj => by simpa using (anyK_iff _).1 h.2 j hj
  intro j hjl
  have h0 := jOk_pos (L := L) j (fun i hi => hj i (by omega))
  have h3 := hj j hjl
  unfold jOk at h3
  simp only [Bool.and_eq_true, decide_eq_true_eq] at h3
  omega
theorem lst_line {L : Int} {js : List Int} {l : List Sgn} {q : List Edc} (h : lstE L js l q = 0) : lineB L js = true ∧ 1 ≤ L ∧ L ≤ 100000 := by
  unfold lstE at h
  split at h
  · cases h
  next h1 =>
  have h1 : lineB L js = true := by simpa using h1
  have g := h1
  unfold lineB at g
  simp only [Bool.and_eq_true, decide_eq_true_eq] at g
  have := btw_ge g.1.1
  exact ⟨h1, this.1, this.2⟩
theorem dst_in {L dir c : Int} (hd : dirB dir = true) (h1 : 0 ≤ c) (h2 : c ≤ L) : 0 ≤ dstK L dir c ∧ dstK L dir c ≤ L := by
  unfold dstK; split <;> omega
theorem dst_dst {L dir c : Int} : dstK L dir (dstK L dir c) = c := by
  unfold dstK; split <;> omega
theorem opn_in {L : Int} {js : List Int} {dir d : Int} (hd : d ≤ L) (hJ : ∀ j, j < js.length → dstK L dir (gi js j) ≤ L) : ∀ n, n ≤ js.length → d ≤ opnK L js dir d n ∧ opnK L js dir d n ≤ L
  | 0, _ => ⟨hd, Int.le_refl _⟩
  | n + 1, hn => by
    have ih := opn_in hd hJ n (by omega)
    have hj := hJ n (by omega)
    rw [opnK]
    split
    · rw [Int.min_def]; split <;> omega
    · exact ih
/-- The signs of good lists. -/
theorem sgn_in {L : Int} {js : List Int} {l : List Sgn} (h : sgnsB L js l = true) (j : Nat) (hj : j < l.length) : sgnB L (gs l j) = true := by
  unfold sgnsB at h
  simp only [Bool.and_eq_true, decide_eq_true_eq] at h
  have hA := h.1.2
  unfold allB at hA
  simp only [Bool.not_eq_true'] at hA
  simpa using (anyK_iff _).1 hA j hj
theorem sgn_c {L : Int} {s : Sgn} (h : sgnB L s = true) : 0 ≤ s.c ∧ s.c ≤ L := by
  unfold sgnB at h
  simp only [Bool.and_eq_true, decide_eq_true_eq] at h
  have := btw_ge h.1.1.1.1.1.2
  omega
theorem row_in {L : Int} {js : List Int} {dir h : Int} {l : List Sgn} {q : List Edc} {row : List Pst} (hV : lstE L js l q = 0) (hd : dirB dir = true) (H : RowL L js dir h l row) (i : Nat) (hi : i < row.length) : (0 ≤ (gq row i).d ∧ (gq row i).d ≤ L) ∧ 0 ≤ (gq row i).u ∧ (gq row i).u ≤ L := by
  obtain ⟨hl, hL1, hL2⟩ := lst_line hV
  have hsb := lst_sgns hV
  have hval := (lst_good hV).2.2.1
  obtain ⟨e1, ⟨j, hj, e2, -⟩, e3, -⟩ := row_elem H i hi
  have hc := sgn_c (sgn_in hsb j hj)
  rw [← e2] at hc
  have h1 := dst_in hd hc.1 hc.2
  have h2 := opn_in (dir := dir) h1.2 (fun j hj => by
    have := line_jct hl j hj
    exact (dst_in hd (by omega) (by omega)).2) js.length (Nat.le_refl _)
  rw [e1, e3]
  refine ⟨h1, ?_⟩
  split
  next hp =>
    obtain ⟨-, ⟨j2, hj2, e4, -⟩, -, -⟩ := row_elem H (i + 1) hp.1
    have := (hval j2 hj2).2
    rw [← e4] at this
    rw [Int.min_def]
    split <;> omega
  · omega
theorem cutsK_mem {L dir : Int} {row : List Pst} : ∀ n, n ≤ row.length → ∀ c, c ∈ cutsK L dir row n ↔ c = 0 ∨ c = L ∨ ∃ i, i < n ∧ (c = dstK L dir (gq row i).d ∨ c = dstK L dir (gq row i).u)
  | 0, _, c => by simp [cutsK]
  | n + 1, hn, c => by
    rw [cutsK, List.mem_append, cutsK_mem n (by omega) c]
    simp only [List.mem_cons, List.not_mem_nil, or_false]
    constructor
    · rintro ((h | h | ⟨i, hi, h⟩) | h)
      · exact .inl h
      · exact .inr (.inl h)
      · exact .inr (.inr ⟨i, by omega, h⟩)
      · exact .inr (.inr ⟨n, by omega, h⟩)
    · rintro (h | h | ⟨i, hi, h⟩)
      · exact .inl (.inl h)
      · exact .inl (.inr (.inl h))
      · by_cases e : i = n
        · rw [e] at h; exact .inr h
        · exact .inl (.inr (.inr ⟨i, by omega, h⟩))
theorem hld_same {t k k' : Int} : ∀ (row : List Pst), (∀ p, p ∈ row → (k < p.d ↔ k' < p.d) ∧ (p.u ≤ k ↔ p.u ≤ k')) → ∀ v, hldL t k row v = hldL t k' row v
  | [], _, v => rfl
  | p :: r, h, v => by
    obtain ⟨h1, h2⟩ := h p (by simp)
    rw [hldL, hldL]
    have e : stpK p t k v = stpK p t k' v := by
      unfold stpK
      rw [ifc h2]
    rw [ifc h1, e, hld_same r (fun x hx => h x (by simp [hx]))]
theorem beg_lt {L dir m c : Int} (hd : dirB dir = true) : begK L dir m < c ↔ (if dir = 1 then m < dstK L dir c else ¬ m < dstK L dir c) := by
  unfold begK dstK
  by_cases h : dir = 1
  · rw [if_pos h, if_pos h, if_pos h]
  · rw [if_neg h, if_neg h, if_neg h]; omega
/-- What Held says of a row that the program makes: the stretches of what holds on each metre. -/
def heldS (L : Int) (js : List Int) (l : List Sgn) (h dir t : Int) : List Tri := strS L (fun m => hldV L js l h dir t m)
theorem told_const {L : Int} {js : List Int} {dir h t : Int} {l : List Sgn} {q : List Edc} {row : List Pst} (hV : lstE L js l q = 0) (hd : dirB dir = true) (H : RowL L js dir h l row) (a m : Int) (hc : ∀ c, c ∈ cutsK L dir row row.length → (a < c ↔ m < c)) : hldL t (begK L dir m) row 0 = hldL t (begK L dir a) row 0 := by
  refine hld_same row (fun p hp => ?_) 0
  obtain ⟨i, hi, e⟩ := List.getElem_of_mem hp
  have eg : gq row i = p := by unfold gq; simp [hi, e]
  have m1 := hc _ ((cutsK_mem row.length (Nat.le_refl _) _).2 (.inr (.inr ⟨i, hi, .inl rfl⟩)))
  have m2 := hc _ ((cutsK_mem row.length (Nat.le_refl _) _).2 (.inr (.inr ⟨i, hi, .inr rfl⟩)))
  rw [eg] at m1 m2
  have n1 := beg_lt (L := L) (m := m) (c := p.d) hd
  have n2 := beg_lt (L := L) (m := a) (c := p.d) hd
  have n3 := beg_lt (L := L) (m := m) (c := p.u) hd
  have n4 := beg_lt (L := L) (m := a) (c := p.u) hd
  constructor
  · rw [n1, n2]
    split
    · exact m1.symm
    · rw [m1]
  · have : (begK L dir m < p.u ↔ begK L dir a < p.u) := by
      rw [n3, n4]
      split
      · exact m2.symm
      · rw [m2]
    omega
theorem told_cuts {L : Int} {js : List Int} {dir h : Int} {l : List Sgn} {q : List Edc} {row : List Pst} (hV : lstE L js l q = 0) (hd : dirB dir = true) (H : RowL L js dir h l row) : 0 ∈ cutsK L dir row row.length ∧ L ∈ cutsK L dir row row.length ∧ ∀ c, c ∈ cutsK L dir row row.length → 0 ≤ c ∧ c ≤ L := by
  obtain ⟨hl, hL1, hL2⟩ := lst_line hV
  refine ⟨(cutsK_mem row.length (Nat.le_refl _) _).2 (.inl rfl), (cutsK_mem row.length (Nat.le_refl _) _).2 (.inr (.inl rfl)), fun c hc => ?_⟩
  rcases (cutsK_mem row.length (Nat.le_refl _) c).1 hc with rfl | rfl | ⟨i, hi, rfl | rfl⟩
  · omega
  · omega
  · have := row_in hV hd H i hi
    exact dst_in hd this.1.1 this.1.2
  · have := row_in hV hd H i hi
    exact dst_in hd this.2.1 this.2.2
theorem hldM_eq {L : Int} {js : List Int} {dir h t : Int} {l : List Sgn} {q : List Edc} {row : List Pst} (hV : lstE L js l q = 0) (hd : dirB dir = true) (ht : t ≠ 0) (H : RowL L js dir h l row) : hldM L dir t row = heldS L js l h dir t := by
  obtain ⟨hl, hL1, hL2⟩ := lst_line hV
  obtain ⟨c1, c2, c3⟩ := told_cuts hV hd H
  obtain ⟨hn1, hn2⟩ := sgn_nums (lst_sgns hV)
  unfold hldM heldS
  rw [held_cuts (L := L) (by omega) c1 c2 c3 (fun a m hc => told_const hV hd H a m hc)]
  exact strS_congr fun m h1 h2 => hld_ins hn2 ht (beg_bd (by omega) hL2 h1 h2).2 H
/-- The cuts of edicts. -/
def cutsW (L : Int) (q : List Edc) : Nat → List Int
  | 0 => [0, L]
  | k + 1 => cutsW L q k ++ [(ge q k).fr, (ge q k).tt]
theorem cutsW_len (L : Int) (q : List Edc) : ∀ k, (cutsW L q k).length = 2 + 2 * k
  | 0 => rfl
  | k + 1 => by rw [cutsW, List.length_append, cutsW_len L q k]; simp; omega
theorem cutsW_mem {L : Int} {q : List Edc} : ∀ n, n ≤ q.length → ∀ c, c ∈ cutsW L q n ↔ c = 0 ∨ c = L ∨ ∃ i, i < n ∧ (c = (ge q i).fr ∨ c = (ge q i).tt)
  | 0, _, c => by simp [cutsW]
  | n + 1, hn, c => by
    rw [cutsW, List.mem_append, cutsW_mem n (by omega) c]
    simp only [List.mem_cons, List.not_mem_nil, or_false]
    constructor
    · rintro ((h | h | ⟨i, hi, h⟩) | h)
      · exact .inl h
      · exact .inr (.inl h)
      · exact .inr (.inr ⟨i, by omega, h⟩)
      · exact .inr (.inr ⟨n, by omega, h⟩)
    · rintro (h | h | ⟨i, hi, h⟩)
      · exact .inl (.inl h)
      · exact .inl (.inr (.inl h))
      · by_cases e : i = n
        · rw [e] at h; exact .inr h
        · exact .inl (.inr (.inr ⟨i, by omega, h⟩))
theorem edc_in {L : Int} {js : List Int} {q : List Edc} (h : edcsB L js q = true) (j : Nat) (hj : j < q.length) : edcB L (ge q j) = true := by
  unfold edcsB at h
  simp only [Bool.and_eq_true, decide_eq_true_eq] at h
  have hA := h.1.2
  unfold allE at hA
  simp only [Bool.not_eq_true'] at hA
  simpa using (anyK_iff _).1 hA j hj
theorem edc_bd {L : Int} {x : Edc} (h : edcB L x = true) : 0 ≤ x.fr ∧ x.fr < x.tt ∧ x.tt ≤ L := by
  unfold edcB at h
  simp only [Bool.and_eq_true, decide_eq_true_eq] at h
  omega
theorem mustK_same {q : List Edc} {h t d m m' : Int} : ∀ n, n ≤ q.length → (∀ i, i < n → ((ge q i).fr ≤ m ↔ (ge q i).fr ≤ m') ∧ (m < (ge q i).tt ↔ m' < (ge q i).tt)) → mustK q h t d m n = mustK q h t d m' n
  | 0, _, _ => rfl
  | n + 1, hn, hh => by
    rw [mustK, mustK, mustK_same n (by omega) (fun i hi => hh i (by omega))]
    obtain ⟨h1, h2⟩ := hh n (by omega)
    have : edB (ge q n) h t d m = edB (ge q n) h t d m' := by
      unfold edB
      rw [show decide ((ge q n).fr ≤ m) = decide ((ge q n).fr ≤ m') from decide_eq_decide.2 h1, show decide (m < (ge q n).tt) = decide (m' < (ge q n).tt) from decide_eq_decide.2 h2]
    rw [this]
def wantS (L : Int) (q : List Edc) (h dir t : Int) : List Tri := strS L (fun m => mustV q h t dir m)
theorem want_const {L : Int} {q : List Edc} {h t d : Int} (a m : Int) (hc : ∀ c, c ∈ cutsW L q q.length → (a < c ↔ m < c)) : mustV q h t d m = mustV q h t d a := by
  unfold mustV
  rw [mustK_same q.length (Nat.le_refl _) (fun i hi => ?_)]
  have m1 := hc _ ((cutsW_mem q.length (Nat.le_refl _) _).2 (.inr (.inr ⟨i, hi, .inl rfl⟩)))
  have m2 := hc _ ((cutsW_mem q.length (Nat.le_refl _) _).2 (.inr (.inr ⟨i, hi, .inr rfl⟩)))
  constructor <;> omega
theorem want_cuts {L : Int} {js : List Int} {l : List Sgn} {q : List Edc} (hV : lstE L js l q = 0) : 0 ∈ cutsW L q q.length ∧ L ∈ cutsW L q q.length ∧ ∀ c, c ∈ cutsW L q q.length → 0 ≤ c ∧ c ≤ L := by
  obtain ⟨hl, hL1, hL2⟩ := lst_line hV
  refine ⟨(cutsW_mem q.length (Nat.le_refl _) _).2 (.inl rfl), (cutsW_mem q.length (Nat.le_refl _) _).2 (.inr (.inl rfl)), fun c hc => ?_⟩
  rcases (cutsW_mem q.length (Nat.le_refl _) c).1 hc with rfl | rfl | ⟨i, hi, rfl | rfl⟩
  · omega
  · omega
  · have := edc_bd (edc_in (lst_edcs hV) i hi); omega
  · have := edc_bd (edc_in (lst_edcs hV) i hi); omega
theorem wantM_eq {L : Int} {js : List Int} {l : List Sgn} {q : List Edc} {h dir t : Int} (hV : lstE L js l q = 0) : heldL (prtK (ascL (cutsW L q q.length)) (fun m => mustV q h t dir m) (ascL (cutsW L q q.length)).length) = wantS L q h dir t := by
  obtain ⟨hl, hL1, hL2⟩ := lst_line hV
  obtain ⟨c1, c2, c3⟩ := want_cuts hV
  exact held_cuts (L := L) (by omega) c1 c2 c3 (fun a m hc => want_const a m hc)
end Go.Proofs.YtjoffnbpaebgjaaGreat

namespace Go.Proofs.YtjoffnbpaebgjaaGreat
set_option linter.unusedVariables false
set_option linter.unusedSimpArgs false
theorem loadNoneZ (P : Program) (w : World) (a : Addr) : (loadCells a 0).run P w = .ok #[] w := rfl
theorem run_append_zed {P : Program} {w : World} (base : Nat) (t ty e : TypeId) (i : TypeInfo) (size : Nat) (ht : P.underlying t = some (.slice e)) (hi : P.info? e = some i)
    (v : Value) (n : Nat) (xs : List Value) (hown : w.ownsRow base e size v n xs) (ao : Option Addr) (c : Nat) :
    (Builtin.append_ #[t, t] ty #[v, .slice ao 0 c]).run P w = .ok v w := by
  rcases hown.2 with ⟨rfl, rfl⟩ | ⟨g, cap, cur, rfl, _, _, hnc, _⟩
  · cases ao <;> simp [Builtin.append_, run_underlying ht, sizeOf, typeInfo, hi, Builtin.lenOf, Builtin.firstCells, loadNoneZ, Result.andThen]
  · cases ao <;> simp [Builtin.append_, run_underlying ht, sizeOf, typeInfo, hi, Builtin.lenOf, Builtin.firstCells, hnc, storeCells, loadNoneZ, Result.andThen]
theorem wpList_append_zed {P : Program} {w : World} {ops : Array Oper} {rest : List Oper} {o : Oper} {a : Act} {Q : Exit → Act → World → Prop} (hgd : o.guard = none) (s x : Operand) (t : TypeId)
    (ho : o.op = .call { callee := .builtin .append, args := #[s, x], argTypes := #[t, t] })
    (base : Nat) (e : TypeId) (i : TypeInfo) (size : Nat) (ht : P.underlying t = some (.slice e)) (hi : P.info? e = some i)
    (v : Value) (n : Nat) (xs : List Value) (hs : a.eval s = v) (hown : w.ownsRow base e size v n xs) (ao : Option Addr) (c : Nat) (hx : a.eval x = .slice ao 0 c)
    (h : wpList P ops Q rest (a.put o.dst v) w) : wpList P ops Q (o :: rest) a w := by
  refine wpList_plain hgd fun K hK => ?_
  have hrun := run_append_zed (P := P) (w := w) base t o.type e i size ht hi v n xs hown ao c
  unfold Oper.wp
  simp [execOp, ho, resolve, invoke, builtin, hs, hx, hrun, Result.andThen]
  exact hK _ _ h
end Go.Proofs.YtjoffnbpaebgjaaGreat
