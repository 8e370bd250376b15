/-
  faulty; slices.SortFunc at faults. By an AI agent.; Faults of package rule. By an AI agent.; The faults of a row by its signs alone; two lists of faults in order are one. By an AI agent.; An ask seen from the other end of its line. By an AI agent.; Rows of edicts as values; rows beside a box of another type. By an AI agent.
-/
import Derived.Test.YtlpdjinhkmgbgaaGreatDoorMgRuleCW2
import Derived.Test.YtlpdjinhkmgbgaaGreatDoorMgRuleCW5
import Derived.Test.YtlpdjinhkmgbgaaGreatDoorMgRuleCW9
import Derived.Test.YtlpdjinhkmgbgaaGreatDoorMgRuleCW10
import Derived.Test.YtlpdjinhkmgbgaaGreatDoorMgRuleCW11
import Derived.Deep.RegionHeld3
import Derived.Deep.AppendLies
import Derived.BigQuiet
import Derived.BigRegion
import Derived.Shelf.SlSortCmp.WholeK
import Derived.Shelf.SlSortCmp.NoneTotal
import Derived.Lib.OwnBridge
import Derived.Lib.AppendIntMem
import Derived.Deep.DeepCutAuto

namespace Go.Proofs.YtlpdjinhkmgbgaaGreatDoor
set_option linter.unusedVariables false
set_option linter.unusedSimpArgs false
open Go.RowKit

abbrev Flt := Int × Int
theorem infoF : (Tryz.prog.info? 113).map (fun i => (i.zero, i.size, i.bytes)) = some (some (.agg #[.int .i64 0, .int .i64 0]), 2, 16) := by kernel_rfl
def enc2 (x : Flt) : List Value := [.int .i64 x.1, .int .i64 x.2]
theorem enc2_len (x : Flt) : (enc2 x).length = 2 := rfl
theorem enc2_one (x : Flt) : ∀ v ∈ enc2 x, v.oneCell' = true := by
  intro v hv
  simp [enc2] at hv
  rcases hv with rfl | rfl <;> rfl
def cl2 (l : List Flt) : List Value := l.flatMap enc2
theorem cl2_app (l m : List Flt) : cl2 (l ++ m) = cl2 l ++ cl2 m := by simp [cl2]
theorem cl2_one (l : List Flt) : ∀ v ∈ cl2 l, v.oneCell' = true := by
  intro v hv
  obtain ⟨x, -, hx⟩ := List.mem_flatMap.1 hv
  exact enc2_one x v hx
theorem cl2_len (l : List Flt) : (cl2 l).length = l.length * 2 := by
  induction l with
  | nil => rfl
  | cons p l ih => unfold cl2 at *; rw [List.flatMap_cons, List.length_append, ih, enc2_len]; simp; omega
theorem cl2_c : ∀ (s : List Flt) (i : Nat), i < s.length → (cl2 s)[i * 2]? = some (.int .i64 (gp s i).1) ∧ (cl2 s)[i * 2 + 1]? = some (.int .i64 (gp s i).2)
  | [], i, h => by simp at h
  | p :: s, 0, _ => ⟨rfl, rfl⟩
  | p :: s, i + 1, h => by
    obtain ⟨h1, h2⟩ := cl2_c s i (by simpa using h)
    have e : cl2 (p :: s) = enc2 p ++ cl2 s := rfl
    rw [e, List.getElem?_append_right (by rw [enc2_len]; omega), List.getElem?_append_right (by rw [enc2_len]; omega), enc2_len, show (i + 1) * 2 - 2 = i * 2 by omega, show (i + 1) * 2 + 1 - 2 = i * 2 + 1 by omega]
    exact ⟨h1, h2⟩
theorem cl2_get : ∀ (l : List Flt) (j : Nat), j < l.length * 2 → (cl2 l)[j]? = some ((enc2 l[j / 2]!)[j % 2]!)
  | [], j, h => by simp at h
  | p :: l, j, h => by
    unfold cl2
    rw [List.flatMap_cons]
    by_cases h1 : j < 2
    · rw [List.getElem?_append_left (by rw [enc2_len]; exact h1), show j / 2 = 0 by omega, show j % 2 = j by omega]
      have hl : j < (enc2 p).length := h1
      rw [List.getElem?_eq_getElem hl, getElem!_pos _ j hl]
      rfl
    · have ih := cl2_get l (j - 2) (by simp at h; omega)
      unfold cl2 at ih
      rw [List.getElem?_append_right (by rw [enc2_len]; omega), enc2_len, ih, show j / 2 = (j - 2) / 2 + 1 by omega, show j % 2 = (j - 2) % 2 by omega]
      rfl
theorem pairs_own2 {w : World} {base c : Nat} {a : Option Addr} {zs : List Flt} {T : TypeId} (h : w.ownsRow base T 2 (.slice a zs.length c) zs.length (cl2 zs)) (hn : zs.length ≤ 9223372036854775807) (hf : ∀ j, j < zs.length → I64 (gp zs j).1 ∧ I64 (gp zs j).2) : PairsS w a zs := by
  refine ⟨hn, hf, ?_⟩
  rcases h.2 with ⟨h1, h2⟩ | ⟨g2, c2, cur, h1, _⟩
  · exact ⟨0, 0, (fun hne => absurd (List.eq_nil_of_length_eq_zero h2) hne), fun i hi => by omega⟩
  · obtain ⟨rfl, rfl⟩ : a = some ⟨g2, 0, none⟩ ∧ c = c2 := by simpa using h1
    refine ⟨g2, 0, fun _ => rfl, fun i hi => ?_⟩
    obtain ⟨c0, c1⟩ := cl2_c zs i hi
    rw [Nat.zero_add]
    exact ⟨by rw [World.ownsRow.cellAt h (i * 2) (by omega)]; exact c0, by rw [World.ownsRow.cellAt h (i * 2 + 1) (by omega)]; exact c1⟩
/-- The faults of the first k signs of a row. -/
def fltK (L : Int) (row : List Pst) : Nat → List Flt
  | 0 => []
  | k + 1 => if codP L row (gq row k) = 0 then fltK L row k else fltK L row k ++ [((gq row k).s.n, codP L row (gq row k))]
theorem fltK_len (L : Int) (row : List Pst) : ∀ k, (fltK L row k).length ≤ k
  | 0 => Nat.le_refl _
  | k + 1 => by
    have := fltK_len L row k
    rw [fltK]; split
    · omega
    · simp; omega
theorem codP_bd (L : Int) (row : List Pst) (p : Pst) : 0 ≤ codP L row p ∧ codP L row p ≤ 4 := by
  unfold codP; split
  · split <;> omega
  · split
    · split <;> omega
    · split
      · split <;> omega
      · split
        · split <;> omega
        · omega
theorem fltK_mem {L : Int} {row : List Pst} {x : Flt} : ∀ {k}, x ∈ fltK L row k → ∃ i, i < k ∧ x = ((gq row i).s.n, codP L row (gq row i))
  | 0, h => by cases h
  | k + 1, h => by
    rw [fltK] at h
    split at h
    · obtain ⟨i, hi, e⟩ := fltK_mem h; exact ⟨i, by omega, e⟩
    · rw [List.mem_append, List.mem_singleton] at h
      rcases h with h | h
      · obtain ⟨i, hi, e⟩ := fltK_mem h; exact ⟨i, by omega, e⟩
      · exact ⟨k, by omega, h⟩
/-- What faulty returns. -/
def FltE (M : List Flt) (w : World) (e : Ending) (w' : World) : Prop := ∃ b c, e = .returned (.slice b M.length c) ∧ w'.ownsRow w.heap.size 113 2 (.slice b M.length c) M.length (cl2 M) ∧ Below w.heap.size w w'
set_option maxRecDepth 100000 in
set_option maxHeartbeats 4000000 in
theorem faulty_r (L : Int) (ar : Option Addr) (row : List Pst) (cr : Nat) (hL : 0 ≤ L ∧ L ≤ 100000) (hd : ∀ i, i < row.length → (-100000 ≤ (gq row i).d ∧ (gq row i).d ≤ 100000) ∧ -100000 ≤ (gq row i).s.v ∧ (gq row i).s.v ≤ 100000) (hn : row.length ≤ 1000) (w : World) (hR : PstS w ar row) :
    Calls Tryz.prog 56 #[.slice ar row.length cr, .func (.func 57) #[.agg #[.int .i64 L, .slice ar row.length cr]] #[]] w (FltE (fltK L row row.length) w) := by
  have HCd := Lib.hid (fun p ad cp W (hdp : -100000 ≤ p.d ∧ p.d ≤ 100000) (hvp : -100000 ≤ p.s.v ∧ p.s.v ≤ 100000) (hW : Below w.heap.size w W) => code_r L ar row cr p ad cp hL hdp hvp W (hR.below hW))
  obtain ⟨-, pb, po, pad, pcp, hpa, hpc⟩ := hR
  have HPC := Lib.hid hpc
  have HPA : Hid (0 < row.length → ar = some ⟨pb, po, none⟩) := Lib.hid fun h => hpa (List.ne_nil_of_length_pos h)
  have HD := Lib.hid hd
  have HLen := Lib.hid (fltK_len L row)
  have HStep : Hid (∀ k, fltK L row (k + 1) = if codP L row (gq row k) = 0 then fltK L row k else fltK L row k ++ [((gq row k).s.n, codP L row (gq row k))]) := Lib.hid fun k => rfl
  have HM0 : Hid (fltK L row 0 = []) := Lib.hid rfl
  obtain ⟨n0, hi, hz0, hz1, hz2⟩ := info_parts infoF
  generalize fltK L row = MM at *
  clear hpa hpc hd
  go_enter Tryz.func56, Tryz.ntmps56
  go_wp2_with fail
  go_loopw [5, 11] (fun v i9 wr => ∃ k : Nat, k ≤ row.length ∧ i9 = .int .i64 k ∧ (∃ a c, v = .slice a (MM k).length c) ∧ Hid (wr.ownsRow w.heap.size 113 2 v (MM k).length (cl2 (MM k))) ∧ Below w.heap.size w wr) (fun _ i9 _ => row.length - (intOf i9).toNat)
  case atStart => exact ⟨0, Nat.zero_le _, rfl, ⟨none, 0, by rw [HM0.out]; rfl⟩, Lib.hid (by rw [HM0.out]; exact ⟨rfl, .inl ⟨rfl, rfl⟩⟩), Below.refl _ _⟩
  case round =>
    obtain ⟨k, hk, rfl, ⟨av, cv, rfl⟩, HRow, hbr⟩ := hrel
    have hkl := HLen.out k
    by_cases hlt : k < row.length
    · obtain rfl := HPA.out (by omega)
      obtain ⟨⟨⟨c0, c1, c2, c3, c4, c5, c6, c7⟩, c8, c9, c10, c11⟩, -⟩ := HPC.out k hlt
      have c0 := cell_below c0 hbr
      have c1 := cell_below c1 hbr
      have c2 := cell_below c2 hbr
      have c3 := cell_below c3 hbr
      have c4 := cell_below c4 hbr
      have c5 := cell_below c5 hbr
      have c6 := cell_below c6 hbr
      have c7 := cell_below c7 hbr
      have c8 := cell_below c8 hbr
      have c9 := cell_below c9 hbr
      have c10 := cell_below c10 hbr
      have c11 := cell_below c11 hbr
      have hdk := HD.out k hlt
      have HCk := Lib.hid (fun W (hW : Below w.heap.size w W) => HCd.out (gq row k) (pad k) (pcp k) W hdk.1 hdk.2 hW)
      have HN := Lib.hid (HStep.out k)
      have hsr := hbr.size
      clear HPC HPA HD HCd HStep HLen HM0 hdk
      generalize codP L row (gq row k) = CD at *
      generalize pad k = adk at *
      generalize pcp k = cpk at *
      obtain ⟨x, hx⟩ : ∃ x, gq row k = x := ⟨_, rfl⟩
      rw [hx] at HN HCk c0 c1 c2 c3 c4 c5 c6 c7 c8 c9 c10 c11
      clear hx
      obtain ⟨S, hS⟩ : ∃ S, MM k = S := ⟨_, rfl⟩
      rw [hS] at HN HRow hkl ⊢
      clear hS
      go_upto_region 5 with (fail)
      obtain ⟨wq, hwq⟩ : ∃ wq, wr.alloc (.cells #[.int .i64 x.s.n, .int .i64 x.s.k, .int .i64 x.s.v, .int .i64 x.s.c, .int .i64 x.s.d, .int .i64 x.s.rk, .int .i64 x.s.up, .int .i64 x.s.dn, .slice adk x.s.cv.length cpk, .int .i64 x.d, .int .i64 x.u, .bool x.b] 124) = wq := ⟨_, rfl⟩
      have hbq0 : Below wr.heap.size wr wq := by rw [← hwq]; exact (Below.refl _ _).alloc (Nat.le_refl _) _
      have x0 : wq.cell? ⟨wr.heap.size, 0, none⟩ = some (.int .i64 x.s.n) := by rw [← hwq]; simp [go_sem]
      have x1 : wq.cell? ⟨wr.heap.size, 1, none⟩ = some (.int .i64 x.s.k) := by rw [← hwq]; simp [go_sem]
      have x2 : wq.cell? ⟨wr.heap.size, 2, none⟩ = some (.int .i64 x.s.v) := by rw [← hwq]; simp [go_sem]
      have x3 : wq.cell? ⟨wr.heap.size, 3, none⟩ = some (.int .i64 x.s.c) := by rw [← hwq]; simp [go_sem]
      have x4 : wq.cell? ⟨wr.heap.size, 4, none⟩ = some (.int .i64 x.s.d) := by rw [← hwq]; simp [go_sem]
      have x5 : wq.cell? ⟨wr.heap.size, 5, none⟩ = some (.int .i64 x.s.rk) := by rw [← hwq]; simp [go_sem]
      have x6 : wq.cell? ⟨wr.heap.size, 6, none⟩ = some (.int .i64 x.s.up) := by rw [← hwq]; simp [go_sem]
      have x7 : wq.cell? ⟨wr.heap.size, 7, none⟩ = some (.int .i64 x.s.dn) := by rw [← hwq]; simp [go_sem]
      have x8 : wq.cell? ⟨wr.heap.size, 8, none⟩ = some (.slice adk x.s.cv.length cpk) := by rw [← hwq]; simp [go_sem]
      have x9 : wq.cell? ⟨wr.heap.size, 9, none⟩ = some (.int .i64 x.d) := by rw [← hwq]; simp [go_sem]
      have x10 : wq.cell? ⟨wr.heap.size, 10, none⟩ = some (.int .i64 x.u) := by rw [← hwq]; simp [go_sem]
      have x11 : wq.cell? ⟨wr.heap.size, 11, none⟩ = some (.bool x.b) := by rw [← hwq]; simp [go_sem]
      rw [hwq]
      clear hwq c0 c1 c2 c3 c4 c5 c6 c7 c8 c9 c10 c11
      have hbq := hbr.trans (hbq0.mono hsr)
      have HRow := Lib.hid (owns_belowI HRow.out hbq0)
      have HCq := Lib.hid (HCk.out wq hbq)
      clear HCk hbq0
      by_cases h0 : CD = 0
      · have d0 : (CD != 0) = false := by rw [h0]; rfl
        have HE : Hid (MM (k + 1) = S) := Lib.hid (by rw [HN.out, if_pos h0])
        clear HN h0
        go_wp2_with (go_at_call 57; refine HCq.out.mono ?_; rintro e w3 ⟨rfl, hb3⟩)
        go_roundw
        case rel => exact ⟨k + 1, by omega, by go_num, ⟨av, cv, by rw [HE.out]⟩, Lib.hid (by rw [HE.out]; exact owns_belowI HRow.out hb3), hbq.trans (hb3.mono hbq.size)⟩
        case measure => simp [intOf]; omega
      · have d0 : (CD != 0) = true := by simp [h0]
        have HE : Hid (S.length + 1 = (MM (k + 1)).length ∧ cl2 S ++ [.int .i64 x.s.n, .int .i64 CD] = cl2 (MM (k + 1))) := Lib.hid (by rw [HN.out, if_neg h0, cl2_app]; exact ⟨by simp, rfl⟩)
        clear HN h0
        have hzx := block_lt x0
        go_wp2_with (first | (go_at_call 57; refine HCq.out.mono ?_; rintro e w3 ⟨rfl, hb3⟩; have x0 := cell_below x0 hb3; have hOW0 := Lib.hid ((owns_belowI HRow.out hb3).alloc (.cells #[.int .i64 x.s.n, .int .i64 CD] 113)); have hb3w := hbq.trans (hb3.mono hbq.size); have hs3 := hb3w.size) | (at_builtin; go_loud (refine wpList_append_lies _ rfl _ _ 62 rfl w.heap.size 113 n0 _ 2 16 Tryz.underlying62 hi hz0 hz1 hz2 rfl (by decide) (.slice av S.length cv) S.length _ (by rfl) hOW0.out ⟨w3.heap.size, 0, none⟩ 1 1 [.int .i64 x.s.n, .int .i64 CD] (by rfl) (by rfl) ?d1 ?d2 (by decide) ?d3 ?d4 ?d5 _ rfl ?_)))
        case d1 =>
          refine World.news_of_block (cs := #[.int .i64 x.s.n, .int .i64 CD]) (t := 113) (fr := (0, 0)) ?_
          exact heap_alloc_new _ _
        case d2 => simp [Value.oneCell']
        case d3 => unfold maxLen; omega
        case d4 => omega
        case d5 => first | (simp; omega) | simp | omega
        intro g6 c6 w6 hown6 hgrow6 hat6 hlt6
        have hb6 : Below w.heap.size w w6 := (hb3w.alloc hs3 _).grown hgrow6 (by first | (simp; omega) | simp | omega) (fun z hz => owns_blockI hOW0.out hz)
        have HRow6 := Lib.hid hown6
        clear hown6 hOW0 hgrow6 hat6 hlt6
        go_wp2_with fail
        go_roundw
        case rel => exact ⟨k + 1, by omega, by go_num, ⟨_, c6, by rw [← HE.out.1]⟩, Lib.hid (by rw [← HE.out.1, ← HE.out.2]; exact HRow6.out), hb6⟩
        case measure => simp [intOf]; omega
    · obtain rfl : k = row.length := by omega
      have HEnd : Hid (FltE (MM row.length) w (.returned (.slice av (MM row.length).length cv)) wr) := Lib.hid ⟨av, cv, rfl, HRow.out, hbr⟩
      clear HRow HPC HPA HD HCd HStep HLen HM0
      go_wp2_with fail
      go_ret
      exact HEnd.out
theorem fnum_r (p : Flt) (w : World) : Calls Tryz.prog 60 #[.agg #[.int .i64 p.1, .int .i64 p.2]] w fun e w' => e = .returned (.int .i64 p.1) ∧ w' = w.alloc (.cells #[.int .i64 p.1, .int .i64 p.2] 113) := by
  go_enter Tryz.func60, Tryz.ntmps60
  go_wp2_with fail
  go_ret
  exact ⟨rfl, rfl⟩
set_option maxRecDepth 100000 in
set_option maxHeartbeats 4000000 in
theorem byF_r (p q : Flt) (B Fb : Nat) (w : World) (cB : w.cell? ⟨B, 0, none⟩ = some (.slice (some ⟨Fb, 0, none⟩) 1 1)) (f0 : w.cell? ⟨Fb, 0, none⟩ = some (.func (.func 60) #[] #[])) :
    Calls Tryz.prog 100 #[.agg #[.int .i64 p.1, .int .i64 p.2], .agg #[.int .i64 q.1, .int .i64 q.2], .pointer (some ⟨B, 0, none⟩)] w fun e w' => e = .returned (.int .i64 (Lib.compareInt p.1 q.1)) ∧ GrownW w w' := by
  have HC0 := Lib.hid (fun W => compare_r p.1 q.1 W)
  generalize hr : Lib.compareInt p.1 q.1 = r0 at *
  have HRc := Lib.hid hr
  clear hr
  have kk : ∀ (o : Nat) (v : Value) (b : Nat), w.cell? ⟨b, o, none⟩ = some v → ∀ c t c' t', ((w.alloc (.cells c t)).alloc (.cells c' t')).cell? ⟨b, o, none⟩ = some v := fun o v b h c t c' t' => cell_below h (((GrownW.refl w).alloc _).alloc _).below
  have kB := kk _ _ _ cB
  clear kk
  go_enter Tryz.func100, Tryz.ntmps100
  go_wp2_with fail
  obtain ⟨wB, hwB⟩ : ∃ wB, (w.alloc (.cells #[.int .i64 p.1, .int .i64 p.2] 113)).alloc (.cells #[.int .i64 q.1, .int .i64 q.2] 113) = wB := ⟨_, rfl⟩
  have hG : GrownW w wB := by rw [← hwB]; exact ((GrownW.refl w).alloc _).alloc _
  have hzB : w.heap.size + 1 < wB.heap.size := by rw [← hwB]; simp
  have cB := cell_below cB hG.below
  have f0 := cell_below f0 hG.below
  have s0 : wB.cell? ⟨w.heap.size, 0, none⟩ = some (.int .i64 p.1) := by rw [← hwB]; simp [go_sem]
  have s1 : wB.cell? ⟨w.heap.size, 1, none⟩ = some (.int .i64 p.2) := by rw [← hwB]; simp [go_sem]
  have s2 : wB.cell? ⟨w.heap.size + 1, 0, none⟩ = some (.int .i64 q.1) := by rw [← hwB]; simp [go_sem]
  have s3 : wB.cell? ⟨w.heap.size + 1, 1, none⟩ = some (.int .i64 q.2) := by rw [← hwB]; simp [go_sem]
  rw [hwB]
  clear hwB kB
  go_loopw [11] (fun i wr => ∃ k : Nat, k ≤ 1 ∧ i = .int .i64 k ∧ GrownW wB wr ∧ Hid (0 < k → r0 = 0)) (fun i _ => 1 - (intOf i).toNat)
  case atStart => exact ⟨0, by omega, rfl, GrownW.refl _, Lib.hid fun h => absurd h (by omega)⟩
  case round =>
    obtain ⟨k, hk, rfl, hGr, HA⟩ := hrel
    have hGb := hGr.below
    have hGw := hG.trans hGr
    have f0 := cell_below f0 hGb
    have hzr := Nat.lt_of_lt_of_le hzB hGb.size
    have s0 := cell_below s0 hGb
    have s1 := cell_below s1 hGb
    have s2 := cell_below s2 hGb
    have s3 := cell_below s3 hGb
    rcases (by omega : k = 0 ∨ k = 1) with rfl | rfl
    · go_wp2_with fail
      have hz1 : w.heap.size + 1 < wr.heap.size := hzr
      clear f0 cB hzB hGb
      go_region_held3 (fun w' => w'.cell? ⟨w.heap.size, 0, none⟩ = some (.int .i64 p.1) ∧ w'.cell? ⟨w.heap.size, 1, none⟩ = some (.int .i64 p.2) ∧ w'.cell? ⟨w.heap.size + 1, 0, none⟩ = some (.int .i64 q.1) ∧ w'.cell? ⟨w.heap.size + 1, 1, none⟩ = some (.int .i64 q.2)) (go_keep)
        (first
          | (go_at_call 60
             first | (with_reducible refine Calls.mono (fnum_r p _) ?_) | (with_reducible refine Calls.mono (fnum_r q _) ?_)
             rintro e w9 ⟨rfl, h9⟩
             have hG9 := GrownW.of_eq h9
             clear h9
             have hb9 := hG9.below
             have hz0 : w.heap.size < wr.heap.size := by omega
             have hzA := Nat.lt_of_lt_of_le hz1 hb9.size
             have s0 := (hb9.cell (p := ⟨w.heap.size, 0, none⟩) (Nat.lt_of_succ_lt hz1)).trans s0
             have s1 := (hb9.cell (p := ⟨w.heap.size, 1, none⟩) (Nat.lt_of_succ_lt hz1)).trans s1
             have s2 := (hb9.cell (p := ⟨w.heap.size + 1, 0, none⟩) hz1).trans s2
             have s3 := (hb9.cell (p := ⟨w.heap.size + 1, 1, none⟩) hz1).trans s3
             have hGr : GrownW wB w9 := by first | exact hGr.trans hG9 | exact hGr.drew.trans hG9
             have hz1 := hzA)
          | (go_at_call 101
             refine (HC0.out _).mono ?_
             rintro e w9 ⟨rfl, rfl⟩))
      all_goals
        by_cases h0 : r0 = 0
        · have HA2 : Hid (0 < 0 + 1 → r0 = 0) := Lib.hid fun _ => h0
          have b0 : (r0 == 0) = true := by rw [h0]; rfl
          clear HA h0
          go_wp2_with fail
          go_roundw
          case rel => exact ⟨0 + 1, by omega, by go_num, by first | exact hGr | exact hGr.drew, HA2⟩
          case measure => simp [intOf]
        · have b0 : (r0 == 0) = false := beq_false_of_ne h0
          clear HA
          go_wp2_with fail
          go_ret
          exact ⟨rfl, by first | exact hG.trans hGr | exact hG.trans hGr.drew⟩
    · have HR : Hid (r0 = 0) := Lib.hid (HA.out (by omega))
      clear HA
      go_wp2_with fail
      go_ret
      exact ⟨by rw [HR.out]; rfl, hGw⟩
theorem holdsF {w : World} {base g c : Nat} {l : List Flt} (h : w.ownsRow base 113 2 (.slice (some ⟨g, 0, none⟩) l.length c) l.length (cl2 l)) : Sort.HoldsK enc2 2 w g 0 l.toArray := by
  intro j hj
  rw [Sort.size_flatK] at hj
  have hj2 : j < l.length * 2 := by simpa using hj
  rw [Sort.get_flatK _ _ _ _ hj, Nat.zero_add, World.ownsRow.cellAt h j (by omega), cl2_get l j hj2]
  refine ⟨?_, World.ownsRow.frozenAt h j⟩
  have hd : j / 2 < l.length := by omega
  have e : l.toArray[j / 2]! = l[j / 2]! := by rw [getElem!_pos _ (j / 2) (by simpa using hd), getElem!_pos _ (j / 2) hd]; simp
  rw [e]; rfl
theorem ltF (x y : Flt) : ltOf (fun x y : Flt => Lib.compareInt x.1 y.1) x y = decide (Lib.compareInt x.1 y.1 < 0) := rfl
theorem swoF : Sort.SWO (ltOf fun x y : Flt => Lib.compareInt x.1 y.1) where
  irrefl x := by rw [ltF, decide_eq_false_iff_not, cmp_lt]; omega
  trans x y z h1 h2 := by rw [ltF, decide_eq_true_eq, cmp_lt] at *; omega
  ntrans x y z h1 h2 := by rw [ltF, decide_eq_false_iff_not, cmp_lt] at *; omega
/-- The faults, by their numbers. -/
def SrtF (base : Nat) (av : Option Addr) (R : List Flt) (w : World) (e : Ending) (w' : World) : Prop :=
  e = .returned (.tuple #[]) ∧ ∃ S : List Flt, S.Perm R ∧ (∀ i j, i < j → j < S.length → (gp S i).1 ≤ (gp S j).1) ∧ (∃ g, (S ≠ [] → av = some ⟨g, 0, none⟩) ∧ ∀ i, i < S.length → w'.cell? ⟨g, i * 2, none⟩ = some (.int .i64 (gp S i).1) ∧ w'.cell? ⟨g, i * 2 + 1, none⟩ = some (.int .i64 (gp S i).2)) ∧ Below base w w'
theorem cells_holdsF {w : World} {g : Nat} {d : Array Flt} (h : Sort.HoldsK enc2 2 w g 0 d) : ∀ i, i < d.toList.length → w.cell? ⟨g, i * 2, none⟩ = some (.int .i64 (gp d.toList i).1) ∧ w.cell? ⟨g, i * 2 + 1, none⟩ = some (.int .i64 (gp d.toList i).2) := fun i hi => by
  have hi2 : i < d.size := by simpa using hi
  have e : gp d.toList i = d[i]! := by unfold gp; rw [getElem!_pos d i hi2]; simp [hi2]
  have k := fun (o : Nat) (ho : o < 2) => (h (i * 2 + o) (by rw [Sort.size_flatK]; omega)).1
  have g := fun (o : Nat) (ho : o < 2) => Sort.get_flatK enc2 2 d (i * 2 + o) (by omega)
  have h0 := k 0 (by omega)
  have h1 := k 1 (by omega)
  rw [g 0 (by omega), Nat.zero_add, show (i * 2 + 0) / 2 = i by omega, show (i * 2 + 0) % 2 = 0 by omega] at h0
  rw [g 1 (by omega), Nat.zero_add, show (i * 2 + 1) / 2 = i by omega, show (i * 2 + 1) % 2 = 1 by omega] at h1
  rw [e]
  exact ⟨h0, h1⟩
theorem sortF_r (base B Fb cv : Nat) (av : Option Addr) (R : List Flt) (w : World) (h : w.ownsRow base 113 2 (.slice av R.length cv) R.length (cl2 R)) (hn : R.length ≤ 100000000) (cB : w.cell? ⟨B, 0, none⟩ = some (.slice (some ⟨Fb, 0, none⟩) 1 1)) (f0 : w.cell? ⟨Fb, 0, none⟩ = some (.func (.func 60) #[] #[])) (hB : ∀ g, av = some ⟨g, 0, none⟩ → B ≠ g ∧ Fb ≠ g) :
    Calls Tryz.prog 58 #[.slice av R.length cv, .func (.func 100) #[] #[.pointer (some ⟨B, 0, none⟩)]] w (SrtF base av R w) := by
  rcases h.2 with ⟨h1, h2⟩ | ⟨g, cap, cur, h1, hg, hg2, _⟩
  · have ha : av = none := by simpa using (Value.slice.inj h1).1
    have hR : R = [] := List.eq_nil_of_length_eq_zero h2
    subst ha; subst hR
    have := AnyF.slices_SortFunc_none Tryz.laysSortF none cv (.func (.func 100) #[] #[.pointer (some ⟨B, 0, none⟩)]) w
    change Calls Tryz.prog 58 _ _ _ at this
    refine this.mono ?_
    rintro e w' ⟨he, hw⟩
    exact ⟨he, [], List.Perm.refl _, (fun i j _ hj => absurd hj (Nat.not_lt_zero _)), ⟨0, fun h => (h rfl).elim, fun i hi => absurd hi (Nat.not_lt_zero i)⟩, (by rw [hw]; exact Below.refl _ _)⟩
  · obtain ⟨rfl, rfl⟩ : av = some ⟨g, 0, none⟩ ∧ cv = cap := by simpa using h1
    obtain ⟨b1, b2⟩ := hB g rfl
    have hg3 : g < w.heap.size := (Array.getElem?_eq_some_iff.1 hg2).1
    have eg : ∀ args w, (callFunc 100 args).run Tryz.prog w = .ok (.enter 100 args) w := enters_of Tryz.func100 (by kernel_rfl) rfl
    have hcmp : CmpLays Tryz.prog 100 #[.pointer (some ⟨B, 0, none⟩)] enc2 2 (fun x y : Flt => Lib.compareInt x.1 y.1) g 0 R.toArray.size w := fun m os dk _ x y => by
      have k := fun (b o : Nat) (v : Value) (hb : b ≠ g) (hv : w.cell? ⟨b, o, none⟩ = some v) => (cell?_sortWorldK_other enc2 2 w g 0 m dk os ⟨b, o, none⟩ hb (block_lt hv)).trans hv
      exact byF_r x y B Fb _ (k B 0 _ b1 cB) (k Fb 0 _ b2 f0)
    have hcon := AnyQ.slices_SortFunc Tryz.laysSortF 2 Tryz.isAgg113 Tryz.sizeOf113 enc2 enc2_len enc2_one (fun x y : Flt => Lib.compareInt x.1 y.1) swoF 100 #[.pointer (some ⟨B, 0, none⟩)] g 0 cv R.toArray w eg hcmp (holdsF h) hg3 (by simp; omega)
    change Calls Tryz.prog 58 _ _ _ at hcon
    rw [show R.toArray.size = R.length by simp] at hcon
    refine hcon.mono ?_
    rintro e w' ⟨he, d', n, os, ⟨hs, -, hp⟩, hso, rfl⟩
    have hs2 : d'.size = R.length := by simpa using hs
    refine ⟨he, d'.toList, ?_, ?_, ⟨g, fun _ => rfl, cells_holdsF (holdsK_sortWorldK enc2 2 w g 0 n R.toArray d' os hg3 (holdsF h) hs)⟩, ?_⟩
    · have e1 : (d'.extract 0 R.length).toList = d'.toList := by rw [← hs2]; simp
      have e2 : (R.toArray.extract 0 R.length).toList = R := by simp
      rw [e1, e2] at hp
      exact hp
    · intro i j hij hj
      have hj2 : j < d'.size := by simpa using hj
      have := hso i j (Nat.zero_le _) hij (by omega)
      rw [ltF, decide_eq_false_iff_not, cmp_lt] at this
      have e1 : gp d'.toList i = d'[i]! := by unfold gp; rw [getElem!_pos d' i (by omega)]; simp [show i < d'.size by omega]
      have e2 : gp d'.toList j = d'[j]! := by unfold gp; rw [getElem!_pos d' j hj2]; simp [hj2]
      rw [e1, e2]
      omega
    · have b1 : Below base w (Sort.putRowK enc2 2 (Sort.ahead w n) g 0 d') := Lib.below_putRow (Below.refl _ _) hg
      exact b1.trans (by
        have := Lib.below_grow base (Sort.putRowK enc2 2 (Sort.ahead w n) g 0 d') (by have := b1.size; omega) 0 os
        exact this)
theorem by0F_r (Fb : Nat) (w : World) : Calls Tryz.prog 59 #[.slice (some ⟨Fb, 0, none⟩) 1 1] w fun e w' => ∃ B, e = .returned (.func (.func 100) #[] #[.pointer (some ⟨B, 0, none⟩)]) ∧ w.heap.size ≤ B ∧ w'.cell? ⟨B, 0, none⟩ = some (.slice (some ⟨Fb, 0, none⟩) 1 1) ∧ Below w.heap.size w w' := by
  go_enter Tryz.func59, Tryz.ntmps59
  go_wp2_with fail
  go_ret
  exact ⟨w.heap.size, rfl, Nat.le_refl _, by simp [go_sem], (Below.refl _ _).alloc (Nat.le_refl _) _⟩
end Go.Proofs.YtlpdjinhkmgbgaaGreatDoor

namespace Go.Proofs.YtlpdjinhkmgbgaaGreatDoor
set_option linter.unusedVariables false
set_option linter.unusedSimpArgs false
open Go.RowKit

/-- An inspector in memory. -/
def InsB (L : Int) (js : List Int) (dir h : Int) (l : List Sgn) (w : World) (g : Nat) (row : List Pst) (ar : Option Addr) (cr : Nat) : Prop :=
  RowL L js dir h l row ∧ row.length ≤ l.length ∧ PstS w ar row ∧ w.cell? ⟨g, 0, none⟩ = some (.int .i64 L) ∧ w.cell? ⟨g, 1, none⟩ = some (.slice ar row.length cr)
/-- The faults found behind k directions. -/
def FltM (L : Int) (js : List Int) (h : Int) (l : List Sgn) : Nat → List Flt → Prop
  | 0, M => M = []
  | 1, M => ∃ row, RowL L js 1 h l row ∧ M = fltK L row row.length
  | _ + 2, M => ∃ r1 r2, RowL L js 1 h l r1 ∧ RowL L js (-1) h l r2 ∧ M = fltK L r1 r1.length ++ fltK L r2 r2.length
/-- Faults comes back. -/
def FauE (L : Int) (js : List Int) (h : Int) (l : List Sgn) (w : World) (e : Ending) (w' : World) : Prop :=
  ∃ (M S : List Flt) (b : Option Addr) (c : Nat), FltM L js h l 2 M ∧ S.Perm M ∧ (∀ i j, i < j → j < S.length → (gp S i).1 ≤ (gp S j).1) ∧ e = .returned (.tuple #[.slice b S.length c, .int .i64 0]) ∧ PairsS w' b S ∧ Below w.heap.size w w'
theorem rowL_bd {L : Int} {js : List Int} {dir h : Int} {l : List Sgn} {row : List Pst} (hL1 : 0 ≤ L) (hL2 : L ≤ 100000) (hC : ∀ j, j < l.length → (0 ≤ (gs l j).c ∧ (gs l j).c ≤ 100000) ∧ 0 ≤ (gs l j).v ∧ (gs l j).v ≤ 100000) (H : RowL L js dir h l row) : ∀ i, i < row.length → (-100000 ≤ (gq row i).d ∧ (gq row i).d ≤ 100000) ∧ -100000 ≤ (gq row i).s.v ∧ (gq row i).s.v ≤ 100000 := fun i hi => by
  obtain ⟨e1, ⟨j, hj, e2, -⟩, -, -⟩ := row_elem H i hi
  have := hC j hj
  rw [← e2] at this
  have hd := dst_bd (L := L) (dir := dir) hL1 hL2 this.1.1 this.1.2
  rw [e1]
  omega
theorem fltM_n {L : Int} {js : List Int} {h : Int} {l : List Sgn} {M : List Flt} (hn : ∀ k, k < l.length → 1 ≤ (gs l k).n ∧ (gs l k).n ≤ 1000000000) (H : FltM L js h l 2 M) : ∀ x, x ∈ M → (1 ≤ x.1 ∧ x.1 ≤ 1000000000) ∧ 0 ≤ x.2 ∧ x.2 ≤ 4 := by
  have one : ∀ dir row, RowL L js dir h l row → ∀ x, x ∈ fltK L row row.length → (1 ≤ x.1 ∧ x.1 ≤ 1000000000) ∧ 0 ≤ x.2 ∧ x.2 ≤ 4 := fun dir row hR x hx => by
    obtain ⟨i, hi, e⟩ := fltK_mem hx
    obtain ⟨-, ⟨j, hj, e2, -⟩, -, -⟩ := row_elem hR i hi
    have h1 := hn j hj
    rw [← e2] at h1
    have h2 := codP_bd L row (gq row i)
    rw [e]
    exact ⟨h1, h2⟩
  obtain ⟨r1, r2, h1, h2, rfl⟩ := H
  intro x hx
  rw [List.mem_append] at hx
  rcases hx with hx | hx
  · exact one _ _ h1 x hx
  · exact one _ _ h2 x hx
theorem ins_set0 {w : World} {B : Nat} {x y : Int} {a b : Option Addr} {n c n2 c2 : Nat} {T : TypeId} {fr : Nat × Nat} (h : w.heap[B]? = some (.cells #[.int .i64 x, .slice a n c] T fr)) : ((w.setCell ⟨B, 0, none⟩ (.int .i64 y)).setCell ⟨B, 1, none⟩ (.slice b n2 c2)).cell? ⟨B, 0, none⟩ = some (.int .i64 y) := by
  have hc : w.cell? ⟨B, 0, none⟩ = some (.int .i64 x) := by rw [World.cell?, h]; rfl
  have hB := block_lt hc
  simp [go_sem, hc]
theorem ins_set1 {w : World} {B : Nat} {x y : Int} {a b : Option Addr} {n c n2 c2 : Nat} {T : TypeId} {fr : Nat × Nat} (h : w.heap[B]? = some (.cells #[.int .i64 x, .slice a n c] T fr)) : ((w.setCell ⟨B, 0, none⟩ (.int .i64 y)).setCell ⟨B, 1, none⟩ (.slice b n2 c2)).cell? ⟨B, 1, none⟩ = some (.slice b n2 c2) := by
  have hc : w.cell? ⟨B, 1, none⟩ = some (.slice a n c) := by rw [World.cell?, h]; rfl
  have hB := block_lt hc
  simp [go_sem, hc]
theorem ins_no {w : World} {B : Nat} {x : Int} {a : Option Addr} {n c : Nat} {T : TypeId} {fr : Nat × Nat} (h : w.heap[B]? = some (.cells #[.int .i64 x, .slice a n c] T fr)) {o : Nat} {k k' : IntKind} {m m' : Int} (h1 : w.cell? ⟨B, o, none⟩ = some (.int k m)) (h2 : w.cell? ⟨B, o + 1, none⟩ = some (.int k' m')) : False := by
  rw [World.cell?, h] at h1 h2
  rcases o with _ | _ | o <;> simp at h1 h2
theorem pairs_far2 {w w' : World} {a : Option Addr} {l : List (Int × Int)} (h : PairsS w a l) (B : Nat) (hB : ∀ o k n k' n', w.cell? ⟨B, o, none⟩ = some (.int k n) → w.cell? ⟨B, o + 1, none⟩ = some (.int k' n') → False) (hf : ∀ b, b ≠ B → w'.heap[b]? = w.heap[b]?) : PairsS w' a l := by
  obtain ⟨h0, h1, blk, off, h2, h3⟩ := h
  refine ⟨h0, h1, blk, off, h2, fun i hi => ?_⟩
  obtain ⟨c0, c1⟩ := h3 i hi
  have hb := hf blk (by rintro rfl; exact hB _ _ _ _ _ c0 c1)
  exact ⟨(World.cell?_of_block (w := w) (w' := w') (a := ⟨blk, off + i * 2, none⟩) hb).trans c0, (World.cell?_of_block (w := w) (w' := w') (a := ⟨blk, off + i * 2 + 1, none⟩) hb).trans c1⟩
theorem pst_far2 {w w' : World} {a : Option Addr} {l : List Pst} (h : PstS w a l) (B : Nat) (hB : ∀ o k n k' n', w.cell? ⟨B, o, none⟩ = some (.int k n) → w.cell? ⟨B, o + 1, none⟩ = some (.int k' n') → False) (hf : ∀ b, b ≠ B → w'.heap[b]? = w.heap[b]?) : PstS w' a l := by
  obtain ⟨h0, blk, off, ad, cp, h2, h3⟩ := h
  refine ⟨h0, blk, off, ad, cp, h2, fun i hi => ?_⟩
  obtain ⟨⟨⟨c0, c1, c2, c3, c4, c5, c6, c7⟩, c8, c9, c10, c11⟩, hp⟩ := h3 i hi
  have hb := hf blk (by rintro rfl; exact hB _ _ _ _ _ c0 c1)
  have t : ∀ o v, w.cell? ⟨blk, o, none⟩ = some v → w'.cell? ⟨blk, o, none⟩ = some v := fun o v hc => (World.cell?_of_block (w := w) (w' := w') (a := ⟨blk, o, none⟩) hb).trans hc
  exact ⟨⟨⟨t _ _ c0, t _ _ c1, t _ _ c2, t _ _ c3, t _ _ c4, t _ _ c5, t _ _ c6, t _ _ c7⟩, t _ _ c8, t _ _ c9, t _ _ c10, t _ _ c11⟩, pairs_far2 hp B hB hf⟩
theorem app_faults {ops : Array Oper} {rest : List Oper} {o : Oper} {a : Act} {Q : Exit → Act → World → Prop} (w : World) (hgd : o.guard = none) (s x : Operand)
    (ho : o.op = .call { callee := .builtin .append, args := #[s, x], argTypes := #[62, 62] })
    (base : Nat) (b : Option Addr) (n c : Nat) (xs : List Value) (hs : a.eval s = .slice b n c) (hown : w.ownsRow base 113 2 (.slice b n c) n xs)
    (b2 : Nat) (ax : Option Addr) (l : List Flt) (cx : Nat) (hx : a.eval x = .slice ax l.length cx) (hP : w.ownsRow b2 113 2 (.slice ax l.length cx) l.length (cl2 l)) (hlen : n + l.length ≤ 100000000) (hbase : base ≤ w.heap.size)
    (h : ∀ b' c' w', w'.ownsRow base 113 2 (.slice b' (n + l.length) c') (n + l.length) (xs ++ cl2 l) → Below base w w' → wpList Tryz.prog ops Q rest (a.put o.dst (.slice b' (n + l.length) c')) w') : wpList Tryz.prog ops Q (o :: rest) a w := by
  obtain ⟨n0, hi, hz0, hz1, hz2⟩ := info_parts infoF
  by_cases h0 : l.length = 0
  · have hl := List.eq_nil_of_length_eq_zero h0
    subst hl
    refine wpList_append_zed hgd s x 62 ho base 113 n0 2 Tryz.underlying62 hi (.slice b n c) n xs hs hown ax cx hx ?_
    have := h b c w (by rw [show cl2 [] = [] from rfl, List.append_nil]; exact hown) (Below.refl _ _)
    exact this
  · obtain ⟨g, c2, h1, -, -⟩ := World.ownsRow.form hP (by omega)
    obtain ⟨rfl, rfl⟩ : ax = some ⟨g, 0, none⟩ ∧ cx = c2 := by simpa using h1
    refine wpList_append_lies w hgd s x 62 ho base 113 n0 _ 2 16 Tryz.underlying62 hi hz0 hz1 hz2 rfl (by decide) (.slice b n c) n xs hs hown ⟨g, 0, none⟩ l.length cx (cl2 l) hx (by rw [cl2_len]) (fun j u hu => ?_) (cl2_one l) (by omega) (by unfold maxLen; omega) (by omega) hbase _ rfl ?_
    · have hj : j < l.length * 2 := by rw [← cl2_len]; exact (List.getElem?_eq_some_iff.1 hu).1
      rw [Addr.add_lit, Nat.zero_add]
      exact (World.ownsRow.cellAt hP j hj).trans hu
    · intro g cap w' h1 h2 _ _
      exact h _ _ _ h1 ((Below.refl _ _).grown h2 hbase (fun z hz => owns_blockI hown hz))
set_option maxRecDepth 100000 in
set_option maxHeartbeats 4000000 in
theorem Faults_good (L : Int) (a : Option Addr) (js : List Int) (ca : Nat) (aa : Option Addr) (l : List Sgn) (cl : Nat) (h : Int) (hV : lstE L js l [] = 0) (h0 : btw h 0 10000000 = true) (w : World) (hI : IntsS w a js) (hA : SgnS w aa l) :
    Calls Tryz.prog 24 #[.agg #[.int .i64 L, .slice a js.length ca], .slice aa l.length cl, .int .i64 h] w (FauE L js h l w) := by
  obtain ⟨hLb, hJ, hC, hn⟩ := lst_good hV
  have hns := (sgn_nums (lst_sgns hV)).1
  have H1 := Lib.hid (fun W (hW : Below w.heap.size w W) => by
    have := listsError_r L a js ca aa l cl none [] 0 W (hI.below hW) (hA.below hW) (ed_nilR W)
    rw [hV] at this
    exact this)
  have K0 := Lib.hid (fun W => h0 ▸ isHour_r h W)
  have HR := Lib.hid (fun dir W (hW : Below w.heap.size w W) => (rowOf_r L a js ca aa l cl h dir hLb.1 hLb.2 hJ (fun j hj => by have := hC j hj; omega) hn W (hI.below hW) (hA.below hW)).mono fun e w' H => rowF_of hLb.1 hLb.2 hJ hC H)
  have HBd := Lib.hid (fun dir row (H : RowL L js dir h l row) => rowL_bd hLb.1 hLb.2 hC H)
  have HLb := Lib.hid hLb
  have HN := Lib.hid hn
  have HFn := Lib.hid (fun M (H : FltM L js h l 2 M) => fltM_n hns H)
  clear hI hA hV h0 hJ hC hLb hn hns
  go_enter Tryz.func24, Tryz.ntmps24
  go_wp2_with fail
  obtain ⟨wB, hwB⟩ : ∃ wB, w.alloc (.cells #[.int .i64 L, .slice a js.length ca] 24) = wB := ⟨_, rfl⟩
  have hb : Below w.heap.size w wB := by rw [← hwB]; exact (Below.refl _ _).alloc (Nat.le_refl _) _
  have l0 : wB.cell? ⟨w.heap.size, 0, none⟩ = some (.int .i64 L) := by rw [← hwB]; simp [go_sem]
  have l1 : wB.cell? ⟨w.heap.size, 1, none⟩ = some (.slice a js.length ca) := by rw [← hwB]; simp [go_sem]
  rw [hwB]
  clear hwB
  go_wp2_with (first | (go_at_call 27; refine (H1.out _ hb).mono ?_; rintro e w1 ⟨rfl, hb1⟩; replace hb := hb.trans (hb1.mono hb.size); replace l0 := cell_below l0 hb1; replace l1 := cell_below l1 hb1; clear hb1) | (go_at_call 28; refine (K0.out _).mono ?_; rintro e w2 ⟨rfl, rfl⟩))
  have HB := Lib.hid hb
  have L0 := Lib.hid l0
  have L1 := Lib.hid l1
  obtain ⟨wo, rfl⟩ : ∃ wo : World, wo = w1 := ⟨_, rfl⟩
  clear hb l0 l1 H1 K0
  go_loopw [9, 23] (fun v i9 wr => ∃ (k : Nat) (M : List Flt), k ≤ 2 ∧ i9 = .int .i64 k ∧ (∃ a c, v = .slice a M.length c) ∧ Hid (wr.ownsRow wo.heap.size 113 2 v M.length (cl2 M)) ∧ Hid (FltM L js h l k M) ∧ M.length ≤ 1000 * k ∧ Below wo.heap.size wo wr) (fun _ i9 _ => 2 - (intOf i9).toNat)
  case atStart => exact ⟨0, [], by omega, rfl, ⟨none, 0, rfl⟩, Lib.hid ⟨rfl, .inl ⟨rfl, rfl⟩⟩, Lib.hid rfl, by simp, Below.refl _ _⟩
  case round =>
    obtain ⟨k, M, hk, rfl, ⟨av, cv, rfl⟩, HRow, HM, hMl, hbr⟩ := hrel
    have hbw := HB.out.trans (hbr.mono HB.out.size)
    have hz0 := block_lt (cell_below L0.out hbr)
    have i0 : ∀ w, (Instr.index 80 (.agg #[.int .i64 1, .int .i64 (-1)]) (.int .i64 0)).run Tryz.prog w = .ok (.int .i64 1) w := fun _ => by kernel_rfl
    have i1 : ∀ w, (Instr.index 80 (.agg #[.int .i64 1, .int .i64 (-1)]) (.int .i64 1)).run Tryz.prog w = .ok (.int .i64 (-1)) w := fun _ => by kernel_rfl
    rcases (by omega : k = 0 ∨ k = 1 ∨ k = 2) with rfl | rfl | rfl
    · skip
      go_upto_region 10 with (fail)
      have HRX := Lib.hid (fun W (hW : Below wr.heap.size wr W) => HR.out 1 W (hbw.trans (hW.mono hbw.size)))
      have l0 := cell_below L0.out hbr
      have l1 := cell_below L1.out hbr
      go_cut [12] (fun v wx => ∃ (g : Nat) (row : List Pst) (ar : Option Addr) (cr : Nat), v = .pointer (some ⟨g, 0, none⟩) ∧ wr.heap.size ≤ g ∧ Hid (InsB L js 1 h l wx g row ar cr) ∧ Below wr.heap.size wr wx)
      case first =>
        refine wp_region_held_drew (S := fun w' => Below wr.heap.size wr w') (by kernel_rfl) ((Below.refl _ _).drew) (fun hHeld => ?_)
        refine takeU (i := 0) (some 26) (.pointer (some ⟨w.heap.size, 0, none⟩)) (by kernel_rfl) (by kernel_rfl) (by kernel_rfl) (by kernel_rfl) (by kernel_rfl) (fun _ => by kernel_rfl) (fun _ _ _ h => h) hHeld ?_
        refine wpAnyH_take (i := 1) (oi := { dst := some 27, op := Go.Op.load 3 (Go.Operand.tmp 26), type := 3, pos := "fault.go:25", after := #[{ on := 0, ground := Go.Ground.data }], guard := none }) (v := .int .i64 L) rfl (by kernel_rfl) (by kernel_rfl) (by kernel_rfl) (fun _ _ _ h => h) (.inl ⟨by kernel_rfl, fun w9 h9 => by
          clear hHeld
          have d0 := (h9.cell (p := ⟨w.heap.size, 0, none⟩) hz0).trans l0
          clear h9
          go_simp⟩) hHeld ?_
        refine wpAnyH_take (i := 2) (oi := { dst := some 28, op := Go.Op.load 24 (Go.Operand.tmp 3), type := 24, pos := "fault.go:25", after := #[], guard := none }) (v := .agg #[.int .i64 L, .slice a js.length ca]) rfl (by kernel_rfl) (by kernel_rfl) (by kernel_rfl) (fun _ _ _ h => h) (.inl ⟨by kernel_rfl, fun w9 h9 => by
          clear hHeld
          have d0 := (h9.cell (p := ⟨w.heap.size, 0, none⟩) hz0).trans l0
          have d1 := (h9.cell (p := ⟨w.heap.size, 1, none⟩) hz0).trans l1
          clear h9
          go_simp⟩) hHeld ?_
        refine takeU (i := 3) (some 29) (.slice aa l.length cl) (by kernel_rfl) (by kernel_rfl) (by kernel_rfl) (by kernel_rfl) (by kernel_rfl) (fun _ => by kernel_rfl) (fun _ _ _ h => h) hHeld ?_
        refine takeU (i := 4) (some 30) (.int .i64 h) (by kernel_rfl) (by kernel_rfl) (by kernel_rfl) (by kernel_rfl) (by kernel_rfl) (fun _ => by kernel_rfl) (fun _ _ _ h => h) hHeld ?_
        refine takeU (i := 5) (some 31) (.int .i64 1) (by kernel_rfl) (by kernel_rfl) (by kernel_rfl) (by kernel_rfl) (by kernel_rfl) (fun _ => by kernel_rfl) (fun _ _ _ h => h) hHeld ?_
        try simp only [Act.put, List.setIfInBounds_toArray, List.set_cons_zero, List.set_cons_succ]
        refine wpAnyH_ready (rs := [6, 8]) (by kernel_rfl) (by simp) ?_
        refine AllReadyH.cons (o := { dst := some 32, op := Go.Op.call { callee := Go.Callee.value (Go.Operand.func 50), args := #[Go.Operand.tmp 28, Go.Operand.tmp 29, Go.Operand.tmp 30, Go.Operand.tmp 31], argTypes := #[24, 25, 3, 3] }, type := 99, pos := "fault.go:25", after := #[{ on := 2, ground := Go.Ground.data }, { on := 3, ground := Go.Ground.data }, { on := 4, ground := Go.Ground.data }, { on := 5, ground := Go.Ground.data }], guard := none }) rfl (fun K hK => ?_) (AllReadyH.cons (o := { dst := some 12, op := Go.Op.alloc 108, type := 0, pos := "fault.go:25", after := #[], guard := none }) rfl (fun K hK => ?_) AllReadyH.nil)
        · go_simp
          go_at_call 50
          refine (HRX.out _ hHeld).mono ?_
          rintro e w69 ⟨row, ar, cr, hRL, hrl, hbd, rfl, hP, hb69⟩
          have HP := Lib.hid hP
          have HRL := Lib.hid hRL
          have HRl := Lib.hid hrl
          clear hP hRL hbd hrl
          refine hK.out _ _ (hHeld.trans (hb69.mono hHeld.size)) (fun hHeld => ?_)
          clear hK K hb69
          try simp only [Act.put, List.setIfInBounds_toArray, List.set_cons_zero, List.set_cons_succ]
          refine takeU (i := 7) (some 33) (.agg #[.int .i64 L, .slice ar row.length cr]) (by kernel_rfl) (by kernel_rfl) (by kernel_rfl) (by kernel_rfl) (by kernel_rfl) (fun _ => by kernel_rfl) (fun _ _ _ h => h) hHeld ?_
          try simp only [Act.put, List.setIfInBounds_toArray, List.set_cons_zero, List.set_cons_succ]
          refine wpAnyH_ready (rs := [8]) (by kernel_rfl) (by simp) ?_
          refine AllReadyH.cons (o := { dst := some 12, op := Go.Op.alloc 108, type := 0, pos := "fault.go:25", after := #[], guard := none }) rfl (fun K hK => ?_) AllReadyH.nil
          go_simp
          have hA0 := hHeld
          refine hK.out _ _ (hHeld.alloc hHeld.size _) (fun hHeld => ?_)
          clear hK K
          try simp only [Act.put, List.setIfInBounds_toArray, List.set_cons_zero, List.set_cons_succ]
          try simp only [Act.put, List.setIfInBounds_toArray, List.set_cons_zero, List.set_cons_succ]
          refine wpAnyH_ready (rs := [9]) (by kernel_rfl) (by simp) ?_
          refine AllReadyH.cons (o := { dst := none, op := Go.Op.store 108 (Go.Operand.tmp 12) (Go.Operand.tmp 33), type := 0, pos := "fault.go:25", after := #[{ on := 8, ground := Go.Ground.data }, { on := 7, ground := Go.Ground.data }, { on := 6, ground := Go.Ground.chain }, { on := 0, ground := Go.Ground.phase }, { on := 1, ground := Go.Ground.phase }, { on := 2, ground := Go.Ground.phase }, { on := 3, ground := Go.Ground.phase }, { on := 4, ground := Go.Ground.phase }, { on := 5, ground := Go.Ground.phase }, { on := 6, ground := Go.Ground.phase }, { on := 7, ground := Go.Ground.phase }, { on := 8, ground := Go.Ground.phase }], guard := none }) rfl (fun K hK => ?_) AllReadyH.nil
          go_simp
          refine hK.out _ _ (hA0.alloc hA0.size _) (fun hHeld => ?_)
          clear hK K
          try simp only [Act.put, List.setIfInBounds_toArray, List.set_cons_zero, List.set_cons_succ]
          refine wpAnyH_done (by kernel_rfl) ?_ _
          try simp only [Act.put, List.setIfInBounds_toArray, List.set_cons_zero, List.set_cons_succ]
          go_wp2_with fail
          go_meet
          exact ⟨w69.heap.size, row, ar, cr, rfl, hA0.size, Lib.hid ⟨HRL.out, HRl.out, HP.out.below ((Below.refl _ _).alloc (Nat.le_refl _) _), by simp [go_sem], by simp [go_sem]⟩, hHeld⟩
        · go_simp
          have hA0 := hHeld
          refine hK.out _ _ (hHeld.alloc hHeld.size _) (fun hHeld => ?_)
          clear hK K
          try simp only [Act.put, List.setIfInBounds_toArray, List.set_cons_zero, List.set_cons_succ]
          try simp only [Act.put, List.setIfInBounds_toArray, List.set_cons_zero, List.set_cons_succ]
          refine wpAnyH_ready (rs := [6]) (by kernel_rfl) (by simp) ?_
          refine AllReadyH.cons (o := { dst := some 32, op := Go.Op.call { callee := Go.Callee.value (Go.Operand.func 50), args := #[Go.Operand.tmp 28, Go.Operand.tmp 29, Go.Operand.tmp 30, Go.Operand.tmp 31], argTypes := #[24, 25, 3, 3] }, type := 99, pos := "fault.go:25", after := #[{ on := 2, ground := Go.Ground.data }, { on := 3, ground := Go.Ground.data }, { on := 4, ground := Go.Ground.data }, { on := 5, ground := Go.Ground.data }], guard := none }) rfl (fun K hK => ?_) AllReadyH.nil
          go_simp
          go_at_call 50
          refine (HRX.out _ hHeld).mono ?_
          rintro e w69 ⟨row, ar, cr, hRL, hrl, hbd, rfl, hP, hb69⟩
          have HP := Lib.hid hP
          have HRL := Lib.hid hRL
          have HRl := Lib.hid hrl
          clear hP hRL hbd hrl
          have a0 := cell_below (show (wr.drew.alloc (.cells #[.int .i64 0, .slice none 0 0] 108)).cell? ⟨wr.heap.size, 0, none⟩ = some (.int .i64 0) from by simp [go_sem]) hb69
          have a1 := cell_below (show (wr.drew.alloc (.cells #[.int .i64 0, .slice none 0 0] 108)).cell? ⟨wr.heap.size, 1, none⟩ = some (.slice none 0 0) from by simp [go_sem]) hb69
          have f0 := (hb69.frozen (p := ⟨wr.heap.size, 0, none⟩) (by simp)).trans (show (wr.drew.alloc (.cells #[.int .i64 0, .slice none 0 0] 108)).frozen? ⟨wr.heap.size, 0, none⟩ = false from by simp [go_sem])
          have f1 := (hb69.frozen (p := ⟨wr.heap.size, 1, none⟩) (by simp)).trans (show (wr.drew.alloc (.cells #[.int .i64 0, .slice none 0 0] 108)).frozen? ⟨wr.heap.size, 1, none⟩ = false from by simp [go_sem])
          have HBk := Lib.hid ((hb69.block wr.heap.size (by simp)).trans (show (wr.drew.alloc (.cells #[.int .i64 0, .slice none 0 0] 108)).heap[wr.heap.size]? = some (.cells #[.int .i64 0, .slice none 0 0] 108) from by have := heap_alloc_new wr.drew (.cells #[.int .i64 0, .slice none 0 0] 108); simpa using this))
          refine hK.out _ _ (hHeld.trans (hb69.mono hHeld.size)) (fun hHeld => ?_)
          clear hK K hb69
          try simp only [Act.put, List.setIfInBounds_toArray, List.set_cons_zero, List.set_cons_succ]
          refine takeU (i := 7) (some 33) (.agg #[.int .i64 L, .slice ar row.length cr]) (by kernel_rfl) (by kernel_rfl) (by kernel_rfl) (by kernel_rfl) (by kernel_rfl) (fun _ => by kernel_rfl) (fun _ _ _ h => h) hHeld ?_
          try simp only [Act.put, List.setIfInBounds_toArray, List.set_cons_zero, List.set_cons_succ]
          refine wpAnyH_ready (rs := [9]) (by kernel_rfl) (by simp) ?_
          refine AllReadyH.cons (o := { dst := none, op := Go.Op.store 108 (Go.Operand.tmp 12) (Go.Operand.tmp 33), type := 0, pos := "fault.go:25", after := #[{ on := 8, ground := Go.Ground.data }, { on := 7, ground := Go.Ground.data }, { on := 6, ground := Go.Ground.chain }, { on := 0, ground := Go.Ground.phase }, { on := 1, ground := Go.Ground.phase }, { on := 2, ground := Go.Ground.phase }, { on := 3, ground := Go.Ground.phase }, { on := 4, ground := Go.Ground.phase }, { on := 5, ground := Go.Ground.phase }, { on := 6, ground := Go.Ground.phase }, { on := 7, ground := Go.Ground.phase }, { on := 8, ground := Go.Ground.phase }], guard := none }) rfl (fun K hK => ?_) AllReadyH.nil
          go_simp
          refine hK.out _ _ ((hHeld.setCell (p := ⟨wr.heap.size, 0, none⟩) (Nat.le_refl _) _).setCell (p := ⟨wr.heap.size, 1, none⟩) (Nat.le_refl _) _) (fun hHeld => ?_)
          clear hK K
          try simp only [Act.put, List.setIfInBounds_toArray, List.set_cons_zero, List.set_cons_succ]
          refine wpAnyH_done (by kernel_rfl) ?_ _
          try simp only [Act.put, List.setIfInBounds_toArray, List.set_cons_zero, List.set_cons_succ]
          clear a0 a1 f0 f1
          go_wp2_with fail
          go_meet
          exact ⟨wr.heap.size, row, ar, cr, rfl, Nat.le_refl _, Lib.hid ⟨HRL.out, HRl.out, pst_far2 HP.out wr.heap.size (fun o k n k2 n2 => ins_no HBk.out) (fun b hb => (Below.heap_setCell _ _ _ _ (by simpa using hb)).trans (Below.heap_setCell _ _ _ _ (by simpa using hb))), ins_set0 HBk.out, ins_set1 HBk.out⟩, hHeld⟩
      case rest =>
        obtain ⟨g, row, ar, cr, rfl, hg, HI, hbc⟩ := hcut
        obtain ⟨hRL, hrl, hP, g0, g1⟩ := HI.out
        have hbd := HBd.out 1 row hRL
        have HP := Lib.hid hP
        have hrn : row.length ≤ 1000 := by have := HN.out; omega
        have HFa := Lib.hid (faulty_r L ar row cr HLb.out hbd hrn wc hP)
        have HFl := Lib.hid (fltK_len L row row.length)
        have HMm := HM
        have HNew : Hid (FltM L js h l (0 + 1) (fltK L row row.length)) := Lib.hid (⟨row, hRL, rfl⟩)
        have HRow := Lib.hid (owns_belowI HRow.out hbc)
        have hbx := hbr.trans (hbc.mono hbr.size)
        clear hP hRL hbd HI HRX
        obtain ⟨D, hD⟩ : ∃ D, fltK L row row.length = D := ⟨_, rfl⟩
        rw [hD] at HFa HFl HNew
        clear hD
        have hDl : D.length ≤ 1000 := by have := HFl.out; omega
        go_wp2_with (first | (go_at_call 56; refine HFa.out.mono ?_; rintro e w7 ⟨b7, c7, rfl, hD7, hb7⟩; have HD7 := Lib.hid hD7; have HRow7 := Lib.hid (owns_belowI HRow.out hb7); have hb7w := hbx.trans (hb7.mono hbx.size); clear hD7 hb7) | (at_builtin; go_loud (refine app_faults _ rfl _ _ rfl wo.heap.size av M.length cv (cl2 M) (by rfl) HRow7.out wc.heap.size b7 D c7 (by rfl) HD7.out (by omega) hb7w.size ?_)))
        intro b8 c8 w8 hown8 hb8
        have HO8 := Lib.hid hown8
        have hb8w := hb7w.trans hb8
        clear hown8 hb8
        go_wp2_with fail
        go_roundw
        case rel => exact ⟨0 + 1, M ++ D, by omega, by go_num, ⟨b8, c8, by rw [List.length_append]⟩, Lib.hid (by rw [List.length_append, cl2_app]; exact HO8.out), Lib.hid (by rw [show M = [] from HM.out]; exact HNew.out), by rw [List.length_append]; omega, hb8w⟩
        case measure => simp [intOf]
    · skip
      go_upto_region 10 with (fail)
      have HRX := Lib.hid (fun W (hW : Below wr.heap.size wr W) => HR.out (-1) W (hbw.trans (hW.mono hbw.size)))
      have l0 := cell_below L0.out hbr
      have l1 := cell_below L1.out hbr
      go_cut [12] (fun v wx => ∃ (g : Nat) (row : List Pst) (ar : Option Addr) (cr : Nat), v = .pointer (some ⟨g, 0, none⟩) ∧ wr.heap.size ≤ g ∧ Hid (InsB L js (-1) h l wx g row ar cr) ∧ Below wr.heap.size wr wx)
      case first =>
        refine wp_region_held_drew (S := fun w' => Below wr.heap.size wr w') (by kernel_rfl) ((Below.refl _ _).drew) (fun hHeld => ?_)
        refine takeU (i := 0) (some 26) (.pointer (some ⟨w.heap.size, 0, none⟩)) (by kernel_rfl) (by kernel_rfl) (by kernel_rfl) (by kernel_rfl) (by kernel_rfl) (fun _ => by kernel_rfl) (fun _ _ _ h => h) hHeld ?_
        refine wpAnyH_take (i := 1) (oi := { dst := some 27, op := Go.Op.load 3 (Go.Operand.tmp 26), type := 3, pos := "fault.go:25", after := #[{ on := 0, ground := Go.Ground.data }], guard := none }) (v := .int .i64 L) rfl (by kernel_rfl) (by kernel_rfl) (by kernel_rfl) (fun _ _ _ h => h) (.inl ⟨by kernel_rfl, fun w9 h9 => by
          clear hHeld
          have d0 := (h9.cell (p := ⟨w.heap.size, 0, none⟩) hz0).trans l0
          clear h9
          go_simp⟩) hHeld ?_
        refine wpAnyH_take (i := 2) (oi := { dst := some 28, op := Go.Op.load 24 (Go.Operand.tmp 3), type := 24, pos := "fault.go:25", after := #[], guard := none }) (v := .agg #[.int .i64 L, .slice a js.length ca]) rfl (by kernel_rfl) (by kernel_rfl) (by kernel_rfl) (fun _ _ _ h => h) (.inl ⟨by kernel_rfl, fun w9 h9 => by
          clear hHeld
          have d0 := (h9.cell (p := ⟨w.heap.size, 0, none⟩) hz0).trans l0
          have d1 := (h9.cell (p := ⟨w.heap.size, 1, none⟩) hz0).trans l1
          clear h9
          go_simp⟩) hHeld ?_
        refine takeU (i := 3) (some 29) (.slice aa l.length cl) (by kernel_rfl) (by kernel_rfl) (by kernel_rfl) (by kernel_rfl) (by kernel_rfl) (fun _ => by kernel_rfl) (fun _ _ _ h => h) hHeld ?_
        refine takeU (i := 4) (some 30) (.int .i64 h) (by kernel_rfl) (by kernel_rfl) (by kernel_rfl) (by kernel_rfl) (by kernel_rfl) (fun _ => by kernel_rfl) (fun _ _ _ h => h) hHeld ?_
        refine takeU (i := 5) (some 31) (.int .i64 (-1)) (by kernel_rfl) (by kernel_rfl) (by kernel_rfl) (by kernel_rfl) (by kernel_rfl) (fun _ => by kernel_rfl) (fun _ _ _ h => h) hHeld ?_
        try simp only [Act.put, List.setIfInBounds_toArray, List.set_cons_zero, List.set_cons_succ]
        refine wpAnyH_ready (rs := [6, 8]) (by kernel_rfl) (by simp) ?_
        refine AllReadyH.cons (o := { dst := some 32, op := Go.Op.call { callee := Go.Callee.value (Go.Operand.func 50), args := #[Go.Operand.tmp 28, Go.Operand.tmp 29, Go.Operand.tmp 30, Go.Operand.tmp 31], argTypes := #[24, 25, 3, 3] }, type := 99, pos := "fault.go:25", after := #[{ on := 2, ground := Go.Ground.data }, { on := 3, ground := Go.Ground.data }, { on := 4, ground := Go.Ground.data }, { on := 5, ground := Go.Ground.data }], guard := none }) rfl (fun K hK => ?_) (AllReadyH.cons (o := { dst := some 12, op := Go.Op.alloc 108, type := 0, pos := "fault.go:25", after := #[], guard := none }) rfl (fun K hK => ?_) AllReadyH.nil)
        · go_simp
          go_at_call 50
          refine (HRX.out _ hHeld).mono ?_
          rintro e w69 ⟨row, ar, cr, hRL, hrl, hbd, rfl, hP, hb69⟩
          have HP := Lib.hid hP
          have HRL := Lib.hid hRL
          have HRl := Lib.hid hrl
          clear hP hRL hbd hrl
          refine hK.out _ _ (hHeld.trans (hb69.mono hHeld.size)) (fun hHeld => ?_)
          clear hK K hb69
          try simp only [Act.put, List.setIfInBounds_toArray, List.set_cons_zero, List.set_cons_succ]
          refine takeU (i := 7) (some 33) (.agg #[.int .i64 L, .slice ar row.length cr]) (by kernel_rfl) (by kernel_rfl) (by kernel_rfl) (by kernel_rfl) (by kernel_rfl) (fun _ => by kernel_rfl) (fun _ _ _ h => h) hHeld ?_
          try simp only [Act.put, List.setIfInBounds_toArray, List.set_cons_zero, List.set_cons_succ]
          refine wpAnyH_ready (rs := [8]) (by kernel_rfl) (by simp) ?_
          refine AllReadyH.cons (o := { dst := some 12, op := Go.Op.alloc 108, type := 0, pos := "fault.go:25", after := #[], guard := none }) rfl (fun K hK => ?_) AllReadyH.nil
          go_simp
          have hA0 := hHeld
          refine hK.out _ _ (hHeld.alloc hHeld.size _) (fun hHeld => ?_)
          clear hK K
          try simp only [Act.put, List.setIfInBounds_toArray, List.set_cons_zero, List.set_cons_succ]
          try simp only [Act.put, List.setIfInBounds_toArray, List.set_cons_zero, List.set_cons_succ]
          refine wpAnyH_ready (rs := [9]) (by kernel_rfl) (by simp) ?_
          refine AllReadyH.cons (o := { dst := none, op := Go.Op.store 108 (Go.Operand.tmp 12) (Go.Operand.tmp 33), type := 0, pos := "fault.go:25", after := #[{ on := 8, ground := Go.Ground.data }, { on := 7, ground := Go.Ground.data }, { on := 6, ground := Go.Ground.chain }, { on := 0, ground := Go.Ground.phase }, { on := 1, ground := Go.Ground.phase }, { on := 2, ground := Go.Ground.phase }, { on := 3, ground := Go.Ground.phase }, { on := 4, ground := Go.Ground.phase }, { on := 5, ground := Go.Ground.phase }, { on := 6, ground := Go.Ground.phase }, { on := 7, ground := Go.Ground.phase }, { on := 8, ground := Go.Ground.phase }], guard := none }) rfl (fun K hK => ?_) AllReadyH.nil
          go_simp
          refine hK.out _ _ (hA0.alloc hA0.size _) (fun hHeld => ?_)
          clear hK K
          try simp only [Act.put, List.setIfInBounds_toArray, List.set_cons_zero, List.set_cons_succ]
          refine wpAnyH_done (by kernel_rfl) ?_ _
          try simp only [Act.put, List.setIfInBounds_toArray, List.set_cons_zero, List.set_cons_succ]
          go_wp2_with fail
          go_meet
          exact ⟨w69.heap.size, row, ar, cr, rfl, hA0.size, Lib.hid ⟨HRL.out, HRl.out, HP.out.below ((Below.refl _ _).alloc (Nat.le_refl _) _), by simp [go_sem], by simp [go_sem]⟩, hHeld⟩
        · go_simp
          have hA0 := hHeld
          refine hK.out _ _ (hHeld.alloc hHeld.size _) (fun hHeld => ?_)
          clear hK K
          try simp only [Act.put, List.setIfInBounds_toArray, List.set_cons_zero, List.set_cons_succ]
          try simp only [Act.put, List.setIfInBounds_toArray, List.set_cons_zero, List.set_cons_succ]
          refine wpAnyH_ready (rs := [6]) (by kernel_rfl) (by simp) ?_
          refine AllReadyH.cons (o := { dst := some 32, op := Go.Op.call { callee := Go.Callee.value (Go.Operand.func 50), args := #[Go.Operand.tmp 28, Go.Operand.tmp 29, Go.Operand.tmp 30, Go.Operand.tmp 31], argTypes := #[24, 25, 3, 3] }, type := 99, pos := "fault.go:25", after := #[{ on := 2, ground := Go.Ground.data }, { on := 3, ground := Go.Ground.data }, { on := 4, ground := Go.Ground.data }, { on := 5, ground := Go.Ground.data }], guard := none }) rfl (fun K hK => ?_) AllReadyH.nil
          go_simp
          go_at_call 50
          refine (HRX.out _ hHeld).mono ?_
          rintro e w69 ⟨row, ar, cr, hRL, hrl, hbd, rfl, hP, hb69⟩
          have HP := Lib.hid hP
          have HRL := Lib.hid hRL
          have HRl := Lib.hid hrl
          clear hP hRL hbd hrl
          have a0 := cell_below (show (wr.drew.alloc (.cells #[.int .i64 0, .slice none 0 0] 108)).cell? ⟨wr.heap.size, 0, none⟩ = some (.int .i64 0) from by simp [go_sem]) hb69
          have a1 := cell_below (show (wr.drew.alloc (.cells #[.int .i64 0, .slice none 0 0] 108)).cell? ⟨wr.heap.size, 1, none⟩ = some (.slice none 0 0) from by simp [go_sem]) hb69
          have f0 := (hb69.frozen (p := ⟨wr.heap.size, 0, none⟩) (by simp)).trans (show (wr.drew.alloc (.cells #[.int .i64 0, .slice none 0 0] 108)).frozen? ⟨wr.heap.size, 0, none⟩ = false from by simp [go_sem])
          have f1 := (hb69.frozen (p := ⟨wr.heap.size, 1, none⟩) (by simp)).trans (show (wr.drew.alloc (.cells #[.int .i64 0, .slice none 0 0] 108)).frozen? ⟨wr.heap.size, 1, none⟩ = false from by simp [go_sem])
          have HBk := Lib.hid ((hb69.block wr.heap.size (by simp)).trans (show (wr.drew.alloc (.cells #[.int .i64 0, .slice none 0 0] 108)).heap[wr.heap.size]? = some (.cells #[.int .i64 0, .slice none 0 0] 108) from by have := heap_alloc_new wr.drew (.cells #[.int .i64 0, .slice none 0 0] 108); simpa using this))
          refine hK.out _ _ (hHeld.trans (hb69.mono hHeld.size)) (fun hHeld => ?_)
          clear hK K hb69
          try simp only [Act.put, List.setIfInBounds_toArray, List.set_cons_zero, List.set_cons_succ]
          refine takeU (i := 7) (some 33) (.agg #[.int .i64 L, .slice ar row.length cr]) (by kernel_rfl) (by kernel_rfl) (by kernel_rfl) (by kernel_rfl) (by kernel_rfl) (fun _ => by kernel_rfl) (fun _ _ _ h => h) hHeld ?_
          try simp only [Act.put, List.setIfInBounds_toArray, List.set_cons_zero, List.set_cons_succ]
          refine wpAnyH_ready (rs := [9]) (by kernel_rfl) (by simp) ?_
          refine AllReadyH.cons (o := { dst := none, op := Go.Op.store 108 (Go.Operand.tmp 12) (Go.Operand.tmp 33), type := 0, pos := "fault.go:25", after := #[{ on := 8, ground := Go.Ground.data }, { on := 7, ground := Go.Ground.data }, { on := 6, ground := Go.Ground.chain }, { on := 0, ground := Go.Ground.phase }, { on := 1, ground := Go.Ground.phase }, { on := 2, ground := Go.Ground.phase }, { on := 3, ground := Go.Ground.phase }, { on := 4, ground := Go.Ground.phase }, { on := 5, ground := Go.Ground.phase }, { on := 6, ground := Go.Ground.phase }, { on := 7, ground := Go.Ground.phase }, { on := 8, ground := Go.Ground.phase }], guard := none }) rfl (fun K hK => ?_) AllReadyH.nil
          go_simp
          refine hK.out _ _ ((hHeld.setCell (p := ⟨wr.heap.size, 0, none⟩) (Nat.le_refl _) _).setCell (p := ⟨wr.heap.size, 1, none⟩) (Nat.le_refl _) _) (fun hHeld => ?_)
          clear hK K
          try simp only [Act.put, List.setIfInBounds_toArray, List.set_cons_zero, List.set_cons_succ]
          refine wpAnyH_done (by kernel_rfl) ?_ _
          try simp only [Act.put, List.setIfInBounds_toArray, List.set_cons_zero, List.set_cons_succ]
          clear a0 a1 f0 f1
          go_wp2_with fail
          go_meet
          exact ⟨wr.heap.size, row, ar, cr, rfl, Nat.le_refl _, Lib.hid ⟨HRL.out, HRl.out, pst_far2 HP.out wr.heap.size (fun o k n k2 n2 => ins_no HBk.out) (fun b hb => (Below.heap_setCell _ _ _ _ (by simpa using hb)).trans (Below.heap_setCell _ _ _ _ (by simpa using hb))), ins_set0 HBk.out, ins_set1 HBk.out⟩, hHeld⟩
      case rest =>
        obtain ⟨g, row, ar, cr, rfl, hg, HI, hbc⟩ := hcut
        obtain ⟨hRL, hrl, hP, g0, g1⟩ := HI.out
        have hbd := HBd.out (-1) row hRL
        have HP := Lib.hid hP
        have hrn : row.length ≤ 1000 := by have := HN.out; omega
        have HFa := Lib.hid (faulty_r L ar row cr HLb.out hbd hrn wc hP)
        have HFl := Lib.hid (fltK_len L row row.length)
        have HMm := HM
        have HNew : Hid (FltM L js h l (1 + 1) (M ++ fltK L row row.length)) := Lib.hid (by obtain ⟨r1, hr1, e1⟩ := HM.out; exact ⟨r1, row, hr1, hRL, by rw [e1]⟩)
        have HRow := Lib.hid (owns_belowI HRow.out hbc)
        have hbx := hbr.trans (hbc.mono hbr.size)
        clear hP hRL hbd HI HRX
        obtain ⟨D, hD⟩ : ∃ D, fltK L row row.length = D := ⟨_, rfl⟩
        rw [hD] at HFa HFl HNew
        clear hD
        have hDl : D.length ≤ 1000 := by have := HFl.out; omega
        go_wp2_with (first | (go_at_call 56; refine HFa.out.mono ?_; rintro e w7 ⟨b7, c7, rfl, hD7, hb7⟩; have HD7 := Lib.hid hD7; have HRow7 := Lib.hid (owns_belowI HRow.out hb7); have hb7w := hbx.trans (hb7.mono hbx.size); clear hD7 hb7) | (at_builtin; go_loud (refine app_faults _ rfl _ _ rfl wo.heap.size av M.length cv (cl2 M) (by rfl) HRow7.out wc.heap.size b7 D c7 (by rfl) HD7.out (by omega) hb7w.size ?_)))
        intro b8 c8 w8 hown8 hb8
        have HO8 := Lib.hid hown8
        have hb8w := hb7w.trans hb8
        clear hown8 hb8
        go_wp2_with fail
        go_roundw
        case rel => exact ⟨1 + 1, M ++ D, by omega, by go_num, ⟨b8, c8, by rw [List.length_append]⟩, Lib.hid (by rw [List.length_append, cl2_app]; exact HO8.out), Lib.hid (HNew.out), by rw [List.length_append]; omega, hb8w⟩
        case measure => simp [intOf]
    · have HMn := Lib.hid (HFn.out M HM.out)
      have hsr := hbr.size
      have hq9 : ∀ g, av = some ⟨g, 0, none⟩ → g < wr.heap.size := fun g hg => (World.ownsRow.lt HRow.out g (by rw [hg]; rfl)).2
      have HQ9 := Lib.hid hq9
      clear hq9 HR HBd HFn
      go_wp2_with (first | (go_at_call 59; refine (by0F_r wr.heap.size _).mono ?_; rintro e w2 ⟨B, rfl, hBs, cB, hb2⟩; have f0 := cell_below (show World.cell? (wr.alloc (.cells #[.func (.func 60) #[] #[]] _)) (Addr.mk wr.heap.size 0 none) = some (.func (.func 60) #[] #[]) from by simp [go_sem]) hb2; have hb2w := ((Below.refl wr.heap.size wr).alloc (Nat.le_refl _) _).trans (hb2.mono (by simp)); have HRow2 := Lib.hid (owns_belowI HRow.out hb2w); have HF0 := Lib.hid f0; have HCB := Lib.hid cB; have hBs2 : wr.heap.size < B := (by simp at hBs; omega); clear f0 cB hb2 hBs) | (go_at_call 58; refine (sortF_r wo.heap.size B wr.heap.size cv av M w2 HRow2.out (by omega) HCB.out HF0.out (fun g hg => by have := HQ9.out g hg; omega)).mono ?_; rintro e w3 ⟨rfl, S, hS1, hS2, hS3, hb3⟩; have HS := Lib.hid (And.intro hS1 (And.intro hS2 hS3)); have hb3w := hbr.trans ((hb2w.mono hsr).trans hb3); clear hS1 hS2 hS3 hb3))
      go_ret2
      obtain ⟨hS1, hS2, g, hS3, hS4⟩ := HS.out
      have hl := hS1.length_eq
      refine ⟨M, S, av, cv, HM.out, hS1, hS2, by rw [hl]; rfl, ⟨by omega, fun i hi => ?_, g, 0, fun h => hS3 h, fun i hi => by rw [Nat.zero_add]; exact hS4 i hi⟩, HB.out.trans (hb3w.mono HB.out.size)⟩
      have hm : gp S i ∈ S := by unfold gp; rw [List.getD_eq_getElem?_getD, List.getElem?_eq_getElem hi]; exact List.getElem_mem hi
      have := HMn.out _ (hS1.mem_iff.1 hm)
      unfold I64
      omega
end Go.Proofs.YtlpdjinhkmgbgaaGreatDoor

namespace Go.Proofs.YtlpdjinhkmgbgaaGreatDoor
set_option linter.unusedVariables false
set_option linter.unusedSimpArgs false
open Go.RowKit

/-- Does an end end nothing? -/
def idlS (L : Int) (js : List Int) (dir : Int) (R : List Sgn) (s : Sgn) : Bool :=
  (dstK L dir s.c == 0) || !((endB s.k 1 && (hS L js dir 1 (dstK L dir s.c - 1) R 0 != 0)) || (endB s.k 2 && (hS L js dir 2 (dstK L dir s.c - 1) R 0 != 0)))
/-- Is a plate that of the start ahead of it? -/
def minS (R : List Sgn) (i : Nat) : Bool := decide (0 < i) && (((gs R (i - 1)).k == 1 || (gs R (i - 1)).k == 3) && plB R (i - 1))
/-- The fault of sign i of a row, or 0. -/
def codS (L : Int) (js : List Int) (dir : Int) (R : List Sgn) (i : Nat) : Int :=
  if (gs R i).k = 7 then (if minS R i = false ∨ L - dstK L dir (gs R i).c < (gs R i).v then 1 else 0)
  else if (gs R i).k = 6 then (if dstK L dir (gs R i).c = L ∨ hS L js dir 1 (dstK L dir (gs R i).c) R 0 ≠ (gs R i).v then 2 else 0)
  else if (gs R i).k = 2 ∨ (gs R i).k = 4 ∨ (gs R i).k = 5 then (if idlS L js dir R (gs R i) = true then 3 else 0)
  else if (gs R i).k = 1 ∨ (gs R i).k = 3 then (if dstK L dir (gs R i).c = L then 4 else 0) else 0
def fltS (L : Int) (js : List Int) (dir : Int) (R : List Sgn) : Nat → List Flt
  | 0 => []
  | k + 1 => if codS L js dir R k = 0 then fltS L js dir R k else fltS L js dir R k ++ [((gs R k).n, codS L js dir R k)]
theorem topK_ne (k : Int) : (topK k != 0) = (k == 1 || k == 3) := by
  unfold topK
  by_cases h1 : k = 1
  · subst h1; rfl
  · by_cases h3 : k = 3
    · subst h3; rfl
    · simp [h1, h3]
theorem hld_low {t k : Int} : ∀ (row : List Pst) (v : Int), (∀ p, p ∈ row → k < p.d) → hldL t k row v = v
  | [], v, _ => rfl
  | p :: r, v, h => by rw [hldL, if_pos (h p (by simp))]
theorem gs_row (row : List Pst) {i : Nat} (h : i < row.length) : gs (row.map (·.s)) i = (gq row i).s := by
  unfold gs gq; simp [h]
theorem cod_eq {L : Int} {js : List Int} {dir h : Int} {l : List Sgn} {q : List Edc} {row : List Pst} (hV : lstE L js l q = 0) (hd : dirB dir = true) (H : RowL L js dir h l row) (i : Nat) (hi : i < row.length) : codP L row (gq row i) = codS L js dir (insR L dir h l l.length) i := by
  obtain ⟨hn1, hn2⟩ := sgn_nums (lst_sgns hV)
  have hri := row_ins hn2 H
  have hlen : (insR L dir h l l.length).length = row.length := by rw [← hri, List.length_map]
  have hg : ∀ j, j < row.length → gs (insR L dir h l l.length) j = (gq row j).s := fun j hj => by rw [← hri]; exact gs_row row hj
  obtain ⟨e1, ⟨j, hj, e2, -⟩, -, e4⟩ := row_elem H i hi
  have hin := row_in hV hd H i hi
  have hh : ∀ t k : Int, t ≠ 0 → k < L → hldL t k row 0 = hS L js dir t k (insR L dir h l l.length) 0 := fun t k ht hk => hld_ins hn2 ht hk H
  have hlow : ∀ t : Int, hldL t (-1) row 0 = 0 := fun t => hld_low row 0 fun p hp => by
    obtain ⟨m, hm, e⟩ := List.getElem_of_mem hp
    have := (row_in hV hd H m hm).1.1
    have eg : gq row m = p := by unfold gq; simp [hm, e]
    rw [eg] at this
    omega
  unfold codP codS
  rw [hg i hi, ← e1]
  by_cases h7 : (gq row i).s.k = 7
  · rw [if_pos h7, if_pos h7]
    have : (gq row i).b = minS (insR L dir h l l.length) i := by
      rw [e4]
      unfold minS
      by_cases h0 : 0 < i
      · rw [decide_eq_true h0, Bool.true_and, Bool.true_and, hg (i - 1) (by omega), topK_ne]
        unfold plB
        rw [show i - 1 + 1 = i by omega, hlen, hg i hi, hg (i - 1) (by omega), decide_eq_true hi, Bool.true_and, dst_eq]
      · rw [decide_eq_false h0]; rfl
    rw [this]
  · rw [if_neg h7, if_neg h7]
    by_cases h6 : (gq row i).s.k = 6
    · rw [if_pos h6, if_pos h6]
      by_cases hdl : (gq row i).d = L
      · rw [if_pos (.inl hdl), if_pos (.inl hdl)]
      · rw [hh 1 _ (by omega) (by omega)]
    · rw [if_neg h6, if_neg h6]
      by_cases hc : (gq row i).s.k = 2 ∨ (gq row i).s.k = 4 ∨ (gq row i).s.k = 5
      · rw [if_pos hc, if_pos hc]
        have : idlS L js dir (insR L dir h l l.length) (gq row i).s = !(endP row (gq row i) 1 || endP row (gq row i) 2) := by
          unfold idlS endP
          rw [← e1]
          by_cases hd0 : (gq row i).d = 0
          · rw [hd0, show (0 : Int) - 1 = -1 by omega, hlow 1, hlow 2]
            simp
          · have : ((gq row i).d == 0) = false := beq_false_of_ne hd0
            rw [this, Bool.false_or, hh 1 _ (by omega) (by omega), hh 2 _ (by omega) (by omega)]
        rw [this]
        cases (endP row (gq row i) 1 || endP row (gq row i) 2) <;> rfl
      · rw [if_neg hc, if_neg hc]
theorem flt_eq {L : Int} {js : List Int} {dir h : Int} {l : List Sgn} {q : List Edc} {row : List Pst} (hV : lstE L js l q = 0) (hd : dirB dir = true) (H : RowL L js dir h l row) : ∀ k, k ≤ row.length → fltK L row k = fltS L js dir (insR L dir h l l.length) k
  | 0, _ => rfl
  | k + 1, hk => by
    have hri := row_ins (sgn_nums (lst_sgns hV)).2 H
    rw [fltK, fltS, flt_eq hV hd H k (by omega), cod_eq hV hd H k (by omega)]
    have : gs (insR L dir h l l.length) k = (gq row k).s := by rw [← hri]; exact gs_row row (by omega)
    rw [this]
/-- All faults of a line, row by row. -/
def allF (L : Int) (js : List Int) (h : Int) (l : List Sgn) : List Flt :=
  fltS L js 1 (insR L 1 h l l.length) (insR L 1 h l l.length).length ++ fltS L js (-1) (insR L (-1) h l l.length) (insR L (-1) h l l.length).length
theorem fltM_eq {L : Int} {js : List Int} {h : Int} {l : List Sgn} {q : List Edc} {M : List Flt} (hV : lstE L js l q = 0) (H : FltM L js h l 2 M) : M = allF L js h l := by
  obtain ⟨r1, r2, h1, h2, rfl⟩ := H
  have e1 := row_ins (sgn_nums (lst_sgns hV)).2 h1
  have e2 := row_ins (sgn_nums (lst_sgns hV)).2 h2
  unfold allF
  rw [flt_eq hV (by decide) h1 _ (Nat.le_refl _), flt_eq hV (by decide) h2 _ (Nat.le_refl _), ← e1, ← e2, List.length_map, List.length_map]
theorem fltS_sub (L : Int) (js : List Int) (dir : Int) (R : List Sgn) : ∀ k, k ≤ R.length → ((fltS L js dir R k).map (·.1)).Sublist ((R.take k).map (·.n))
  | 0, _ => by simp [fltS]
  | k + 1, hk => by
    have ih := fltS_sub L js dir R k (by omega)
    rw [fltS, List.take_add_one, List.getElem?_eq_getElem (by omega), Option.toList_some, List.map_append]
    split
    · exact ih.trans (List.sublist_append_left _ _)
    · rw [List.map_append]
      refine ih.append ?_
      rw [gs_at R (by omega)]
      exact List.Sublist.refl _
theorem selR_sub (dir h : Int) (l : List Sgn) : ∀ k, k ≤ l.length → (selR dir h l k).Sublist (l.take k)
  | 0, _ => by simp [selR]
  | k + 1, hk => by
    have ih := selR_sub dir h l k (by omega)
    rw [selR, List.take_add_one, List.getElem?_eq_getElem (by omega), Option.toList_some]
    split
    · refine ih.append ?_
      rw [gs_at l (by omega)]
      exact List.Sublist.refl _
    · exact ih.trans (List.sublist_append_left _ _)
theorem nums_nodup {l : List Sgn} (hn : ∀ i j, i < j → j < l.length → (gs l i).n ≠ (gs l j).n) : (l.map (·.n)).Nodup := by
  rw [List.Nodup, List.pairwise_iff_getElem]
  intro i j hi hj hij e
  simp only [List.length_map] at hi hj
  rw [List.getElem_map, List.getElem_map, ← gs_at l hi, ← gs_at l hj] at e
  exact hn i j hij hj e
theorem insR_nodup {L dir h : Int} {l : List Sgn} (hn : ∀ i j, i < j → j < l.length → (gs l i).n ≠ (gs l j).n) : ((insR L dir h l l.length).map (·.n)).Nodup := by
  have h1 := ((insR_perm L dir h l l.length).map (·.n)).nodup_iff.2
  refine h1 ?_
  have h2 := (selR_sub dir h l l.length (Nat.le_refl _)).map (·.n)
  rw [List.take_of_length_le (Nat.le_refl _)] at h2
  exact h2.nodup (nums_nodup hn)
theorem allF_nodup {L : Int} {js : List Int} {h : Int} {l : List Sgn} (hn : ∀ i j, i < j → j < l.length → (gs l i).n ≠ (gs l j).n) : ((allF L js h l).map (·.1)).Nodup := by
  unfold allF
  rw [List.map_append]
  have one : ∀ dir, ((fltS L js dir (insR L dir h l l.length) (insR L dir h l l.length).length).map (·.1)).Sublist ((insR L dir h l l.length).map (·.n)) := fun dir => by
    have := fltS_sub L js dir (insR L dir h l l.length) _ (Nat.le_refl _)
    rwa [List.take_of_length_le (Nat.le_refl _)] at this
  rw [List.nodup_append]
  refine ⟨(one 1).nodup (insR_nodup hn), (one (-1)).nodup (insR_nodup hn), fun x hx y hy e => ?_⟩
  obtain ⟨s1, hs1, e1⟩ := List.mem_map.1 ((one 1).subset hx)
  obtain ⟨s2, hs2, e2⟩ := List.mem_map.1 ((one (-1)).subset hy)
  have m1 := (insR_perm L 1 h l l.length).mem_iff.1 hs1
  have m2 := (insR_perm L (-1) h l l.length).mem_iff.1 hs2
  have d1 := selR_sel m1
  have d2 := selR_sel m2
  obtain ⟨i, hi, ei⟩ := selR_mem m1
  obtain ⟨j, hj, ej⟩ := selR_mem m2
  have hij : i = j := by
    rcases Nat.lt_trichotomy i j with hlt | heq | hlt
    · exact absurd (by rw [ei, ej, e1, e2, e]) (hn i j hlt hj)
    · exact heq
    · exact absurd (by rw [ei, ej, e1, e2, e]) (hn j i hlt hi)
  subst hij
  rw [← ei] at d1
  rw [← ej] at d2
  unfold selB at d1 d2
  simp only [Bool.and_eq_true, beq_iff_eq] at d1 d2
  omega
/-- Two lists of the same faults in the order of their numbers are one. -/
theorem flt_unique : ∀ {s t : List Flt}, s.Pairwise (fun x y => x.1 ≤ y.1) → t.Pairwise (fun x y => x.1 ≤ y.1) → (s.map (·.1)).Nodup → s.Perm t → s = t
  | [], t, _, _, _, hp => hp.nil_eq
  | x :: s, [], _, _, _, hp => by simpa using hp.length_eq
  | x :: s, y :: t, h1, h2, hn, hp => by
    have hxy : x = y := by
      have hx : x ∈ y :: t := hp.mem_iff.1 (by simp)
      have hy : y ∈ x :: s := hp.mem_iff.2 (by simp)
      rcases List.mem_cons.1 hx with e | hx
      · exact e
      · rcases List.mem_cons.1 hy with e | hy
        · exact e.symm
        · have a1 := (List.pairwise_cons.1 h1).1 y hy
          have a2 := (List.pairwise_cons.1 h2).1 x hx
          rw [List.map_cons, List.nodup_cons] at hn
          exact absurd (List.mem_map.2 ⟨y, hy, by omega⟩) hn.1
    subst hxy
    rw [List.map_cons, List.nodup_cons] at hn
    rw [flt_unique (List.pairwise_cons.1 h1).2 (List.pairwise_cons.1 h2).2 hn.2 hp.cons_inv]
/-- Where a fault goes in a list, from place k down. -/
def plcF (n : Int) (out : List Flt) : Nat → Nat
  | 0 => 0
  | k + 1 => if n < (gp out k).1 then plcF n out k else k + 1
theorem plcF_le (n : Int) (out : List Flt) : ∀ k, plcF n out k ≤ k
  | 0 => Nat.le_refl _
  | k + 1 => by
    rw [plcF]; split
    · exact Nat.le_succ_of_le (plcF_le n out k)
    · exact Nat.le_refl _
def insF (x : Flt) (out : List Flt) : List Flt := out.take (plcF x.1 out out.length) ++ x :: out.drop (plcF x.1 out out.length)
theorem insF_perm (x : Flt) (out : List Flt) : (insF x out).Perm (x :: out) := by
  unfold insF
  have h := List.perm_middle (a := x) (l₁ := out.take (plcF x.1 out out.length)) (l₂ := out.drop (plcF x.1 out out.length))
  rw [List.take_append_drop] at h
  exact h
theorem gp_at (l : List Flt) {i : Nat} (h : i < l.length) : gp l i = l[i] := by unfold gp; simp [h]
theorem plcF_spec {n : Int} {out : List Flt} (hs : out.Pairwise (fun x y => x.1 ≤ y.1)) : ∀ k, k ≤ out.length → (∀ i, i < plcF n out k → (gp out i).1 ≤ n) ∧ (∀ i, plcF n out k ≤ i → i < k → n < (gp out i).1)
  | 0, _ => ⟨fun i hi => absurd hi (Nat.not_lt_zero _), fun i _ hi => absurd hi (Nat.not_lt_zero _)⟩
  | k + 1, hk => by
    rw [plcF]; split
    next h =>
      have ih := plcF_spec (n := n) hs k (by omega)
      refine ⟨ih.1, fun i h1 h2 => ?_⟩
      by_cases e : i = k
      · rw [e]; exact h
      · exact ih.2 i h1 (by omega)
    next h =>
      refine ⟨fun i hi => ?_, fun i h1 h2 => by omega⟩
      by_cases e : i = k
      · rw [e]; omega
      · have := (List.pairwise_iff_getElem.1 hs) i k (by omega) (by omega) (by omega)
        rw [← gp_at out (by omega), ← gp_at out (by omega)] at this
        omega
theorem insF_sorted {x : Flt} {out : List Flt} (hs : out.Pairwise (fun x y => x.1 ≤ y.1)) : (insF x out).Pairwise (fun x y => x.1 ≤ y.1) := by
  obtain ⟨h1, h2⟩ := plcF_spec (n := x.1) hs out.length (Nat.le_refl _)
  have hle := plcF_le x.1 out out.length
  unfold insF
  generalize plcF x.1 out out.length = p at *
  have ht : ∀ y, y ∈ out.take p → y.1 ≤ x.1 := fun y hy => by
    obtain ⟨i, hi, e⟩ := List.getElem_of_mem hy
    rw [List.length_take] at hi
    rw [List.getElem_take] at e
    have := h1 i (by omega)
    rw [gp_at out (by omega), e] at this
    exact this
  have hd : ∀ y, y ∈ out.drop p → x.1 ≤ y.1 := fun y hy => by
    obtain ⟨i, hi, e⟩ := List.getElem_of_mem hy
    rw [List.length_drop] at hi
    rw [List.getElem_drop] at e
    have := h2 (p + i) (by omega) (by omega)
    rw [gp_at out (by omega), e] at this
    omega
  refine List.pairwise_append.2 ⟨hs.sublist (List.take_sublist _ _), List.pairwise_cons.2 ⟨hd, hs.sublist (List.drop_sublist _ _)⟩, fun y hy z hz => ?_⟩
  rcases List.mem_cons.1 hz with rfl | hz
  · exact ht y hy
  · have := ht y hy
    have := hd z hz
    omega
/-- The faults of the first k signs, put into a list one after the other. -/
def putF (L : Int) (js : List Int) (dir : Int) (R : List Sgn) (out : List Flt) : Nat → List Flt
  | 0 => out
  | k + 1 => if codS L js dir R k = 0 then putF L js dir R out k else insF ((gs R k).n, codS L js dir R k) (putF L js dir R out k)
theorem putF_perm (L : Int) (js : List Int) (dir : Int) (R : List Sgn) (out : List Flt) : ∀ k, (putF L js dir R out k).Perm (out ++ fltS L js dir R k)
  | 0 => by simp [putF, fltS]
  | k + 1 => by
    have ih := putF_perm L js dir R out k
    rw [putF, fltS]
    split
    · exact ih
    · refine (insF_perm _ _).trans ((ih.cons _).trans ?_)
      rw [← List.append_assoc]
      exact (List.perm_append_singleton _ _).symm
theorem putF_sorted {L : Int} {js : List Int} {dir : Int} {R : List Sgn} {out : List Flt} (h : out.Pairwise (fun x y => x.1 ≤ y.1)) : ∀ k, (putF L js dir R out k).Pairwise (fun x y => x.1 ≤ y.1)
  | 0 => h
  | k + 1 => by
    rw [putF]; split
    · exact putF_sorted h k
    · exact insF_sorted (putF_sorted h k)
/-- What the reference returns. -/
def refF (L : Int) (js : List Int) (h : Int) (l : List Sgn) : List Flt :=
  putF L js (-1) (insR L (-1) h l l.length) (putF L js 1 (insR L 1 h l l.length) [] (insR L 1 h l l.length).length) (insR L (-1) h l l.length).length
theorem refF_perm (L : Int) (js : List Int) (h : Int) (l : List Sgn) : (refF L js h l).Perm (allF L js h l) := by
  unfold refF allF
  refine (putF_perm _ _ _ _ _ _).trans (List.Perm.append_right _ ?_)
  have := putF_perm L js 1 (insR L 1 h l l.length) [] (insR L 1 h l l.length).length
  rwa [List.nil_append] at this
theorem refF_sorted (L : Int) (js : List Int) (h : Int) (l : List Sgn) : (refF L js h l).Pairwise (fun x y => x.1 ≤ y.1) := putF_sorted (putF_sorted List.Pairwise.nil _) _
/-- What Faults returns is that. -/
theorem fault_eq {L : Int} {js : List Int} {h : Int} {l : List Sgn} {q : List Edc} {M S : List Flt} (hV : lstE L js l q = 0) (H : FltM L js h l 2 M) (hp : S.Perm M) (hs : ∀ i j, i < j → j < S.length → (gp S i).1 ≤ (gp S j).1) : S = refF L js h l := by
  obtain ⟨hn1, hn2⟩ := sgn_nums (lst_sgns hV)
  rw [fltM_eq hV H] at hp
  have hpw : S.Pairwise (fun x y => x.1 ≤ y.1) := by
    rw [List.pairwise_iff_getElem]
    intro i j hi hj hij
    rw [← gp_at S hi, ← gp_at S hj]
    exact hs i j hij hj
  refine flt_unique hpw (refF_sorted L js h l) ((hp.map (·.1)).nodup_iff.2 (allF_nodup hn2)) (hp.trans (refF_perm L js h l).symm)
end Go.Proofs.YtlpdjinhkmgbgaaGreatDoor

namespace Go.Proofs.YtlpdjinhkmgbgaaGreatDoor
set_option linter.unusedVariables false
set_option linter.unusedSimpArgs false
open Go.RowKit

def mS (L : Int) (s : Sgn) : Sgn := { s with c := L - s.c, d := -s.d }
def mJ (L : Int) (js : List Int) : List Int := (js.map (fun x => L - x)).reverse
def mE (L : Int) (e : Edc) : Edc := { e with fr := L - e.tt, tt := L - e.fr, d := -e.d }
theorem m_dst {L dir c : Int} (hd : dir = 1 ∨ dir = -1) : dstK L (-dir) (L - c) = dstK L dir c := by
  unfold dstK
  rcases hd with rfl | rfl
  · rw [if_neg (by decide), if_pos rfl]; omega
  · rw [if_pos (by decide), if_neg (by decide)]
theorem m_beg {L dir m : Int} (hd : dir = 1 ∨ dir = -1) : begK L (-dir) (L - 1 - m) = begK L dir m := by
  unfold begK
  rcases hd with rfl | rfl
  · rw [if_neg (by decide), if_pos rfl]; omega
  · rw [if_pos (by decide), if_neg (by decide)]
theorem m_sel {L dir h : Int} (x : Sgn) : selB (-dir) h (mS L x) = selB dir h x := by
  unfold selB
  have : ((mS L x).d == -dir) = (x.d == dir) := by
    rw [Bool.eq_iff_iff, beq_iff_eq, beq_iff_eq]
    unfold mS
    simp only
    omega
  rw [this]; rfl
theorem m_ahS {L dir : Int} (hd : dir = 1 ∨ dir = -1) (x y : Sgn) : ahS L (-dir) (mS L x) (mS L y) ↔ ahS L dir x y := by
  unfold ahS
  have h1 : dstK L (-dir) (mS L x).c = dstK L dir x.c := m_dst hd
  have h2 : dstK L (-dir) (mS L y).c = dstK L dir y.c := m_dst hd
  rw [h1, h2]; exact Iff.rfl
theorem gs_mapS (L : Int) (l : List Sgn) {k : Nat} (hk : k < l.length) : gs (l.map (mS L)) k = mS L (gs l k) := by
  rw [gs_at _ (by simpa using hk), List.getElem_map, gs_at _ hk]
theorem m_plc {L dir : Int} (hd : dir = 1 ∨ dir = -1) (x : Sgn) (out : List Sgn) : ∀ k, k ≤ out.length → plcS L (-dir) (mS L x) (out.map (mS L)) k = plcS L dir x out k
  | 0, _ => rfl
  | k + 1, hk => by
    rw [plcS, plcS, gs_mapS L out (by omega), m_plc hd x out k (by omega)]
    exact ifc (m_ahS hd x (gs out k))
theorem m_ins {L dir h : Int} (hd : dir = 1 ∨ dir = -1) (l : List Sgn) : ∀ k, k ≤ l.length → insR L (-dir) h (l.map (mS L)) k = (insR L dir h l k).map (mS L)
  | 0, _ => rfl
  | k + 1, hk => by
    have ih := m_ins (L := L) (h := h) hd l k (by omega)
    rw [insR_step, insR_step, ih, gs_mapS L l (by omega), stepI, stepI, m_sel, List.length_map, m_plc hd _ _ _ (Nat.le_refl _)]
    split
    · rw [List.map_append, List.map_cons, List.map_take, List.map_drop]
    · rfl
theorem m_insA {L dir h : Int} (hd : dir = 1 ∨ dir = -1) (l : List Sgn) : insR L (-dir) h (l.map (mS L)) (l.map (mS L)).length = (insR L dir h l l.length).map (mS L) := by
  rw [List.length_map, m_ins hd l _ (Nat.le_refl _)]
theorem jct_iff (L : Int) (js : List Int) (dir d k : Int) : jctB L js dir d k = true ↔ ∃ x, x ∈ js ∧ d < dstK L dir x ∧ dstK L dir x ≤ k := by
  constructor
  · intro h
    refine Classical.byContradiction fun hn => ?_
    have : jctB L js dir d k = false := (anyK_iff _).2 fun j hj => by
      rw [Bool.and_eq_false_iff, decide_eq_false_iff_not, decide_eq_false_iff_not]
      refine Classical.byContradiction fun h9 => hn ⟨gi js j, by rw [gi_at _ hj]; exact List.getElem_mem hj, ?_⟩
      omega
    rw [this] at h; cases h
  · rintro ⟨x, hx, h1, h2⟩
    obtain ⟨j, hj, rfl⟩ := List.getElem_of_mem hx
    unfold jctB
    refine anyK_true ?_ _ hj
    rw [gi_at _ hj, decide_eq_true h1, decide_eq_true h2]; rfl
theorem m_jct {L dir : Int} (hd : dir = 1 ∨ dir = -1) (js : List Int) (d k : Int) : jctB L (mJ L js) (-dir) d k = jctB L js dir d k := by
  rw [Bool.eq_iff_iff, jct_iff, jct_iff]
  constructor
  · rintro ⟨x, hx, h⟩
    unfold mJ at hx
    rw [List.mem_reverse, List.mem_map] at hx
    obtain ⟨y, hy, rfl⟩ := hx
    rw [m_dst hd] at h
    exact ⟨y, hy, h⟩
  · rintro ⟨x, hx, h⟩
    refine ⟨L - x, ?_, by rw [m_dst hd]; exact h⟩
    unfold mJ
    rw [List.mem_reverse, List.mem_map]
    exact ⟨x, hx, rfl⟩
theorem m_plt {L dir : Int} (hd : dir = 1 ∨ dir = -1) (k : Int) (s : Sgn) (r : List Sgn) : pltB L (-dir) k (mS L s) (r.map (mS L)).head? = pltB L dir k s r.head? := by
  cases r with
  | nil => rfl
  | cons p r =>
    rw [List.map_cons, List.head?_cons, List.head?_cons]
    show ((mS L p).k == 7 && ((dstK L (-dir) (mS L p).c == dstK L (-dir) (mS L s).c) && decide (dstK L (-dir) (mS L s).c + (mS L p).v ≤ k))) = _
    rw [show dstK L (-dir) (mS L p).c = dstK L dir p.c from m_dst hd, show dstK L (-dir) (mS L s).c = dstK L dir s.c from m_dst hd]
    rfl
theorem m_hS {L dir : Int} (hd : dir = 1 ∨ dir = -1) (js : List Int) (t k : Int) : ∀ (r : List Sgn) (v : Int), hS L (mJ L js) (-dir) t k (r.map (mS L)) v = hS L js dir t k r v
  | [], _ => rfl
  | s :: r, v => by
    rw [List.map_cons, hS, hS, show dstK L (-dir) (mS L s).c = dstK L dir s.c from m_dst hd, m_hS hd js t k r]
    have : stpS L (mJ L js) (-dir) t k (mS L s) (r.map (mS L)).head? v = stpS L js dir t k s r.head? v := by
      unfold stpS shutB
      rw [m_plt hd, show dstK L (-dir) (mS L s).c = dstK L dir s.c from m_dst hd, m_jct hd]
      rfl
    rw [this]
theorem m_hld {L dir : Int} (hd : dir = 1 ∨ dir = -1) (js : List Int) (l : List Sgn) (h t m : Int) : hldV L (mJ L js) (l.map (mS L)) h (-dir) t (L - 1 - m) = hldV L js l h dir t m := by
  unfold hldV
  rw [m_insA hd, m_beg hd, m_hS hd]
theorem m_nums {L dir : Int} (hd : dir = 1 ∨ dir = -1) (h : Int) (l : List Sgn) : numsR L (-dir) h (l.map (mS L)) = numsR L dir h l := by
  unfold numsR
  rw [m_insA hd, List.map_map]
  rfl
theorem ge_mapE (L : Int) (q : List Edc) {k : Nat} (hk : k < q.length) : ge (q.map (mE L)) k = mE L (ge q k) := by
  unfold ge; simp [hk]
theorem m_ed {L : Int} (x : Edc) (h t d m : Int) : edB (mE L x) h t (-d) (L - 1 - m) = edB x h t d m := by
  have f1 : decide ((mE L x).fr ≤ L - 1 - m) = decide (m < x.tt) := by
    rw [Bool.eq_iff_iff, decide_eq_true_eq, decide_eq_true_eq]
    show L - x.tt ≤ L - 1 - m ↔ m < x.tt
    omega
  have f2 : decide (L - 1 - m < (mE L x).tt) = decide (x.fr ≤ m) := by
    rw [Bool.eq_iff_iff, decide_eq_true_eq, decide_eq_true_eq]
    show L - 1 - m < L - x.fr ↔ x.fr ≤ m
    omega
  have f3 : ((mE L x).d == -d) = (x.d == d) := by
    rw [Bool.eq_iff_iff, beq_iff_eq, beq_iff_eq]
    show -x.d = -d ↔ x.d = d
    omega
  unfold edB
  rw [f1, f2, f3]
  show ((x.tp == t) && ((x.d == d) && (decide (m < x.tt) && (decide (x.fr ≤ m) && (decide (x.st ≤ h) && decide (h < x.en)))))) = _
  rw [← Bool.and_assoc (decide (m < x.tt)), Bool.and_comm (decide (m < x.tt)), Bool.and_assoc (decide (x.fr ≤ m))]
theorem m_must {L : Int} (q : List Edc) (h t d m : Int) : ∀ k, k ≤ q.length → mustK (q.map (mE L)) h t (-d) (L - 1 - m) k = mustK q h t d m k
  | 0, _ => rfl
  | k + 1, hk => by
    rw [mustK, mustK, m_must q h t d m k (by omega), ge_mapE L q (by omega), m_ed]
    rfl
theorem m_mustV {L : Int} (q : List Edc) (h t d m : Int) : mustV (q.map (mE L)) h t (-d) (L - 1 - m) = mustV q h t d m := by
  unfold mustV
  rw [List.length_map, m_must q h t d m _ (Nat.le_refl _)]
theorem m_plB {L : Int} (R : List Sgn) {i : Nat} (hi : i < R.length) : plB (R.map (mS L)) i = plB R i := by
  unfold plB
  rw [List.length_map]
  by_cases h : i + 1 < R.length
  · rw [gs_mapS L R h, gs_mapS L R hi]
    have : ((mS L (gs R (i + 1))).c == (mS L (gs R i)).c) = ((gs R (i + 1)).c == (gs R i).c) := by
      rw [Bool.eq_iff_iff, beq_iff_eq, beq_iff_eq]
      unfold mS
      simp only
      omega
    rw [this]; rfl
  · rw [decide_eq_false h]; rfl
theorem m_cod {L dir : Int} (hd : dir = 1 ∨ dir = -1) (js : List Int) (R : List Sgn) {i : Nat} (hi : i < R.length) : codS L (mJ L js) (-dir) (R.map (mS L)) i = codS L js dir R i := by
  have h1 : dstK L (-dir) (mS L (gs R i)).c = dstK L dir (gs R i).c := m_dst hd
  have h2 : minS (R.map (mS L)) i = minS R i := by
    unfold minS
    by_cases h0 : 0 < i
    · rw [gs_mapS L R (by omega), m_plB R (by omega)]; rfl
    · rw [decide_eq_false h0]; rfl
  have h3 : idlS L (mJ L js) (-dir) (R.map (mS L)) (mS L (gs R i)) = idlS L js dir R (gs R i) := by
    unfold idlS
    rw [h1, m_hS hd, m_hS hd]
    rfl
  unfold codS
  rw [gs_mapS L R hi, h1, h2, h3, m_hS hd]
  rfl
theorem m_flt {L dir : Int} (hd : dir = 1 ∨ dir = -1) (js : List Int) (R : List Sgn) : ∀ k, k ≤ R.length → fltS L (mJ L js) (-dir) (R.map (mS L)) k = fltS L js dir R k
  | 0, _ => rfl
  | k + 1, hk => by
    rw [fltS, fltS, m_flt hd js R k (by omega), m_cod hd js R (by omega), gs_mapS L R (by omega)]
    rfl
theorem m_allF (L h : Int) (js : List Int) (l : List Sgn) : (allF L (mJ L js) h (l.map (mS L))).Perm (allF L js h l) := by
  unfold allF
  have e1 : insR L 1 h (l.map (mS L)) (l.map (mS L)).length = (insR L (-1) h l l.length).map (mS L) := m_insA (dir := -1) (.inr rfl) l
  have e2 : insR L (-1) h (l.map (mS L)) (l.map (mS L)).length = (insR L 1 h l l.length).map (mS L) := m_insA (dir := 1) (.inl rfl) l
  rw [e1, e2, List.length_map, List.length_map]
  have f1 : fltS L (mJ L js) 1 ((insR L (-1) h l l.length).map (mS L)) (insR L (-1) h l l.length).length = fltS L js (-1) (insR L (-1) h l l.length) (insR L (-1) h l l.length).length := m_flt (dir := -1) (.inr rfl) js _ _ (Nat.le_refl _)
  have f2 : fltS L (mJ L js) (-1) ((insR L 1 h l l.length).map (mS L)) (insR L 1 h l l.length).length = fltS L js 1 (insR L 1 h l l.length) (insR L 1 h l l.length).length := m_flt (dir := 1) (.inl rfl) js _ _ (Nat.le_refl _)
  rw [f1, f2]
  exact List.perm_append_comm
theorem m_refF {L h : Int} {js : List Int} {l : List Sgn} (hs : sgnsB L js l = true) : refF L (mJ L js) h (l.map (mS L)) = refF L js h l := by
  have hn := (sgn_nums hs).2
  have hp : (refF L (mJ L js) h (l.map (mS L))).Perm (refF L js h l) := (refF_perm _ _ _ _).trans ((m_allF L h js l).trans (refF_perm L js h l).symm)
  refine flt_unique (refF_sorted _ _ _ _) (refF_sorted _ _ _ _) ?_ hp
  refine (hp.map (·.1)).nodup_iff.2 ?_
  exact ((refF_perm L js h l).map (·.1)).nodup_iff.2 (allF_nodup hn)
/-- A line, as a list. -/
theorem line_iff (L : Int) (js : List Int) : lineB L js = true ↔ (1 ≤ L ∧ L ≤ 100000) ∧ js.length ≤ 50 ∧ (∀ x, x ∈ js → 0 < x ∧ x < L) ∧ js.Pairwise (· < ·) := by
  constructor
  · intro h
    have hj : ∀ k, k < js.length → jOk L js k = true := fun k hk => by
      cases e : jOk L js k with
      | true => rfl
      | false => rw [line_bad hk e] at h; cases h
    have h2 := line_end (L := L) (js := js) hj
    rw [h] at h2
    have h2 := h2.symm
    rw [Bool.and_eq_true, decide_eq_true_eq] at h2
    have hstep : ∀ k, k < js.length → prvR js k < gi js k ∧ gi js k < L := fun k hk => by
      have := hj k hk
      unfold jOk at this
      simpa using this
    refine ⟨by have := btw_ge h2.1; exact this, h2.2, fun x hx => ?_, ?_⟩
    · obtain ⟨k, hk, rfl⟩ := List.getElem_of_mem hx
      have h3 := hstep k hk
      have h4 := jOk_pos k (fun j hj' => hj j (by omega))
      rw [gi_at _ hk] at h3
      omega
    · rw [List.pairwise_iff_getElem]
      intro i j hi hj' hij
      induction j with
      | zero => omega
      | succ j ih =>
        have h3 := (hstep (j + 1) hj').1
        rw [gi_at _ hj'] at h3
        have h4 : prvR js (j + 1) = js[j]'(by omega) := by rw [prvR, gi_at _ (by omega)]
        by_cases e : i = j
        · subst e; omega
        · have := ih (by omega) (by omega); omega
  · rintro ⟨hL, hl, hx, hp⟩
    rw [line_end, Bool.and_eq_true, decide_eq_true_eq]
    · exact ⟨by unfold btw; simp; exact hL, hl⟩
    · intro k hk
      unfold jOk
      rw [Bool.and_eq_true, decide_eq_true_eq, decide_eq_true_eq, gi_at _ hk]
      refine ⟨?_, (hx _ (List.getElem_mem hk)).2⟩
      cases k with
      | zero => exact (hx _ (List.getElem_mem hk)).1
      | succ k =>
        rw [prvR, gi_at _ (by omega)]
        exact (List.pairwise_iff_getElem.1 hp) k (k + 1) (by omega) hk (by omega)
theorem m_line {L : Int} {js : List Int} (h : lineB L js = true) : lineB L (mJ L js) = true := by
  rw [line_iff] at h ⊢
  obtain ⟨hL, hl, hx, hp⟩ := h
  unfold mJ
  refine ⟨hL, by simpa using hl, fun x hm => ?_, ?_⟩
  · rw [List.mem_reverse, List.mem_map] at hm
    obtain ⟨y, hy, rfl⟩ := hm
    have := hx y hy
    omega
  · rw [List.pairwise_reverse, List.pairwise_map]
    exact hp.imp fun h => by omega
theorem dir_neg {d : Int} (h : dirB d = true) : dirB (-d) = true := by
  unfold dirB at *
  simp only [Bool.or_eq_true, beq_iff_eq] at *
  omega
theorem m_sgns {L : Int} {js : List Int} {l : List Sgn} (h : sgnsB L js l = true) : sgnsB L (mJ L js) (l.map (mS L)) = true := by
  rw [sgns_iff] at h ⊢
  refine ⟨m_line h.1, by simpa using h.2.1, fun x hx => ?_, ?_⟩
  · obtain ⟨y, hy, rfl⟩ := List.mem_map.1 hx
    obtain ⟨h1, h2⟩ := h.2.2.1 y hy
    refine ⟨h1, ?_⟩
    unfold sgnB at h2 ⊢
    simp only [Bool.and_eq_true] at h2 ⊢
    obtain ⟨⟨⟨⟨⟨⟨a1, a2⟩, a3⟩, a4⟩, a5⟩, a6⟩, a7⟩ := h2
    refine ⟨⟨⟨⟨⟨⟨a1, ?_⟩, dir_neg a3⟩, a4⟩, a5⟩, a6⟩, a7⟩
    have := btw_ge a2
    unfold mS btw
    simp
    omega
  · rw [List.map_map]
    exact h.2.2.2
theorem edcs_iff (L : Int) (js : List Int) (q : List Edc) : edcsB L js q = true ↔ lineB L js = true ∧ q.length ≤ 50 ∧ (∀ x, x ∈ q → (btw x.n 1 1000000000 = true ∧ edcB L x = true)) ∧ (q.map (·.n)).Nodup := by
  have ge_at : ∀ {k : Nat} (hk : k < q.length), ge q k = q[k] := fun {k} hk => by unfold ge; simp [hk]
  have hat : ∀ x, x ∈ q → ∃ k, k < q.length ∧ ge q k = x := fun x hx => by
    obtain ⟨k, hk, e⟩ := List.getElem_of_mem hx
    exact ⟨k, hk, by rw [ge_at hk, e]⟩
  constructor
  · intro h
    refine ⟨edcs_line h, ?_, fun x hx => ?_, ?_⟩
    · by_cases h9 : 50 < q.length
      · rw [e_bad9 h9] at h; cases h
      · omega
    · obtain ⟨k, hk, rfl⟩ := hat x hx
      constructor
      · cases e : btw (ge q k).n 1 1000000000 with
        | true => rfl
        | false => rw [e_bad1 hk e] at h; cases h
      · cases e : edcB L (ge q k) with
        | true => rfl
        | false => rw [e_bad2 hk e] at h; cases h
    · rw [List.nodup_iff_pairwise_ne, List.pairwise_iff_getElem]
      intro i j hi hj hij e
      rw [List.getElem_map, List.getElem_map] at e
      have hi : i < q.length := by simpa using hi
      have hj : j < q.length := by simpa using hj
      rw [← ge_at hi, ← ge_at hj] at e
      rw [e_bad3 hj hij e] at h; cases h
  · rintro ⟨h0, h9, h, hn⟩
    refine e_end h0 h9 fun k hk => ?_
    have hm : ge q k ∈ q := by rw [ge_at hk]; exact List.getElem_mem hk
    refine ⟨(h _ hm).1, (h _ hm).2, fun j hj e => ?_⟩
    rw [List.nodup_iff_pairwise_ne, List.pairwise_iff_getElem] at hn
    refine hn j k (by simpa using (by omega : j < q.length)) (by simpa using hk) hj ?_
    rw [List.getElem_map, List.getElem_map, ← ge_at (by omega : j < q.length), ← ge_at hk]
    exact e
theorem m_edcs {L : Int} {js : List Int} {q : List Edc} (h : edcsB L js q = true) : edcsB L (mJ L js) (q.map (mE L)) = true := by
  rw [edcs_iff] at h ⊢
  refine ⟨m_line h.1, by simpa using h.2.1, fun x hx => ?_, ?_⟩
  · obtain ⟨y, hy, rfl⟩ := List.mem_map.1 hx
    obtain ⟨h1, h2⟩ := h.2.2.1 y hy
    refine ⟨h1, ?_⟩
    unfold edcB at h2 ⊢
    simp only [Bool.and_eq_true, decide_eq_true_eq] at h2 ⊢
    obtain ⟨⟨⟨⟨⟨a1, a2⟩, a3⟩, a4⟩, a5⟩, a6⟩ := h2
    refine ⟨⟨⟨⟨⟨a1, dir_neg a2⟩, ?_⟩, ?_⟩, ?_⟩, a6⟩ <;> (unfold mE; simp only; omega)
  · rw [List.map_map]
    exact h.2.2.2
end Go.Proofs.YtlpdjinhkmgbgaaGreatDoor

namespace Go.Proofs.YtlpdjinhkmgbgaaGreatDoor
set_option linter.unusedVariables false
set_option linter.unusedSimpArgs false
open Go.RowKit

instance : Inhabited Edc := ⟨⟨0, 0, 0, 0, 0, 0, 0, 0⟩⟩
def encE (x : Edc) : List Value := [.int .i64 x.n, .int .i64 x.tp, .int .i64 x.v, .int .i64 x.d, .int .i64 x.fr, .int .i64 x.tt, .int .i64 x.st, .int .i64 x.en]
theorem encE_len (x : Edc) : (encE x).length = 8 := rfl
def clE (s : List Edc) : List Value := s.flatMap encE
theorem clE_app (s t : List Edc) : clE (s ++ t) = clE s ++ clE t := by simp [clE]
theorem clE_len (s : List Edc) : (clE s).length = s.length * 8 := by
  induction s with
  | nil => rfl
  | cons p s ih => unfold clE at *; rw [List.flatMap_cons, List.length_append, ih, encE_len, List.length_cons]; omega
theorem clE_one (s : List Edc) : ∀ v ∈ clE s, v.oneCell' = true := by
  intro v hv
  unfold clE at hv
  rw [List.mem_flatMap] at hv
  obtain ⟨p, _, h⟩ := hv
  simp [encE] at h
  rcases h with rfl | rfl | rfl | rfl | rfl | rfl | rfl | rfl <;> rfl
theorem clE_c : ∀ (s : List Edc) (i : Nat), i < s.length → ∀ c, c < 8 → (clE s)[i * 8 + c]? = (encE s[i]!)[c]?
  | [], i, hi, c, hc => by simp at hi
  | p :: s, 0, hi, c, hc => by
    unfold clE
    rw [List.flatMap_cons, List.getElem?_append_left (by rw [encE_len]; omega), Nat.zero_mul, Nat.zero_add]; rfl
  | p :: s, i + 1, hi, c, hc => by
    have ih := clE_c s i (by simpa using hi) c hc
    unfold clE at *
    rw [List.flatMap_cons, List.getElem?_append_right (by rw [encE_len]; omega), encE_len, show (i + 1) * 8 + c - 8 = i * 8 + c by omega, ih]
    rfl
theorem clE_take : ∀ (s : List Edc) (k : Nat), (clE s).take (k * 8) = clE (s.take k)
  | s, 0 => by simp [clE]
  | [], k + 1 => by simp [clE]
  | p :: s, k + 1 => by
    have ih := clE_take s k
    unfold clE at *
    rw [List.take_succ_cons, List.flatMap_cons, List.flatMap_cons, List.take_append, List.take_of_length_le (by rw [encE_len]; omega), encE_len, show (k + 1) * 8 - 8 = k * 8 by omega, ih]
theorem clE_drop : ∀ (s : List Edc) (k : Nat), (clE s).drop (k * 8) = clE (s.drop k)
  | s, 0 => by simp [clE]
  | [], k + 1 => by simp [clE]
  | p :: s, k + 1 => by
    have ih := clE_drop s k
    unfold clE at *
    rw [List.drop_succ_cons, List.flatMap_cons, List.drop_append, List.drop_of_length_le (by rw [encE_len]; omega), encE_len, show (k + 1) * 8 - 8 = k * 8 by omega, ih]
    rfl
theorem clE_snoc (S : List Edc) (X : Edc) : clE (S ++ [X]) = clE S ++ encE X := by rw [clE_app]; simp [clE]
/-- A row of values as edicts. -/
theorem ownE {w : World} {base c : Nat} {a : Option Addr} {s : List Edc} (h : w.ownsRow base 126 8 (.slice a s.length c) s.length (clE s)) (hn : s.length ≤ 9223372036854775807) : EdS w a s := by
  have hm : ∀ i, i < s.length → ge s i = s[i]! := fun i hi => by
    rw [getElem!_pos s i hi]; unfold ge; simp [hi]
  refine ⟨hn, ?_⟩
  rcases h.2 with ⟨h1, h2⟩ | ⟨g2, c2, cur, h1, _⟩
  · exact ⟨0, 0, (fun hne => absurd (List.eq_nil_of_length_eq_zero h2) hne), fun i hi => by omega⟩
  · obtain ⟨rfl, rfl⟩ : a = some ⟨g2, 0, none⟩ ∧ c = c2 := by simpa using h1
    refine ⟨g2, 0, fun _ => rfl, fun i hi => ?_⟩
    have hc := fun j hj => (World.ownsRow.cellAt h (i * 8 + j) (by omega)).trans (clE_c s i hi j hj)
    rw [hm i hi, Nat.zero_add]
    exact ⟨hc 0 (by omega), hc 1 (by omega), hc 2 (by omega), hc 3 (by omega), hc 4 (by omega), hc 5 (by omega), hc 6 (by omega), hc 7 (by omega)⟩
/-- A store into a block of another type leaves a row. -/
theorem own_set {w : World} {B : Nat} {T T2 : TypeId} {K : Nat} {a : Option Addr} {n c m b o : Nat} {xs : List Value} {cs : Array Value} {fr : Nat × Nat} (v : Value) (h : w.ownsRow B T K (.slice a n c) m xs) (hb : w.heap[b]? = some (.cells cs T2 fr)) (hT : T ≠ T2) : (w.setCell ⟨b, o, none⟩ v).ownsRow B T K (.slice a n c) m xs := by
  have hk : KpB w (w.setCell ⟨b, o, none⟩ v) (some ⟨b, 0, none⟩) w.heap.size := fun B' hB hne => by
    have h1 : b ≠ B' := hne _ rfl
    exact ⟨heap_setCell_other _ _ _ _ (Ne.symm h1), by omega⟩
  refine (own_kept h hk fun x y hx hy e => ?_).1
  cases hx
  exact own_type h hb hT y hy e.symm
theorem apB_type {w : World} {B B2 : Nat} {T T2 : TypeId} {K K2 : Nat} {a a2 : Option Addr} {n c m n2 c2 m2 : Nat} {xs xs2 : List Value} (h : w.ownsRow B T K (.slice a n c) m xs) (h2 : w.ownsRow B2 T2 K2 (.slice a2 n2 c2) m2 xs2) (hT : T ≠ T2) : apB a a2 := by
  intro x y hx hy e
  rcases h2.2 with ⟨e1, _⟩ | ⟨g2, c3, cur, e1, _, e3, _⟩
  · injection e1 with e1 _ _
    rw [hy] at e1; cases e1
  · injection e1 with e1 _ _
    rw [hy] at e1
    injection e1 with e1
    subst e1
    exact own_type h e3 hT x hx e
theorem kp_grown {W : World} {o : Obj} {w' : World} {av : Option Addr} {n c g H : Nat} (hg : (W.alloc o).grownBy w' (Value.slice av n c).ownBlock) (hat : (Value.slice av n c).ownBlock = some g ∨ g = H) (hH : W.heap.size ≤ H) : KpB W w' av g := fun B hB hne => by
  refine ⟨(hg.block B (by simp; omega) fun e => ?_).trans (allocOld W _ hB), ?_⟩
  · cases av with
    | none => simp [Value.ownBlock] at e
    | some y => simp [Value.ownBlock] at e; exact hne y rfl e.symm
  · rcases hat with h9 | h9
    · cases av with
      | none => simp [Value.ownBlock] at h9
      | some y => simp [Value.ownBlock] at h9; rw [← h9]; exact hne y rfl
    · omega
end Go.Proofs.YtlpdjinhkmgbgaaGreatDoor
