/-
  Parts of pairs of package rule, and what Compare asks of them. By an AI agent.; Library functions laid at this program, in plain words. By an AI agent.; append of a slice that has no elements, whatever its address and its capacity: the slice stays. By an AI agent.; slices.Concat of two lists of ints. By an AI agent.; What faults the signs of a row have: endsAny, code, faulty. By an AI agent.; Library functions laid at this program, in plain words. By an AI agent.
-/
import Derived.Test.YtlpdjinhkmgbgaaGreatDoorMgRuleCW1
import Derived.Test.YtlpdjinhkmgbgaaGreatDoorMgRuleCW2
import Derived.Test.YtlpdjinhkmgbgaaGreatDoorMgRuleCW7
import Derived.Test.YtlpdjinhkmgbgaaGreatDoorMgRuleCW8
import Derived.Deep.RegionHeld3
import Derived.Deep.DeepCutAuto
import Derived.BigQuiet
import Derived.BigRegion
import Derived.StillTailTactics
import Derived.Deep.AppendLies
import Derived.Shelf.Spec.SlicesGrow
import Derived.Ground.Names8Prog
import Derived.Test.YtlpdjinhkmgbgaaGreatDoorProg
import Derived.Laws.AppendOwnNone
import Derived.Laws.AppendOwn
import Derived.Shelf.SlSortCmp.WholeK
import Derived.Ground.SlsfProg

namespace Go.Proofs.YtlpdjinhkmgbgaaGreatDoor
set_option linter.unusedVariables false
set_option linter.unusedSimpArgs false
open Go.RowKit

abbrev Qud := Int × Int × Int × Int
/-- The cells of parts of pairs. -/
def cl4 (s : List Qud) : List Value := s.flatMap fun p => [.int .i64 p.1, .int .i64 p.2.1, .int .i64 p.2.2.1, .int .i64 p.2.2.2]
theorem cl4_app (s : List Qud) (p : Qud) : cl4 (s ++ [p]) = cl4 s ++ [.int .i64 p.1, .int .i64 p.2.1, .int .i64 p.2.2.1, .int .i64 p.2.2.2] := by simp [cl4]
theorem cl4_len (s : List Qud) : (cl4 s).length = s.length * 4 := by
  induction s with
  | nil => rfl
  | cons p s ih => unfold cl4 at *; rw [List.flatMap_cons, List.length_append, ih]; simp; omega
theorem cl4_c : ∀ (s : List Qud) (i : Nat), i < s.length → (cl4 s)[i * 4]? = some (.int .i64 (gtV s i).1) ∧ (cl4 s)[i * 4 + 1]? = some (.int .i64 (gtV s i).2.1) ∧ (cl4 s)[i * 4 + 2]? = some (.int .i64 (gtV s i).2.2.1) ∧ (cl4 s)[i * 4 + 3]? = some (.int .i64 (gtV s i).2.2.2)
  | [], i, hi => by simp at hi
  | p :: s, 0, hi => by simp [cl4, gtV]
  | p :: s, i + 1, hi => by
    have ih := cl4_c s i (by simpa using hi)
    have e : ∀ c, c < 4 → (cl4 (p :: s))[(i + 1) * 4 + c]? = (cl4 s)[i * 4 + c]? := fun c hc => by
      unfold cl4
      rw [List.flatMap_cons, List.getElem?_append_right (by simp; omega), show (i + 1) * 4 + c - [Value.int .i64 p.1, .int .i64 p.2.1, .int .i64 p.2.2.1, .int .i64 p.2.2.2].length = i * 4 + c from by simp; omega]
    have g : gtV (p :: s) (i + 1) = gtV s i := rfl
    rw [g]
    exact ⟨(e 0 (by omega)).trans ih.1, (e 1 (by omega)).trans ih.2.1, (e 2 (by omega)).trans ih.2.2.1, (e 3 (by omega)).trans ih.2.2.2⟩
theorem cl4_set : ∀ (s : List Qud) (i : Nat) (b : Int), i < s.length → (cl4 s).set (i * 4 + 1) (.int .i64 b) = cl4 (s.set i ((gtV s i).1, b, (gtV s i).2.2))
  | [], i, b, hi => by simp at hi
  | p :: s, 0, b, hi => by simp [cl4, gtV]
  | p :: s, i + 1, b, hi => by
    have ih := cl4_set s i b (by simpa using hi)
    unfold cl4 gtV at *
    rw [List.flatMap_cons, List.set_append_right _ _ (by simp; omega), show (i + 1) * 4 + 1 - [Value.int .i64 p.1, .int .i64 p.2.1, .int .i64 p.2.2.1, .int .i64 p.2.2.2].length = i * 4 + 1 from by simp; omega, ih]
    rfl
theorem prt1V_len (acc : List Qud) (x y : Int) (v : Int × Int) : (prt1V acc x y v).length ≤ acc.length + 1 := by
  unfold prt1V; split
  · simp
  · simp
theorem prtV_len (z : List Int) (f : Int → Int × Int) : ∀ k, (prtV z f k).length ≤ k
  | 0 => Nat.le_refl _
  | k + 1 => by
    rw [prtV]; split
    · simp
    · exact Nat.le_trans (prt1V_len _ _ _ _) (Nat.succ_le_succ (prtV_len z f k))
theorem pairInfo : (Tryz.prog.info? 88).map (fun i => (i.zero, i.size, i.bytes)) = some (some (.agg #[.int .i64 0, .int .i64 0, .int .i64 0, .int .i64 0]), 4, 32) := by kernel_rfl
theorem part_intP (w : World) (xs : Array Value) (i : Nat) (k : Int) (h : xs[i]? = some (.int .i64 k)) : (part 3 xs i).run Tryz.prog w = .ok (.int .i64 k) w := by
  simp [part, go_sem, h]
theorem eq_pair (w : World) (x y x2 y2 : Int) : (Op.equalIn 10000 80 (.agg #[.int .i64 x, .int .i64 y]) (.agg #[.int .i64 x2, .int .i64 y2])).run Tryz.prog w = .ok ((x == x2) && (y == y2)) w := by
  have hz : ∀ W, (sizeOf 3).run Tryz.prog W = .ok 1 W := fun W => by kernel_rfl
  show (Op.equalIn (9999 + 1) _ _ _).run _ _ = _
  rw [Op.equalIn]
  simp only [Sem.run_bind, run_underlying Tryz.underlying80, Result.andThen_ok, hz]
  simp [Std.Legacy.Range.forIn_eq_forIn_range', List.range', Sem.run_bind, part_intP, run_equalIn_int, Tryz.underlying3, Std.Legacy.Range.size]
  cases h : (x == x2) <;> simp_all [Sem.run_bind, part_intP, run_equalIn_int]
  by_cases h2 : y = y2
  · rw [if_pos h2, h2]; simp
  · rw [if_neg h2, beq_false_of_ne h2]
/-- What parts of pairs returns. -/
def PrqE (w : World) (z : List Int) (f : Int → Int × Int) (e : Ending) (w' : World) : Prop :=
  ∃ b c, e = .returned (.slice b (prtV z f z.length).length c) ∧ w'.ownsRow w.heap.size 88 4 (.slice b (prtV z f z.length).length c) (prtV z f z.length).length (cl4 (prtV z f z.length)) ∧ Below w.heap.size w w'
set_option maxRecDepth 100000 in
set_option maxHeartbeats 4000000 in
theorem both1_r (b1 b2 : Nat) (lb1 lb2 : Array Value) (x y m : Int) (w : World) (c1 : w.cell? ⟨b1, 0, none⟩ = some (.func (.func 71) #[] lb1)) (c2 : w.cell? ⟨b2, 0, none⟩ = some (.func (.func 72) #[] lb2))
    (h1 : ∀ W, Below w.heap.size w W → Calls Tryz.prog 71 (#[.int .i64 m] ++ lb1) W fun e w' => e = .returned (.int .i64 x) ∧ Below W.heap.size W w')
    (h2 : ∀ W, Below w.heap.size w W → Calls Tryz.prog 72 (#[.int .i64 m] ++ lb2) W fun e w' => e = .returned (.int .i64 y) ∧ Below W.heap.size W w') :
    Calls Tryz.prog 31 (#[.int .i64 m] ++ #[.pointer (some ⟨b1, 0, none⟩), .pointer (some ⟨b2, 0, none⟩)]) w fun e w' => e = .returned (.agg #[.int .i64 x, .int .i64 y]) ∧ Below w.heap.size w w' := by
  have H1 := Lib.hid h1
  have H2 := Lib.hid h2
  have hz1 := block_lt c1
  have hz2 := block_lt c2
  clear h1 h2
  go_enter Tryz.func31, Tryz.ntmps31
  go_upto_region 1 with (fail)
  obtain ⟨wB, hwB⟩ : ∃ wB, w.alloc (.cells #[.int .i64 0, .int .i64 0] 80) = wB := ⟨_, rfl⟩
  have hb : Below w.heap.size w wB := by rw [← hwB]; exact (Below.refl _ _).alloc (Nat.le_refl _) _
  have hB0 : wB.heap[w.heap.size]? = some (.cells #[.int .i64 0, .int .i64 0] 80 (0, 0)) := by rw [← hwB]; exact heap_alloc_new _ _
  have hzB : w.heap.size < wB.heap.size := by rw [← hwB]; simp
  replace c1 := cell_below c1 hb
  replace c2 := cell_below c2 hb
  rw [hwB]
  clear hwB
  refine wp_region_held_drew (S := fun w' => Below w.heap.size wB w' ∧ ∃ v0 v1, w'.heap[w.heap.size]? = some (.cells #[v0, v1] 80 (0, 0))) (by kernel_rfl) (⟨(Below.refl _ _).drew, _, _, hB0⟩) (fun hHeld => ?_)
  refine takeU (i := 0) (some 5) (.pointer (some ⟨b1, 0, none⟩)) (by kernel_rfl) (by kernel_rfl) (by kernel_rfl) (by kernel_rfl) (by kernel_rfl) (fun _ => by kernel_rfl) (fun _ _ _ h => h) hHeld ?_
  refine wpAnyH_take (i := 1) (oi := { dst := some 6, op := Go.Op.load 75 (Go.Operand.tmp 5), type := 75, pos := "hold.go:94", after := #[{ on := 0, ground := Go.Ground.data }], guard := none }) (v := .func (.func 71) #[] lb1) rfl (by kernel_rfl) (by kernel_rfl) (by kernel_rfl) (fun _ _ _ h => h) (.inl ⟨by kernel_rfl, fun w9 h9 => by
    clear hHeld
    have d0 := (h9.1.cell (p := ⟨b1, 0, none⟩) hz1).trans c1
    clear h9
    go_simp⟩) hHeld ?_
  refine takeU (i := 2) (some 7) (.int .i64 m) (by kernel_rfl) (by kernel_rfl) (by kernel_rfl) (by kernel_rfl) (by kernel_rfl) (fun _ => by kernel_rfl) (fun _ _ _ h => h) hHeld ?_
  refine takeU (i := 4) (some 9) (.pointer (some ⟨b2, 0, none⟩)) (by kernel_rfl) (by kernel_rfl) (by kernel_rfl) (by kernel_rfl) (by kernel_rfl) (fun _ => by kernel_rfl) (fun _ _ _ h => h) hHeld ?_
  refine wpAnyH_take (i := 5) (oi := { dst := some 10, op := Go.Op.load 75 (Go.Operand.tmp 9), type := 75, pos := "hold.go:94", after := #[{ on := 4, ground := Go.Ground.data }], guard := none }) (v := .func (.func 72) #[] lb2) rfl (by kernel_rfl) (by kernel_rfl) (by kernel_rfl) (fun _ _ _ h => h) (.inl ⟨by kernel_rfl, fun w9 h9 => by
    clear hHeld
    have d0 := (h9.1.cell (p := ⟨b2, 0, none⟩) hz2).trans c2
    clear h9
    go_simp⟩) hHeld ?_
  refine takeU (i := 6) (some 11) (.int .i64 m) (by kernel_rfl) (by kernel_rfl) (by kernel_rfl) (by kernel_rfl) (by kernel_rfl) (fun _ => by kernel_rfl) (fun _ _ _ h => h) hHeld ?_
  try simp only [Act.put, List.setIfInBounds_toArray, List.set_cons_zero, List.set_cons_succ]
  refine wpAnyH_ready (rs := [3]) (by kernel_rfl) (by simp) ?_
  refine AllReadyH.cons (o := { dst := some 8, op := Go.Op.call { callee := Go.Callee.value (Go.Operand.tmp 6), args := #[Go.Operand.tmp 7], argTypes := #[3] }, type := 3, pos := "hold.go:94", after := #[{ on := 1, ground := Go.Ground.data }, { on := 2, ground := Go.Ground.data }], guard := none }) rfl (fun K hK => ?_) AllReadyH.nil
  go_simp
  go_at_call 71
  refine (H1.out _ (hb.trans hHeld.1)).mono ?_
  rintro e w39 ⟨rfl, hb39⟩
  refine hK.out _ _ ⟨hHeld.1.trans (hb39.mono (Nat.le_trans (Nat.le_of_lt hzB) hHeld.1.size)), let ⟨v0, v1, hv⟩ := hHeld.2; ⟨v0, v1, (hb39.block w.heap.size (by have := hHeld.1.size; omega)).trans hv⟩⟩ (fun hHeld => ?_)
  clear hK K hb39
  try simp only [Act.put, List.setIfInBounds_toArray, List.set_cons_zero, List.set_cons_succ]
  try simp only [Act.put, List.setIfInBounds_toArray, List.set_cons_zero, List.set_cons_succ]
  refine wpAnyH_ready (rs := [7]) (by kernel_rfl) (by simp) ?_
  refine AllReadyH.cons (o := { dst := some 12, op := Go.Op.call { callee := Go.Callee.value (Go.Operand.tmp 10), args := #[Go.Operand.tmp 11], argTypes := #[3] }, type := 3, pos := "hold.go:94", after := #[{ on := 5, ground := Go.Ground.data }, { on := 6, ground := Go.Ground.data }, { on := 3, ground := Go.Ground.chain }], guard := none }) rfl (fun K hK => ?_) AllReadyH.nil
  go_simp
  go_at_call 72
  refine (H2.out _ (hb.trans hHeld.1)).mono ?_
  rintro e w79 ⟨rfl, hb79⟩
  refine hK.out _ _ ⟨hHeld.1.trans (hb79.mono (Nat.le_trans (Nat.le_of_lt hzB) hHeld.1.size)), let ⟨v0, v1, hv⟩ := hHeld.2; ⟨v0, v1, (hb79.block w.heap.size (by have := hHeld.1.size; omega)).trans hv⟩⟩ (fun hHeld => ?_)
  clear hK K hb79
  try simp only [Act.put, List.setIfInBounds_toArray, List.set_cons_zero, List.set_cons_succ]
  refine takeU (i := 8) (some 13) (.agg #[.int .i64 x, .int .i64 y]) (by kernel_rfl) (by kernel_rfl) (by kernel_rfl) (by kernel_rfl) (by kernel_rfl) (fun _ => by kernel_rfl) (fun _ _ _ h => h) hHeld ?_
  try simp only [Act.put, List.setIfInBounds_toArray, List.set_cons_zero, List.set_cons_succ]
  refine wpAnyH_ready (rs := [9]) (by kernel_rfl) (by simp) ?_
  refine AllReadyH.cons (o := { dst := none, op := Go.Op.store 80 (Go.Operand.tmp 4) (Go.Operand.tmp 13), type := 0, pos := "hold.go:94", after := #[{ on := 8, ground := Go.Ground.data }, { on := 7, ground := Go.Ground.chain }, { on := 0, ground := Go.Ground.phase }, { on := 1, ground := Go.Ground.phase }, { on := 2, ground := Go.Ground.phase }, { on := 3, ground := Go.Ground.phase }, { on := 4, ground := Go.Ground.phase }, { on := 5, ground := Go.Ground.phase }, { on := 6, ground := Go.Ground.phase }, { on := 7, ground := Go.Ground.phase }, { on := 8, ground := Go.Ground.phase }], guard := none }) rfl (fun K hK => ?_) AllReadyH.nil
  obtain ⟨hHa, v0, v1, hHb⟩ := hHeld
  have y0 := heapc hHb (i := 0) (v := v0) rfl
  have y1 := heapc hHb (i := 1) (v := v1) rfl
  have g0 : w79.frozen? ⟨w.heap.size, 0, none⟩ = false := by simp [World.frozen?, hHb]
  have g1 : w79.frozen? ⟨w.heap.size, 1, none⟩ = false := by simp [World.frozen?, hHb]
  go_simp
  have e1 := heap_setCell_same w79 w.heap.size 0 _ 80 (.int .i64 x) hHb
  have e2 := heap_setCell_same _ w.heap.size 1 _ 80 (.int .i64 y) e1
  refine hK.out _ _ ⟨(hHa.setCell (p := ⟨w.heap.size, 0, none⟩) (Nat.le_refl _) _).setCell (p := ⟨w.heap.size, 1, none⟩) (Nat.le_refl _) _, _, _, e2⟩ (fun hHeld => ?_)
  have HE2 := Lib.hid e2
  have HHa := Lib.hid ((hHa.setCell (p := ⟨w.heap.size, 0, none⟩) (Nat.le_refl _) (.int .i64 x)).setCell (p := ⟨w.heap.size, 1, none⟩) (Nat.le_refl _) (.int .i64 y))
  clear hHb e1 e2 y0 y1 g0 g1
  clear hK K
  try simp only [Act.put, List.setIfInBounds_toArray, List.set_cons_zero, List.set_cons_succ]
  refine wpAnyH_done (by kernel_rfl) ?_ _
  try simp only [Act.put, List.setIfInBounds_toArray, List.set_cons_zero, List.set_cons_succ]
  have r0 := heapc HE2.out (i := 0) rfl
  have r1 := heapc HE2.out (i := 1) rfl
  have HBz := Lib.hid (hb.trans (HHa.out.mono (Nat.le_refl _)))
  obtain ⟨wZ, hwZ⟩ : ∃ wZ, (w79.setCell ⟨w.heap.size, 0, none⟩ (.int .i64 x)).setCell ⟨w.heap.size, 1, none⟩ (.int .i64 y) = wZ := ⟨_, rfl⟩
  rw [hwZ] at r0 r1 HBz ⊢
  clear hwZ HE2 HHa hHeld hHa
  go_wp2_with fail
  exact bodyPost_ret (v := .agg #[.int .i64 x, .int .i64 y]) (by simp [results, Tryz.results31, go_sem, r0, r1]) rfl ⟨rfl, HBz.out⟩
set_option maxRecDepth 100000 in
set_option maxHeartbeats 4000000 in
theorem parts2_r (a : Option Addr) (cuts : List Int) (ca : Nat) (lb : Array Value) (f : Int → Int × Int) (w : World) (hA : IntsS w a cuts) (hne : cuts ≠ []) (hn : cuts.length ≤ 1000000)
    (hf : ∀ m W, m ∈ cuts → Below w.heap.size w W → Calls Tryz.prog 31 (#[.int .i64 m] ++ lb) W fun e w' => e = .returned (.agg #[.int .i64 (f m).1, .int .i64 (f m).2]) ∧ Below W.heap.size W w') :
    Calls Tryz.prog 32 #[.slice a cuts.length ca, .func (.func 31) #[] lb] w (PrqE w (ascL cuts) f) := by
  obtain ⟨hlen, -, blk, off, hadr, hc⟩ := hA
  obtain rfl := hadr hne
  have HV := Lib.hid (fun W => values_in (some ⟨blk, off, none⟩) cuts.length ca W)
  have hbk : blk < w.heap.size := block_lt (hc 0 (by cases cuts with | nil => exact absurd rfl hne | cons x l => simp))
  have HS := Lib.hid (sorted_in w.heap.size blk off ca cuts (by omega) (w.alloc (.cells #[.slice (some ⟨blk, off, none⟩) cuts.length ca] 22)) (by simp) (by simp; omega) (by simp [go_sem]) (fun j hj => by
    rw [((Below.refl w.heap.size w).alloc (Nat.le_refl _) _).cell (p := ⟨blk, off + j, none⟩) hbk, hc j hj]; simp [gi]))
  have HC := Lib.hid (fun W a c (h : W.ownsRow (w.heap.size + 1) 3 1 (.slice a cuts.length c) cuts.length (clI (srt cuts))) => compact_own (w.heap.size + 1) c a (srt cuts) W (by rw [srt_len]; exact h) (by rw [srt_len]; omega))
  have HF := Lib.hid hf
  have HZ : Hid (0 < (ascL cuts).length ∧ (ascL cuts).length ≤ cuts.length ∧ ∀ k, k < (ascL cuts).length → gi (ascL cuts) k ∈ cuts) := Lib.hid ⟨asc_pos hne, asc_len cuts, fun k hk => asc_mem hk⟩
  have HL : Hid (Lib.compact (srt cuts) = ascL cuts) := Lib.hid rfl
  rw [HL.out, srt_len] at HC
  generalize ascL cuts = z at *
  obtain ⟨n0, hi, hz0, hz1, hz2⟩ := info_parts pairInfo
  clear hf hc hadr HL hlen
  go_enter Tryz.func32, Tryz.ntmps32
  go_wp2_with (first | (go_at_call 75; refine (HV.out _).mono ?_; rintro e w7 ⟨rfl, rfl⟩) | (go_at_call 74; refine HS.out.mono ?_; rintro e w8 ⟨a8, c8, rfl, hr8, hb8⟩; have HC8 := Lib.hid (HC.out _ _ _ (by simpa using hr8)); have hz8 := hb8.size) | (go_at_call 73; refine HC8.out.mono ?_; rintro e w9 ⟨rfl, hr9, hb9⟩))
  have hbo : Below w.heap.size w w9 := ((Below.refl w.heap.size w).alloc (Nat.le_refl _) _).trans ((hb8.mono (by simp)).trans ((hb9 (by simp at hz8; omega)).mono (by omega)))
  have HOwn := Lib.hid hr9
  clear hr9 hb9 hb8 hr8 HC HC8 HS HV hz8
  have HCz : Hid (∀ k, k < z.length → ∃ g, a8 = some ⟨g, 0, none⟩ ∧ w9.cell? ⟨g, k, none⟩ = some (.int .i64 (gi z k))) := Lib.hid fun k hk => by
    have h := HOwn.out
    rcases h.2 with ⟨h1, h2⟩ | ⟨g2, c2, cur, h1, _⟩
    · omega
    · obtain ⟨rfl, rfl⟩ : a8 = some ⟨g2, 0, none⟩ ∧ c8 = c2 := by simpa using h1
      refine ⟨g2, rfl, ?_⟩
      rw [World.ownsRow.cellAt h k (by omega)]
      exact clI_get z (by omega)
  clear HOwn
  obtain ⟨hzp, hzl, -⟩ := HZ.out
  obtain ⟨wo, rfl⟩ : ∃ wo : World, wo = w9 := ⟨_, rfl⟩
  go_wp2_with fail
  go_loopw [6, 7] (fun q i wr => ∃ k : Nat, 0 < k ∧ k ≤ z.length ∧ i = .int .i64 k ∧ (∃ a c, q = .slice a (prtV z f k).length c) ∧ Hid (wr.ownsRow wo.heap.size 88 4 q (prtV z f k).length (cl4 (prtV z f k))) ∧ Below wo.heap.size wo wr) (fun _ i _ => z.length - (intOf i).toNat)
  case atStart => exact ⟨1, by omega, by omega, rfl, ⟨none, 0, rfl⟩, Lib.hid ⟨rfl, .inl ⟨rfl, rfl⟩⟩, Below.refl _ _⟩
  case round =>
    obtain ⟨k, hk0, hk, rfl, ⟨av, cv, rfl⟩, HRow, hbr⟩ := hrel
    by_cases hlt : k < z.length
    · have hkl := prtV_len z f k
      obtain ⟨t, hti⟩ : ∃ t : Nat, (k : Int) - 1 = (t : Int) := ⟨k - 1, by omega⟩
      have htz : t < z.length := by omega
      have htw : IntKind.i64.wrap ((k : Int) - 1) = (t : Int) := by rw [hti]; exact IntWalk.i64_in _ (by omega)
      obtain ⟨g, rfl, c0⟩ := HCz.out t htz
      obtain ⟨g', hg', c1⟩ := HCz.out k hlt
      obtain rfl : g = g' := by simpa using hg'
      have c0 := cell_below c0 hbr
      have c1 := cell_below c1 hbr
      have hmx := HZ.out.2.2 t htz
      have hbw := hbo.trans (hbr.mono hbo.size)
      have HN : Hid (prtV z f (k + 1) = prt1V (prtV z f k) (gi z t) (gi z k) ((f (gi z t)).1, (f (gi z t)).2)) := Lib.hid (by rw [prtV, if_neg (by omega), show k - 1 = t by omega])
      have HFx := Lib.hid (fun W (hW : Below w.heap.size w W) => HF.out (gi z t) W hmx hW)
      clear hg' hmx HCz HF HZ
      generalize (f (gi z t)).1 = v1 at *
      generalize (f (gi z t)).2 = v2 at *
      generalize gi z t = x at *
      generalize gi z k = y at *
      obtain ⟨S, hS⟩ : ∃ S, prtV z f k = S := ⟨_, rfl⟩
      rw [hS] at HN HRow hkl ⊢
      clear hS
      have hk64 : (k : Int) < (z.length : Int) := by omega
      go_wp2_with fail
      go_quiet (fail)
      have hbA := below_drewN hbr nq
      have hbB := below_drewN hbw nq
      have HRow := Lib.hid (owns_belowI HRow.out (below_drewN (Below.refl wr.heap.size wr) nq))
      generalize wr.drewN nq = wA at hbA hbB HRow ⊢
      clear c0 c1
      go_wp2_with fail
      refine (HFx.out _ hbB).mono ?_
      rintro e w7 ⟨rfl, hb7⟩
      have hbA := hbA.trans (hb7.mono hbA.size)
      have HRow := Lib.hid (owns_belowI HRow.out hb7)
      clear hbB hb7 HFx
      have hs7 := hbA.size
      go_upto_region 8 with (fail)
      obtain ⟨wA, hwA⟩ : ∃ wA, w7.alloc (.cells #[.int .i64 v1, .int .i64 v2] 80) = wA := ⟨_, rfl⟩
      have y0 : wA.cell? ⟨w7.heap.size, 0, none⟩ = some (.int .i64 v1) := by rw [← hwA]; simp [go_sem]
      have y1 : wA.cell? ⟨w7.heap.size, 1, none⟩ = some (.int .i64 v2) := by rw [← hwA]; simp [go_sem]
      have HRow := Lib.hid (HRow.out.alloc (.cells #[.int .i64 v1, .int .i64 v2] 80))
      have hbA := hbA.alloc hs7 (.cells #[.int .i64 v1, .int .i64 v2] 80)
      rw [hwA] at HRow hbA ⊢
      clear hwA
      by_cases h0 : S.length = 0
      · have hS0 := List.eq_nil_of_length_eq_zero h0
        subst hS0
        have HAP : Hid (prtV z f (k + 1) = [(x, y, v1, v2)]) := Lib.hid (by rw [HN.out]; unfold prt1V; rw [if_neg (by simp)]; rfl)
        clear HN
        have HAP : Hid (0 + 1 = (prtV z f (k + 1)).length ∧ ([] : List Value) ++ [.int .i64 x, .int .i64 y, .int .i64 v1, .int .i64 v2] = cl4 (prtV z f (k + 1))) := Lib.hid (by rw [HAP.out]; exact ⟨rfl, rfl⟩)
        have HRow : Hid (wA.ownsRow wo.heap.size 88 4 (.slice av 0 cv) 0 []) := HRow
        clear h0
        go_wp2_with fail
        go_quiet (fail)
        have HRow : Hid ((wA.drewN nq).ownsRow wo.heap.size 88 4 (.slice av 0 cv) 0 []) := Lib.hid (owns_belowI HRow.out (below_drewN (Below.refl wA.heap.size wA) nq))
        have hbA := below_drewN hbA nq
        have y0 : (wA.drewN nq).cell? ⟨w7.heap.size, 0, none⟩ = some (.int .i64 v1) := cell_below y0 (below_drewN (Below.refl wA.heap.size wA) nq)
        have y1 : (wA.drewN nq).cell? ⟨w7.heap.size, 1, none⟩ = some (.int .i64 v2) := cell_below y1 (below_drewN (Below.refl wA.heap.size wA) nq)
        generalize wA.drewN nq = wA at HRow hbA y0 y1 ⊢
        have hown := Lib.hid (HRow.out.alloc (.cells #[.int .i64 x, .int .i64 y, .int .i64 v1, .int .i64 v2] 88))
        have hbs := hbA.size
        go_wp2_with (first | (at_builtin; go_loud (refine wpList_append_lies _ rfl _ _ 82 rfl wo.heap.size 88 n0 _ 4 32 Tryz.underlying82 hi hz0 hz1 hz2 rfl (by decide) (.slice _ 0 cv) 0 _ (by rfl) hown.out ⟨wA.heap.size, 0, none⟩ 1 1 [.int .i64 x, .int .i64 y, .int .i64 v1, .int .i64 v2] (by rfl) (by rfl) ?d1 ?d2 (by decide) ?d3 ?d4 ?d5 _ rfl ?_)))
        case d1 =>
          refine World.news_of_block (cs := #[.int .i64 x, .int .i64 y, .int .i64 v1, .int .i64 v2]) (t := 88) (fr := (0, 0)) ?_
          exact heap_alloc_new _ _
        case d2 => simp [Value.oneCell']
        case d3 => unfold maxLen; omega
        case d4 => omega
        case d5 => first | (simp; omega) | simp | omega
        intro g6 c6 w6 hown6 hgrow6 hat6 hlt6
        have hb6 : Below wo.heap.size wo w6 := ((hbA.alloc hbs _).grown hgrow6 (by first | (simp; omega) | simp | omega) (fun z hz => owns_blockI hown.out hz))

        go_wp2_with fail
        go_roundw
        case rel => exact ⟨k + 1, by omega, by omega, by go_num, ⟨_, c6, by rw [← HAP.out.1]⟩, Lib.hid (by rw [← HAP.out.1, ← HAP.out.2]; exact hown6), hb6⟩
        case measure => simp [intOf]; omega
      · obtain ⟨u, hu⟩ : ∃ u, S.length = u + 1 := ⟨S.length - 1, by omega⟩
        have hui : (S.length : Int) - 1 = (u : Int) := by omega
        have hu0 : (0 : Int) ≤ (u : Int) := by omega
        have hu2 : (u : Int) < (S.length : Int) := by omega
        have huw : IntKind.i64.wrap ((S.length : Int) - 1) = (u : Int) := by rw [hui]; exact IntWalk.i64_in _ (by omega)
        obtain ⟨gj, hgj⟩ : ∃ gj, av = some ⟨gj, 0, none⟩ := by
          rcases HRow.out.2 with ⟨h1, h2⟩ | ⟨g2, c2, cur, h1, _⟩
          · omega
          · exact ⟨g2, by simpa using (Value.slice.inj h1).1⟩
        subst hgj
        have cy := World.ownsRow.cellAt HRow.out (u * 4 + 2) (by omega)
        rw [(cl4_c S u (by omega)).2.2.1] at cy
        have cy2 := World.ownsRow.cellAt HRow.out (u * 4 + 3) (by omega)
        rw [(cl4_c S u (by omega)).2.2.2] at cy2
        have cx := World.ownsRow.cellAt HRow.out (u * 4 + 1) (by omega)
        rw [(cl4_c S u (by omega)).2.1] at cx
        have fx := World.ownsRow.frozenAt HRow.out (u * 4 + 1)
        have hgl : wo.heap.size ≤ gj := by
          rcases HRow.out.2 with ⟨h1, h2⟩ | ⟨g2, c2, cur, h1, h2, _⟩
          · omega
          · have : gj = g2 := by simpa using (Value.slice.inj h1).1
            omega
        have HJ : Hid (prt1V S x y (v1, v2) = if (gtV S u).2.2.1 = v1 ∧ (gtV S u).2.2.2 = v2 then S.set u ((gtV S u).1, y, v1, v2) else S ++ [(x, y, v1, v2)]) := Lib.hid (by
          unfold prt1V
          rw [show S.length - 1 = u by omega]
          by_cases hx : (gtV S u).2.2.1 = v1 ∧ (gtV S u).2.2.2 = v2
          · rw [if_pos ⟨by omega, Prod.ext hx.1 hx.2⟩, if_pos hx]
          · rw [if_neg (fun h => hx ⟨congrArg (·.1) h.2, congrArg (·.2) h.2⟩), if_neg hx])
        have HSE := Lib.hid (cl4_set S u y (by omega))
        have HEq := Lib.hid (fun W => eq_pair W (gtV S u).2.2.1 (gtV S u).2.2.2 v1 v2)
        by_cases hx : (gtV S u).2.2.1 = v1 ∧ (gtV S u).2.2.2 = v2
        · have hJ := HJ.out
          rw [if_pos hx] at hJ
          have HNn : Hid (prtV z f (k + 1) = S.set u ((gtV S u).1, y, (gtV S u).2.2)) := Lib.hid (by rw [HN.out, hJ, show (gtV S u).2.2 = (v1, v2) from Prod.ext hx.1 hx.2])
          clear hJ HJ HN
          have HST : Hid (∀ W : World, W.ownsRow wo.heap.size 88 4 (.slice (some ⟨gj, 0, none⟩) S.length cv) S.length (cl4 S) → (W.setCell ⟨gj, u * 4 + 1, none⟩ (.int .i64 y)).ownsRow wo.heap.size 88 4 (.slice (some ⟨gj, 0, none⟩) (prtV z f (k + 1)).length cv) (prtV z f (k + 1)).length (cl4 (prtV z f (k + 1)))) := Lib.hid fun W h => by
            rw [HNn.out, List.length_set, ← HSE.out]
            exact (World.ownsRow.stored h (u * 4 + 1) (.int .i64 y)).1
          have HLn : Hid ((prtV z f (k + 1)).length = S.length) := Lib.hid (by rw [HNn.out, List.length_set])
          clear HNn HSE hu
          have hq : ∀ W, (Op.equalIn 10000 80 (.agg #[.int .i64 (gtV S u).2.2.1, .int .i64 (gtV S u).2.2.2]) (.agg #[.int .i64 v1, .int .i64 v2])).run Tryz.prog W = .ok true W := fun W => by rw [HEq.out W, hx.1, hx.2]; simp
          clear HEq hx
          generalize (gtV S u).2.2.2 = q2 at *
          generalize (gtV S u).2.2.1 = q at *
          generalize (gtV S u).2.1 = q1 at *
          go_wp2_with fail
          go_quiet (fail)
          go_wp2_with fail
          go_roundw
          case rel => exact ⟨k + 1, by omega, by omega, by go_num, ⟨_, cv, by rw [HLn.out]⟩, Lib.hid (by have := HST.out _ (owns_belowI HRow.out (below_drewN (Below.refl wA.heap.size wA) nq)); rwa [HLn.out] at this ⊢), (below_drewN hbA nq).setCell (p := ⟨gj, u * 4 + 1, none⟩) hgl _⟩
          case measure => simp [intOf]; omega
        · have hJ := HJ.out
          rw [if_neg hx] at hJ
          have HAP : Hid (S.length + 1 = (prtV z f (k + 1)).length ∧ cl4 S ++ [.int .i64 x, .int .i64 y, .int .i64 v1, .int .i64 v2] = cl4 (prtV z f (k + 1))) := Lib.hid (by rw [HN.out, hJ, cl4_app]; exact ⟨by simp, rfl⟩)
          clear hJ HJ HN hu cx fx HSE
          have hq : ∀ W, (Op.equalIn 10000 80 (.agg #[.int .i64 (gtV S u).2.2.1, .int .i64 (gtV S u).2.2.2]) (.agg #[.int .i64 v1, .int .i64 v2])).run Tryz.prog W = .ok false W := fun W => by
            rw [HEq.out W]
            have : (((gtV S u).2.2.1 == v1) && ((gtV S u).2.2.2 == v2)) = false := by
              rw [Bool.and_eq_false_iff, beq_eq_false_iff_ne, beq_eq_false_iff_ne]
              by_cases e : (gtV S u).2.2.1 = v1
              · exact .inr fun e2 => hx ⟨e, e2⟩
              · exact .inl e
            rw [this]
          clear HEq hx
          generalize (gtV S u).2.2.2 = q2 at *
          generalize (gtV S u).2.2.1 = q at *
          go_wp2_with fail
          go_quiet (fail)
          have HRow := Lib.hid (owns_belowI HRow.out (below_drewN (Below.refl wA.heap.size wA) nq))
          have hbA := below_drewN hbA nq
          have y0 : (wA.drewN nq).cell? ⟨w7.heap.size, 0, none⟩ = some (.int .i64 v1) := cell_below y0 (below_drewN (Below.refl wA.heap.size wA) nq)
          have y1 : (wA.drewN nq).cell? ⟨w7.heap.size, 1, none⟩ = some (.int .i64 v2) := cell_below y1 (below_drewN (Below.refl wA.heap.size wA) nq)
          generalize wA.drewN nq = wA at HRow hbA y0 y1 ⊢
          clear cy cy2 hq
          have hown := Lib.hid (HRow.out.alloc (.cells #[.int .i64 x, .int .i64 y, .int .i64 v1, .int .i64 v2] 88))
          have hbs := hbA.size
          go_wp2_with (first | (at_builtin; go_loud (refine wpList_append_lies _ rfl _ _ 82 rfl wo.heap.size 88 n0 _ 4 32 Tryz.underlying82 hi hz0 hz1 hz2 rfl (by decide) (.slice _ S.length cv) S.length _ (by rfl) hown.out ⟨wA.heap.size, 0, none⟩ 1 1 [.int .i64 x, .int .i64 y, .int .i64 v1, .int .i64 v2] (by rfl) (by rfl) ?d1 ?d2 (by decide) ?d3 ?d4 ?d5 _ rfl ?_)))
          case d1 =>
            refine World.news_of_block (cs := #[.int .i64 x, .int .i64 y, .int .i64 v1, .int .i64 v2]) (t := 88) (fr := (0, 0)) ?_
            exact heap_alloc_new _ _
          case d2 => simp [Value.oneCell']
          case d3 => unfold maxLen; omega
          case d4 => omega
          case d5 => first | (simp; omega) | simp | omega
          intro g6 c6 w6 hown6 hgrow6 hat6 hlt6
          have hb6 : Below wo.heap.size wo w6 := ((hbA.alloc hbs _).grown hgrow6 (by first | (simp; omega) | simp | omega) (fun z hz => owns_blockI hown.out hz))

          go_wp2_with fail
          go_roundw
          case rel => exact ⟨k + 1, by omega, by omega, by go_num, ⟨_, c6, by rw [← HAP.out.1]⟩, Lib.hid (by rw [← HAP.out.1, ← HAP.out.2]; exact hown6), hb6⟩
          case measure => simp [intOf]; omega
    · obtain rfl : k = z.length := by omega
      have hbw := hbo.trans (hbr.mono hbo.size)
      have HEnd : Hid (PrqE w z f (.returned (.slice av (prtV z f z.length).length cv)) wr) := Lib.hid ⟨av, cv, rfl, owns_baseI HRow.out hbo.size, hbw⟩
      clear HRow
      go_wp2_with fail
      go_ret
      exact HEnd.out
end Go.Proofs.YtlpdjinhkmgbgaaGreatDoor

namespace Go.Proofs
open Go.Shelf
def Tryz.laysGrowI_ren : Go.Shelf.Ren := ⟨fun | 4 => 76 | n => n, fun | 22 => 22 | 25 => 3 | 3 => 3 | 4 => 4 | 9 => 9 | 20 => 20 | 0 => 0 | n => n, fun | n => n⟩
theorem Tryz.laysGrowI : Go.Proofs.Lays8.n4 Tryz.prog Tryz.laysGrowI_ren := {
  mixed := by kernel_rfl
  f4 := ⟨Tryz.f76.name, by decide, Tryz.func76.trans (congrArg some (by kernel_rfl))⟩
  t0 := Tryz.underlying0
  a0 := Tryz.isAgg0
  z0 := Tryz.sizeOf0
  v0 := Tryz.zeroValue0
  t3 := Tryz.underlying3
  a3 := Tryz.isAgg3
  z3 := Tryz.sizeOf3
  v3 := Tryz.zeroValue3
  t4 := Tryz.underlying4
  a4 := Tryz.isAgg4
  z4 := Tryz.sizeOf4
  v4 := Tryz.zeroValue4
  t9 := Tryz.underlying9
  a9 := Tryz.isAgg9
  z9 := Tryz.sizeOf9
  v9 := Tryz.zeroValue9
  t20 := Tryz.underlying20
  a20 := Tryz.isAgg20
  z20 := Tryz.sizeOf20
  v20 := Tryz.zeroValue20
  t22 := Tryz.underlying22
  a22 := Tryz.isAgg22
  z22 := Tryz.sizeOf22
  v22 := Tryz.zeroValue22 }
end Go.Proofs

namespace Go.Proofs.YtlpdjinhkmgbgaaGreatDoor
set_option linter.unusedVariables false
set_option linter.unusedSimpArgs false
theorem loadNoneZ (P : Program) (w : World) (a : Addr) : (loadCells a 0).run P w = .ok #[] w := rfl
theorem run_append_zed {P : Program} {w : World} (base : Nat) (t ty e : TypeId) (i : TypeInfo) (size : Nat) (ht : P.underlying t = some (.slice e)) (hi : P.info? e = some i)
    (v : Value) (n : Nat) (xs : List Value) (hown : w.ownsRow base e size v n xs) (ao : Option Addr) (c : Nat) :
    (Builtin.append_ #[t, t] ty #[v, .slice ao 0 c]).run P w = .ok v w := by
  rcases hown.2 with ⟨rfl, rfl⟩ | ⟨g, cap, cur, rfl, _, _, hnc, _⟩
  · cases ao <;> simp [Builtin.append_, run_underlying ht, sizeOf, typeInfo, hi, Builtin.lenOf, Builtin.firstCells, loadNoneZ, Result.andThen]
  · cases ao <;> simp [Builtin.append_, run_underlying ht, sizeOf, typeInfo, hi, Builtin.lenOf, Builtin.firstCells, hnc, storeCells, loadNoneZ, Result.andThen]
theorem wpList_append_zed {P : Program} {w : World} {ops : Array Oper} {rest : List Oper} {o : Oper} {a : Act} {Q : Exit → Act → World → Prop} (hgd : o.guard = none) (s x : Operand) (t : TypeId)
    (ho : o.op = .call { callee := .builtin .append, args := #[s, x], argTypes := #[t, t] })
    (base : Nat) (e : TypeId) (i : TypeInfo) (size : Nat) (ht : P.underlying t = some (.slice e)) (hi : P.info? e = some i)
    (v : Value) (n : Nat) (xs : List Value) (hs : a.eval s = v) (hown : w.ownsRow base e size v n xs) (ao : Option Addr) (c : Nat) (hx : a.eval x = .slice ao 0 c)
    (h : wpList P ops Q rest (a.put o.dst v) w) : wpList P ops Q (o :: rest) a w := by
  refine wpList_plain hgd fun K hK => ?_
  have hrun := run_append_zed (P := P) (w := w) base t o.type e i size ht hi v n xs hown ao c
  unfold Oper.wp
  simp [execOp, ho, resolve, invoke, builtin, hs, hx, hrun, Result.andThen]
  exact hK _ _ h
end Go.Proofs.YtlpdjinhkmgbgaaGreatDoor

namespace Go.Proofs.YtlpdjinhkmgbgaaGreatDoor
set_option linter.unusedVariables false
set_option linter.unusedSimpArgs false
open Go.RowKit

theorem cJ_len (s : List Int) : (clI s).length = s.length * 1 := by unfold clI; simp
theorem cJ_app (s t : List Int) : clI (s ++ t) = clI s ++ clI t := by unfold clI; simp
theorem cJ_one (s : List Int) : ∀ x, x ∈ clI s → x.oneCell' = true := fun x hx => by
  unfold clI at hx
  obtain ⟨y, -, rfl⟩ := List.mem_map.1 hx
  rfl
theorem app_ints {ops : Array Oper} {rest : List Oper} {o : Oper} {a : Act} {Q : Exit → Act → World → Prop} (w : World) (hgd : o.guard = none) (s x : Operand)
    (ho : o.op = .call { callee := .builtin .append, args := #[s, x], argTypes := #[22, 22] })
    (base : Nat) (b : Option Addr) (n c : Nat) (xs : List Value) (hs : a.eval s = .slice b n c) (hown : w.ownsRow base 3 1 (.slice b n c) n xs)
    (ax : Option Addr) (l : List Int) (cx : Nat) (hx : a.eval x = .slice ax l.length cx) (hP : IntsS w ax l) (hlen : n + l.length ≤ 100000000) (hbase : base ≤ w.heap.size)
    (h : ∀ b' c' w', w'.ownsRow base 3 1 (.slice b' (n + l.length) c') (n + l.length) (xs ++ clI l) → Below base w w' → wpList Tryz.prog ops Q rest (a.put o.dst (.slice b' (n + l.length) c')) w') : wpList Tryz.prog ops Q (o :: rest) a w := by
  obtain ⟨n0, hi, hz0, hz1, hz2⟩ := info_parts infoInt
  by_cases h0 : l.length = 0
  · have hl := List.eq_nil_of_length_eq_zero h0
    subst hl
    refine wpList_append_zed hgd s x 22 ho base 3 n0 1 Tryz.underlying22 hi (.slice b n c) n xs hs hown ax cx hx ?_
    have := h b c w (by rw [show clI [] = [] from rfl, List.append_nil]; exact hown) (Below.refl _ _)
    exact this
  · obtain ⟨-, -, blk, off, hadr, hcell⟩ := hP
    obtain rfl := hadr (by rintro rfl; exact h0 rfl)
    refine wpList_append_lies w hgd s x 22 ho base 3 n0 _ 1 8 Tryz.underlying22 hi hz0 hz1 hz2 rfl (by decide) (.slice b n c) n xs hs hown ⟨blk, off, none⟩ l.length cx (clI l) hx (cJ_len l) (fun j u hu => ?_) (cJ_one l) (by omega) (by unfold maxLen; omega) (by omega) hbase _ rfl ?_
    · have hj : j < l.length := by
        have := (List.getElem?_eq_some_iff.1 hu).1
        rw [cJ_len] at this
        omega
      rw [Addr.add_lit]
      rw [clI_get l hj] at hu
      rw [hcell j hj]
      exact hu
    · intro g cap w' h1 h2 _ _
      exact h _ _ _ h1 ((Below.refl _ _).grown h2 hbase (fun z hz => owns_blockI hown hz))
set_option maxRecDepth 100000 in
set_option maxHeartbeats 4000000 in
theorem grow_r (n : Nat) (w : World) (h0 : 0 < n) (hn : n ≤ 1000000) : Calls Tryz.prog 76 #[.slice none 0 0, .int .i64 n] w fun e w' => ∃ a c, e = .returned (.slice a 0 c) ∧ w'.ownsRow w.heap.size 3 1 (.slice a 0 c) 0 [] ∧ Below w.heap.size w w' := by
  obtain ⟨n0, hi, hz0, hz1, hz2⟩ := info_parts infoInt
  have hg := grownCap_ge w (0 + n) 0 3
  have hg2 := grownCap_le_maxLen w (0 + n) 0 3 (by unfold maxLen; omega)
  refine (Any8.slices_Grow_grow Tryz.laysGrowI n0 (.int .i64 0) hi hz0 (by rw [hz1]; decide) none 0 0 n [] w (Nat.le_refl _) (by omega) (by rw [hz2]; omega) (by omega) (by simp) (fun _ => rfl) (fun a ha => by cases ha)).mono ?_
  rintro e w' ⟨rfl, rfl⟩
  refine ⟨_, _, rfl, ?_, ((Below.refl _ _).drew).alloc (Nat.le_refl _) _⟩
  refine ⟨rfl, .inr ⟨w.heap.size, _, _, rfl, Nat.le_refl _, heap_alloc_new _ _, Nat.zero_le _, hg2, ?_, rfl⟩⟩
  rw [Array.size_append, Array.size_append, size_zeroCells, size_zeroCells]
  simp [Value.cells]
  rw [Nat.zero_add] at hg
  have hg : n ≤ grownCap w n 0 (Tryz.laysGrowI_ren.t 25) := hg
  omega
/-- How many have been counted. -/
def szC (m n : Nat) (k : Nat) : Int := if k = 0 then 0 else if k = 1 then m else m + n
def preC (A B : List Int) (k : Nat) : List Int := if k = 0 then [] else if k = 1 then A else A ++ B
set_option maxRecDepth 100000 in
set_option maxHeartbeats 4000000 in
theorem concat2_r (gb : Nat) (a1 a2 : Option Addr) (A B : List Int) (c1 c2 : Nat) (w : World) (hA : IntsS w a1 A) (hB : IntsS w a2 B) (h0 : 0 < A.length) (hl : A.length + B.length ≤ 100000) (x0 : w.cell? ⟨gb, 0, none⟩ = some (.slice a1 A.length c1)) (x1 : w.cell? ⟨gb, 1, none⟩ = some (.slice a2 B.length c2)) :
    Calls Tryz.prog 33 #[.slice (some ⟨gb, 0, none⟩) 2 2] w fun e w' => ∃ a c, e = .returned (.slice a (A ++ B).length c) ∧ w'.ownsRow w.heap.size 3 1 (.slice a (A ++ B).length c) (A ++ B).length (clI (A ++ B)) ∧ Below w.heap.size w w' := by
  have S0 : szC A.length B.length 0 = 0 := rfl
  have HS1 : Hid (szC A.length B.length 1 = A.length) := Lib.hid rfl
  have HS2 : Hid (szC A.length B.length 2 = A.length + B.length) := Lib.hid rfl
  have HG := Lib.hid (fun W => grow_r (A.length + B.length) W (by omega) (by omega))
  have HP0 : Hid (preC A B 0 = []) := Lib.hid rfl
  have HP1 : Hid (preC A B 1 = A) := Lib.hid rfl
  have HP2 : Hid (preC A B 2 = A ++ B) := Lib.hid rfl
  have HAI := Lib.hid hA
  have HBI := Lib.hid hB
  have X0 := Lib.hid x0
  have X1 := Lib.hid x1
  clear hA hB
  go_enter Tryz.func33, Tryz.ntmps33
  go_wp2_with fail
  go_loop [3, 11] (fun s i => ∃ k : Nat, k ≤ 2 ∧ i = .int .i64 k ∧ s = .int .i64 (szC A.length B.length k)) (fun _ i => 2 - (intOf i).toNat)
  case atStart => exact ⟨0, by omega, rfl, rfl⟩
  case round =>
    obtain ⟨k, hk, rfl, rfl⟩ := hrel
    rcases (by omega : k = 0 ∨ k = 1 ∨ k = 2) with rfl | rfl | rfl
    · have hw1 : IntKind.i64.wrap (0 + (A.length : Int)) = A.length := by rw [Int.zero_add]; exact IntWalk.i64_in _ (by omega)
      have hw2 : ¬ ((A.length : Int) < 0) := by omega
      go_wp2_with fail
      go_round
      case rel => exact ⟨1, by omega, rfl, by rw [HS1.out]⟩
      case measure => simp [intOf]
    · rw [HS1.out]
      have hw1 : IntKind.i64.wrap ((A.length : Int) + (B.length : Int)) = A.length + B.length := IntWalk.i64_in _ (by omega)
      have hw2 : ¬ ((A.length : Int) + (B.length : Int) < 0) := by omega
      go_wp2_with fail
      go_round
      case rel => exact ⟨2, by omega, rfl, by rw [HS2.out]⟩
      case measure => simp [intOf]
    · rw [HS2.out]
      have hsum : (A.length : Int) + (B.length : Int) = ((A.length + B.length : Nat) : Int) := by omega
      rw [hsum]
      clear hsum
      go_wp2_with (go_at_call 76; refine (HG.out _).mono ?_; rintro e w1 ⟨ag, cg, rfl, ho1, hb1⟩; have HO1 := Lib.hid ho1; clear ho1)
      go_loopw [6, 27] (fun v i wr => ∃ (k : Nat) (a : Option Addr) (c : Nat), k ≤ 2 ∧ i = .int .i64 k ∧ v = .slice a (preC A B k).length c ∧ Hid (wr.ownsRow w.heap.size 3 1 (.slice a (preC A B k).length c) (preC A B k).length (clI (preC A B k))) ∧ Below w.heap.size w wr) (fun _ i _ => 2 - (intOf i).toNat)
      case atStart => exact ⟨0, ag, cg, by omega, rfl, by rw [HP0.out]; rfl, Lib.hid (by rw [HP0.out]; exact HO1.out), hb1⟩
      case round =>
        obtain ⟨k, av, cv, hk, rfl, rfl, HRow, hbr⟩ := hrel
        have x0 := cell_below X0.out hbr
        have x1 := cell_below X1.out hbr
        rcases (by omega : k = 0 ∨ k = 1 ∨ k = 2) with rfl | rfl | rfl
        · rw [HP0.out] at HRow ⊢
          have HN : Hid (A.length = (preC A B 1).length ∧ clI A = clI (preC A B 1)) := Lib.hid (by rw [HP1.out]; exact ⟨rfl, rfl⟩)
          have hAw := Lib.hid (HAI.out.below hbr)
          go_wp2_with (first | (at_builtin; go_loud (refine app_ints _ rfl _ _ rfl w.heap.size av 0 cv [] (by rfl) HRow.out a1 A c1 (by rfl) hAw.out (by omega) hbr.size ?_)))
          intro b' c' w' hown' hb'
          have HO' := Lib.hid hown'
          clear hown' HRow
          go_wp2_with fail
          go_roundw
          case rel => exact ⟨1, b', c', by omega, rfl, by rw [← HN.out.1], Lib.hid (by rw [← HN.out.1, ← HN.out.2]; exact HO'.out), hbr.trans hb'⟩
          case measure => simp [intOf]
        · rw [HP1.out] at HRow ⊢
          have HN : Hid (A.length + B.length = (preC A B 2).length ∧ clI A ++ clI B = clI (preC A B 2)) := Lib.hid (by rw [HP2.out, cJ_app, List.length_append]; exact ⟨rfl, rfl⟩)
          have hBw := Lib.hid (HBI.out.below hbr)
          go_wp2_with (first | (at_builtin; go_loud (refine app_ints _ rfl _ _ rfl w.heap.size av A.length cv (clI A) (by rfl) HRow.out a2 B c2 (by rfl) hBw.out (by omega) hbr.size ?_)))
          intro b' c' w' hown' hb'
          have HO' := Lib.hid hown'
          clear hown' HRow
          go_wp2_with fail
          go_roundw
          case rel => exact ⟨2, b', c', by omega, rfl, by rw [← HN.out.1], Lib.hid (by rw [← HN.out.1, ← HN.out.2]; exact HO'.out), hbr.trans hb'⟩
          case measure => simp [intOf]
        · rw [HP2.out] at HRow ⊢
          go_wp2_with fail
          go_ret
          exact ⟨av, cv, rfl, HRow.out, hbr⟩
end Go.Proofs.YtlpdjinhkmgbgaaGreatDoor

namespace Go.Proofs.YtlpdjinhkmgbgaaGreatDoor
set_option linter.unusedVariables false
set_option linter.unusedSimpArgs false
open Go.RowKit

set_option maxRecDepth 100000 in
set_option maxHeartbeats 1000000 in
theorem idxEa_any (aa : Option Addr) (l : List (Int)) (ca : Nat) (lb : Array Value) (p : Nat → Bool) (w : World) (hA : IntsS w aa l)
    (hp : ∀ j W, j < l.length → Below w.heap.size w W → Calls Tryz.prog 126 (#[.int .i64 (gi l j)] ++ lb) W fun e w' => e = .returned (.bool (p j)) ∧ Below W.heap.size W w') :
    Calls Tryz.prog 150 #[.slice aa l.length ca, .func (.func 126) #[] lb] w fun e w' => e = .returned (.int .i64 (idxK p l.length)) ∧ Below w.heap.size w w' := by
  obtain ⟨hlen, -, blk, off, hadr, hc⟩ := hA
  have HP := Lib.hid hp
  have HC := Lib.hid hc
  have HH : Hid (∀ k, k < l.length → p k = true → (∀ j, j < k → p j = false) → idxK p l.length = k) := Lib.hid fun k hk h hb => idxK_hit h hb _ hk
  have HM : Hid ((∀ j, j < l.length → p j = false) → idxK p l.length = -1) := Lib.hid fun h => idxK_miss _ h
  have HL : Hid (0 < l.length → aa = some ⟨blk, off, none⟩) := Lib.hid fun h => hadr (pos_ne (n := 0) h)
  generalize idxK p l.length = R at *
  clear hp hc hadr
  go_enter Tryz.func150, Tryz.ntmps150
  go_wp2_with fail
  go_loopw [8] (fun i wr => ∃ k : Nat, k ≤ l.length ∧ i = .int .i64 k ∧ Below w.heap.size w wr ∧ Hid (∀ j, j < k → p j = false)) (fun i _ => l.length - (intOf i).toNat)
  case atStart => exact ⟨0, Nat.zero_le _, rfl, Below.refl _ _, Lib.hid fun j hj => absurd hj (Nat.not_lt_zero _)⟩
  case round =>
    obtain ⟨k, hk, rfl, hb, HA⟩ := hrel
    by_cases hlt : k < l.length
    · obtain rfl := HL.out (by omega)
      have c0 := cell_below (HC.out k hlt) hb
      have HK := Lib.hid (fun W => HP.out k W hlt)
      have HHk := Lib.hid (HH.out k hlt)
      have HN : Hid (p k = false → ∀ j, j < k + 1 → p j = false) := Lib.hid fun h j hj => by
        by_cases e : j = k
        · subst e; exact h
        · exact HA.out j (by omega)
      clear HP HC HM HL HH
      generalize (gi l k) = x0 at *
      cases hpk : p k with
      | true =>
        have HR := Lib.hid (HHk.out hpk HA.out)
        rw [hpk] at HK
        clear hpk HHk HN
        go_wp2_with fail
        refine (HK.out _ hb).mono ?_
        rintro e w1 ⟨rfl, hb1⟩
        go_wp2_with fail
        go_ret
        rw [HR.out]
        exact ⟨rfl, hb.trans (hb1.mono hb.size)⟩
      | false =>
        have HR := Lib.hid (HN.out hpk)
        rw [hpk] at HK
        clear hpk HHk HN
        go_wp2_with fail
        refine (HK.out _ hb).mono ?_
        rintro e w1 ⟨rfl, hb1⟩
        go_wp2_with fail
        go_roundw
        case rel => exact ⟨k + 1, by omega, by go_num, hb.trans (hb1.mono hb.size), HR⟩
        case measure => simp [intOf]; omega
    · obtain rfl : k = l.length := by omega
      have HR := Lib.hid (HM.out HA.out)
      go_wp2_with fail
      go_ret
      rw [HR.out]
      exact ⟨rfl, hb⟩

set_option maxRecDepth 100000 in
theorem containsEa_any (aa : Option Addr) (l : List (Int)) (ca : Nat) (lb : Array Value) (p : Nat → Bool) (w : World) (hA : IntsS w aa l)
    (hp : ∀ j W, j < l.length → Below w.heap.size w W → Calls Tryz.prog 126 (#[.int .i64 (gi l j)] ++ lb) W fun e w' => e = .returned (.bool (p j)) ∧ Below W.heap.size W w') :
    Calls Tryz.prog 125 #[.slice aa l.length ca, .func (.func 126) #[] lb] w fun e w' => e = .returned (.bool (anyK p l.length)) ∧ Below w.heap.size w w' := by
  have H := Lib.hid (idxEa_any aa l ca lb p w hA hp)
  have hq := Lib.hid (idxK_any p l.length)
  clear hp hA
  generalize idxK p l.length = R at *
  generalize anyK p l.length = B at *
  have hq := hq.out
  subst hq
  go_enter Tryz.func125, Tryz.ntmps125
  go_wp2_with fail
  refine H.out.mono ?_
  rintro e w1 ⟨rfl, hb1⟩
  go_wp2_with fail
  all_goals
    go_ret
    exact ⟨by simp_all, hb1⟩

/-- Is an end one of a topic of which something holds ahead of it? -/
def endP (row : List Pst) (p : Pst) (t : Int) : Bool := endB p.s.k t && (hldL t (p.d - 1) row 0 != 0)
/-- The fault of a sign of a row, or 0. -/
def codP (L : Int) (row : List Pst) (p : Pst) : Int :=
  if p.s.k = 7 then (if p.b = false ∨ L - p.d < p.s.v then 1 else 0)
  else if p.s.k = 6 then (if p.d = L ∨ hldL 1 p.d row 0 ≠ p.s.v then 2 else 0)
  else if p.s.k = 2 ∨ p.s.k = 4 ∨ p.s.k = 5 then (if (endP row p 1 || endP row p 2) = true then 0 else 3)
  else if p.s.k = 1 ∨ p.s.k = 3 then (if p.d = L then 4 else 0) else 0
set_option maxRecDepth 100000 in
set_option maxHeartbeats 2000000 in
theorem endsAny1_r (L : Int) (ar : Option Addr) (row : List Pst) (cr : Nat) (p : Pst) (ad : Option Addr) (cp pb ib : Nat) (t : Int) (hd : -100000 ≤ p.d ∧ p.d ≤ 100000) (w : World) (hR : PstS w ar row) (c1 : w.cell? ⟨pb, 1, none⟩ = some (.int .i64 p.s.k)) (c9 : w.cell? ⟨pb, 9, none⟩ = some (.int .i64 p.d)) (i1 : w.cell? ⟨ib, 1, none⟩ = some (.slice ar row.length cr)) :
    Calls Tryz.prog 126 (#[.int .i64 t] ++ #[.pointer (some ⟨pb, 0, none⟩), .pointer (some ⟨ib, 0, none⟩)]) w fun e w' => e = .returned (.bool (endP row p t)) ∧ Below w.heap.size w w' := by
  change Calls Tryz.prog 126 #[.int .i64 t, .pointer (some ⟨pb, 0, none⟩), .pointer (some ⟨ib, 0, none⟩)] w _
  have HE := Lib.hid (fun W => isEnd_r p.s.k t W)
  have HH := Lib.hid (fun W (hW : Below w.heap.size w W) => holdsAt_r ar row cr t (p.d - 1) W (hR.below hW))
  have HP : Hid (endP row p t = (endB p.s.k t && (hldL t (p.d - 1) row 0 != 0))) := Lib.hid rfl
  generalize hldL t (p.d - 1) row 0 = V at *
  generalize endB p.s.k t = eb at *
  clear hR
  cases eb with
  | false =>
    have hv : Hid (endP row p t = false) := Lib.hid (by rw [HP.out]; rfl)
    clear HP HH
    go_enter Tryz.func126, Tryz.ntmps126
    go_wp2_with (go_at_call 86; refine (HE.out _).mono ?_; rintro e w2 ⟨rfl, rfl⟩)
    go_ret
    exact ⟨by rw [hv.out] <;> rfl, Below.refl _ _⟩
  | true =>
    by_cases h0 : V = 0
    · have hv : Hid (endP row p t = false) := Lib.hid (by rw [HP.out, h0]; rfl)
      have d0 : (V != 0) = false := by rw [h0]; rfl
      clear HP h0
      go_enter Tryz.func126, Tryz.ntmps126
      go_wp2_with (first | (go_at_call 86; refine (HE.out _).mono ?_; rintro e w2 ⟨rfl, rfl⟩) | (go_at_call 49; refine (HH.out _ (Below.refl _ _)).mono ?_; rintro e w3 ⟨rfl, hb3⟩))
      go_ret
      exact ⟨by rw [hv.out] <;> rfl, hb3⟩
    · have d0 : (V != 0) = true := by simp [h0]
      have hv : Hid (endP row p t = true) := Lib.hid (by rw [HP.out, d0]; rfl)
      clear HP h0
      go_enter Tryz.func126, Tryz.ntmps126
      go_wp2_with (first | (go_at_call 86; refine (HE.out _).mono ?_; rintro e w2 ⟨rfl, rfl⟩) | (go_at_call 49; refine (HH.out _ (Below.refl _ _)).mono ?_; rintro e w3 ⟨rfl, hb3⟩))
      go_ret
      exact ⟨by rw [hv.out] <;> rfl, hb3⟩
set_option maxRecDepth 100000 in
set_option maxHeartbeats 2000000 in
theorem endsAny_r (L : Int) (ar : Option Addr) (row : List Pst) (cr : Nat) (p : Pst) (ad : Option Addr) (cp : Nat) (g : Nat) (hd : -100000 ≤ p.d ∧ p.d ≤ 100000) (w : World) (hR : PstS w ar row) (hT : IntsS w (some ⟨g, 0, none⟩) [1, 2]) :
    Calls Tryz.prog 97 #[.agg #[.int .i64 L, .slice ar row.length cr], .agg #[.int .i64 p.s.n, .int .i64 p.s.k, .int .i64 p.s.v, .int .i64 p.s.c, .int .i64 p.s.d, .int .i64 p.s.rk, .int .i64 p.s.up, .int .i64 p.s.dn, .slice ad p.s.cv.length cp, .int .i64 p.d, .int .i64 p.u, .bool p.b], .slice (some ⟨g, 0, none⟩) 2 2] w fun e w' => e = .returned (.bool (endP row p 1 || endP row p 2)) ∧ Below w.heap.size w w' := by
  have HC := Lib.hid (fun W (hW : Below w.heap.size w W) (c1 : W.cell? ⟨w.heap.size + 1, 1, none⟩ = some (.int .i64 p.s.k)) (c9 : W.cell? ⟨w.heap.size + 1, 9, none⟩ = some (.int .i64 p.d)) (i1 : W.cell? ⟨w.heap.size, 1, none⟩ = some (.slice ar row.length cr)) => containsEa_any (some ⟨g, 0, none⟩) [1, 2] 2 #[.pointer (some ⟨w.heap.size + 1, 0, none⟩), .pointer (some ⟨w.heap.size, 0, none⟩)] (fun j => endP row p (gi [1, 2] j)) W (hT.below hW) (fun j W' hj hb' => endsAny1_r L ar row cr p ad cp (w.heap.size + 1) w.heap.size (gi [1, 2] j) hd W' ((hR.below hW).below hb') (cell_below c1 hb') (cell_below c9 hb') (cell_below i1 hb')))
  have HV : Hid (anyK (fun j => endP row p (gi [1, 2] j)) [(1 : Int), 2].length = (endP row p 1 || endP row p 2)) := Lib.hid (by show ((false || endP row p 1) || endP row p 2) = _; rw [Bool.false_or])
  clear hR hT
  go_enter Tryz.func97, Tryz.ntmps97
  go_upto_region 1 with (fail)
  obtain ⟨wB, hwB⟩ : ∃ wB, (w.alloc (.cells #[.int .i64 L, .slice ar row.length cr] 108)).alloc (.cells #[.int .i64 p.s.n, .int .i64 p.s.k, .int .i64 p.s.v, .int .i64 p.s.c, .int .i64 p.s.d, .int .i64 p.s.rk, .int .i64 p.s.up, .int .i64 p.s.dn, .slice ad p.s.cv.length cp, .int .i64 p.d, .int .i64 p.u, .bool p.b] 124) = wB := ⟨_, rfl⟩
  have hb : Below w.heap.size w wB := by rw [← hwB]; exact ((Below.refl _ _).alloc (Nat.le_refl _) _).alloc (by simp) _
  have i0 : wB.cell? ⟨w.heap.size, 0, none⟩ = some (.int .i64 L) := by rw [← hwB]; simp [go_sem]
  have i1 : wB.cell? ⟨w.heap.size, 1, none⟩ = some (.slice ar row.length cr) := by rw [← hwB]; simp [go_sem]
  have x0 : wB.cell? ⟨w.heap.size + 1, 0, none⟩ = some (.int .i64 p.s.n) := by rw [← hwB]; simp [go_sem]
  have x1 : wB.cell? ⟨w.heap.size + 1, 1, none⟩ = some (.int .i64 p.s.k) := by rw [← hwB]; simp [go_sem]
  have x2 : wB.cell? ⟨w.heap.size + 1, 2, none⟩ = some (.int .i64 p.s.v) := by rw [← hwB]; simp [go_sem]
  have x3 : wB.cell? ⟨w.heap.size + 1, 3, none⟩ = some (.int .i64 p.s.c) := by rw [← hwB]; simp [go_sem]
  have x4 : wB.cell? ⟨w.heap.size + 1, 4, none⟩ = some (.int .i64 p.s.d) := by rw [← hwB]; simp [go_sem]
  have x5 : wB.cell? ⟨w.heap.size + 1, 5, none⟩ = some (.int .i64 p.s.rk) := by rw [← hwB]; simp [go_sem]
  have x6 : wB.cell? ⟨w.heap.size + 1, 6, none⟩ = some (.int .i64 p.s.up) := by rw [← hwB]; simp [go_sem]
  have x7 : wB.cell? ⟨w.heap.size + 1, 7, none⟩ = some (.int .i64 p.s.dn) := by rw [← hwB]; simp [go_sem]
  have x8 : wB.cell? ⟨w.heap.size + 1, 8, none⟩ = some (.slice ad p.s.cv.length cp) := by rw [← hwB]; simp [go_sem]
  have x9 : wB.cell? ⟨w.heap.size + 1, 9, none⟩ = some (.int .i64 p.d) := by rw [← hwB]; simp [go_sem]
  have x10 : wB.cell? ⟨w.heap.size + 1, 10, none⟩ = some (.int .i64 p.u) := by rw [← hwB]; simp [go_sem]
  have x11 : wB.cell? ⟨w.heap.size + 1, 11, none⟩ = some (.bool p.b) := by rw [← hwB]; simp [go_sem]
  rw [hwB]
  clear hwB
  have HCc := Lib.hid (HC.out wB hb x1 x9 i1)
  rw [HV.out] at HCc
  clear HC HV x0 x1 x2 x3 x4 x5 x6 x7 x8 x9 x10 x11 i0 i1
  go_wp2_with (go_at_call 125; refine HCc.out.mono ?_; rintro e w2 ⟨rfl, hb2⟩)
  go_ret
  exact ⟨rfl, hb.trans (hb2.mono hb.size)⟩
theorem ex_ints2 (w : World) : IntsS (w.alloc (.cells #[.int .i64 1, .int .i64 2] 3)) (some ⟨w.heap.size, 0, none⟩) [1, 2] := by
  refine ⟨by decide, fun i hi => ?_, w.heap.size, 0, fun _ => rfl, fun i hi => ?_⟩
  · have hi : i < 2 := hi
    by_cases e : i = 0
    · subst e; exact ⟨by decide, by decide⟩
    · obtain rfl : i = 1 := by omega
      exact ⟨by decide, by decide⟩
  · have hi : i < 2 := hi
    by_cases e : i = 0
    · subst e; simp [go_sem]; rfl
    · obtain rfl : i = 1 := by omega
      simp [go_sem]; rfl
set_option maxRecDepth 100000 in
set_option maxHeartbeats 8000000 in
theorem code_r (L : Int) (ar : Option Addr) (row : List Pst) (cr : Nat) (p : Pst) (ad : Option Addr) (cp : Nat) (hL : 0 ≤ L ∧ L ≤ 100000) (hd : -100000 ≤ p.d ∧ p.d ≤ 100000) (hv1 : -100000 ≤ p.s.v ∧ p.s.v ≤ 100000) (w : World) (hR : PstS w ar row) :
    Calls Tryz.prog 57 #[.agg #[.int .i64 L, .slice ar row.length cr], .agg #[.int .i64 p.s.n, .int .i64 p.s.k, .int .i64 p.s.v, .int .i64 p.s.c, .int .i64 p.s.d, .int .i64 p.s.rk, .int .i64 p.s.up, .int .i64 p.s.dn, .slice ad p.s.cv.length cp, .int .i64 p.d, .int .i64 p.u, .bool p.b]] w fun e w' => e = .returned (.int .i64 (codP L row p)) ∧ Below w.heap.size w w' := by
  have HH := Lib.hid (fun W (hW : Below w.heap.size w W) => holdsAt_r ar row cr 1 p.d W (hR.below hW))
  have HE := Lib.hid (fun W g (hW : Below w.heap.size w W) hT => endsAny_r L ar row cr p ad cp g hd W (hR.below hW) hT)
  obtain ⟨V, hV⟩ : ∃ V, hldL 1 p.d row 0 = V := ⟨_, rfl⟩
  have HVe := Lib.hid hV
  rw [hV] at HH
  obtain ⟨eb, heb⟩ : ∃ eb, (endP row p 1 || endP row p 2) = eb := ⟨_, rfl⟩
  have HEe := Lib.hid heb
  rw [heb] at HE
  clear hR hV heb
  by_cases h7 : p.s.k = 7
  · have k7 : (p.s.k == 7) = true := by rw [h7]; rfl
    rcases Bool.eq_false_or_eq_true p.b with hpb | hpb
    rotate_left
    · skip
      have hv : Hid (codP L row p = 1) := Lib.hid (by unfold codP; rw [if_pos h7, if_pos (.inl hpb)])
      have HPB := Lib.hid hpb
      clear h7 HH HE hpb
      go_enter Tryz.func57, Tryz.ntmps57
      go_upto_region 1 with (fail)
      obtain ⟨wB, hwB⟩ : ∃ wB, (w.alloc (.cells #[.int .i64 L, .slice ar row.length cr] 108)).alloc (.cells #[.int .i64 p.s.n, .int .i64 p.s.k, .int .i64 p.s.v, .int .i64 p.s.c, .int .i64 p.s.d, .int .i64 p.s.rk, .int .i64 p.s.up, .int .i64 p.s.dn, .slice ad p.s.cv.length cp, .int .i64 p.d, .int .i64 p.u, .bool p.b] 124) = wB := ⟨_, rfl⟩
      have hb : Below w.heap.size w wB := by rw [← hwB]; exact ((Below.refl _ _).alloc (Nat.le_refl _) _).alloc (by simp) _
      have i0 : wB.cell? ⟨w.heap.size, 0, none⟩ = some (.int .i64 L) := by rw [← hwB]; simp [go_sem]
      have i1 : wB.cell? ⟨w.heap.size, 1, none⟩ = some (.slice ar row.length cr) := by rw [← hwB]; simp [go_sem]
      have x0 : wB.cell? ⟨w.heap.size + 1, 0, none⟩ = some (.int .i64 p.s.n) := by rw [← hwB]; simp [go_sem]
      have x1 : wB.cell? ⟨w.heap.size + 1, 1, none⟩ = some (.int .i64 p.s.k) := by rw [← hwB]; simp [go_sem]
      have x2 : wB.cell? ⟨w.heap.size + 1, 2, none⟩ = some (.int .i64 p.s.v) := by rw [← hwB]; simp [go_sem]
      have x3 : wB.cell? ⟨w.heap.size + 1, 3, none⟩ = some (.int .i64 p.s.c) := by rw [← hwB]; simp [go_sem]
      have x4 : wB.cell? ⟨w.heap.size + 1, 4, none⟩ = some (.int .i64 p.s.d) := by rw [← hwB]; simp [go_sem]
      have x5 : wB.cell? ⟨w.heap.size + 1, 5, none⟩ = some (.int .i64 p.s.rk) := by rw [← hwB]; simp [go_sem]
      have x6 : wB.cell? ⟨w.heap.size + 1, 6, none⟩ = some (.int .i64 p.s.up) := by rw [← hwB]; simp [go_sem]
      have x7 : wB.cell? ⟨w.heap.size + 1, 7, none⟩ = some (.int .i64 p.s.dn) := by rw [← hwB]; simp [go_sem]
      have x8 : wB.cell? ⟨w.heap.size + 1, 8, none⟩ = some (.slice ad p.s.cv.length cp) := by rw [← hwB]; simp [go_sem]
      have x9 : wB.cell? ⟨w.heap.size + 1, 9, none⟩ = some (.int .i64 p.d) := by rw [← hwB]; simp [go_sem]
      have x10 : wB.cell? ⟨w.heap.size + 1, 10, none⟩ = some (.int .i64 p.u) := by rw [← hwB]; simp [go_sem]
      have x11 : wB.cell? ⟨w.heap.size + 1, 11, none⟩ = some (.bool p.b) := by rw [← hwB]; simp [go_sem]
      rw [hwB]
      clear hwB
      rw [HPB.out] at x11
      go_wp2_with fail
      go_ret
      exact ⟨by rw [hv.out] <;> rfl, hb⟩
    · by_cases hvv : L - p.d < p.s.v
      · have hv : Hid (codP L row p = 1) := Lib.hid (by unfold codP; rw [if_pos h7, if_pos (.inr hvv)])
        have HPB := Lib.hid hpb
        clear h7 HH HE hpb
        go_enter Tryz.func57, Tryz.ntmps57
        go_upto_region 1 with (fail)
        obtain ⟨wB, hwB⟩ : ∃ wB, (w.alloc (.cells #[.int .i64 L, .slice ar row.length cr] 108)).alloc (.cells #[.int .i64 p.s.n, .int .i64 p.s.k, .int .i64 p.s.v, .int .i64 p.s.c, .int .i64 p.s.d, .int .i64 p.s.rk, .int .i64 p.s.up, .int .i64 p.s.dn, .slice ad p.s.cv.length cp, .int .i64 p.d, .int .i64 p.u, .bool p.b] 124) = wB := ⟨_, rfl⟩
        have hb : Below w.heap.size w wB := by rw [← hwB]; exact ((Below.refl _ _).alloc (Nat.le_refl _) _).alloc (by simp) _
        have i0 : wB.cell? ⟨w.heap.size, 0, none⟩ = some (.int .i64 L) := by rw [← hwB]; simp [go_sem]
        have i1 : wB.cell? ⟨w.heap.size, 1, none⟩ = some (.slice ar row.length cr) := by rw [← hwB]; simp [go_sem]
        have x0 : wB.cell? ⟨w.heap.size + 1, 0, none⟩ = some (.int .i64 p.s.n) := by rw [← hwB]; simp [go_sem]
        have x1 : wB.cell? ⟨w.heap.size + 1, 1, none⟩ = some (.int .i64 p.s.k) := by rw [← hwB]; simp [go_sem]
        have x2 : wB.cell? ⟨w.heap.size + 1, 2, none⟩ = some (.int .i64 p.s.v) := by rw [← hwB]; simp [go_sem]
        have x3 : wB.cell? ⟨w.heap.size + 1, 3, none⟩ = some (.int .i64 p.s.c) := by rw [← hwB]; simp [go_sem]
        have x4 : wB.cell? ⟨w.heap.size + 1, 4, none⟩ = some (.int .i64 p.s.d) := by rw [← hwB]; simp [go_sem]
        have x5 : wB.cell? ⟨w.heap.size + 1, 5, none⟩ = some (.int .i64 p.s.rk) := by rw [← hwB]; simp [go_sem]
        have x6 : wB.cell? ⟨w.heap.size + 1, 6, none⟩ = some (.int .i64 p.s.up) := by rw [← hwB]; simp [go_sem]
        have x7 : wB.cell? ⟨w.heap.size + 1, 7, none⟩ = some (.int .i64 p.s.dn) := by rw [← hwB]; simp [go_sem]
        have x8 : wB.cell? ⟨w.heap.size + 1, 8, none⟩ = some (.slice ad p.s.cv.length cp) := by rw [← hwB]; simp [go_sem]
        have x9 : wB.cell? ⟨w.heap.size + 1, 9, none⟩ = some (.int .i64 p.d) := by rw [← hwB]; simp [go_sem]
        have x10 : wB.cell? ⟨w.heap.size + 1, 10, none⟩ = some (.int .i64 p.u) := by rw [← hwB]; simp [go_sem]
        have x11 : wB.cell? ⟨w.heap.size + 1, 11, none⟩ = some (.bool p.b) := by rw [← hwB]; simp [go_sem]
        rw [hwB]
        clear hwB
        rw [HPB.out] at x11
        go_wp2_with fail
        go_ret
        exact ⟨by rw [hv.out] <;> rfl, hb⟩
      · have hv : Hid (codP L row p = 0) := Lib.hid (by unfold codP; rw [if_pos h7, if_neg (by rw [hpb]; simp; omega)])
        have HPB := Lib.hid hpb
        clear h7 HH HE hpb
        go_enter Tryz.func57, Tryz.ntmps57
        go_upto_region 1 with (fail)
        obtain ⟨wB, hwB⟩ : ∃ wB, (w.alloc (.cells #[.int .i64 L, .slice ar row.length cr] 108)).alloc (.cells #[.int .i64 p.s.n, .int .i64 p.s.k, .int .i64 p.s.v, .int .i64 p.s.c, .int .i64 p.s.d, .int .i64 p.s.rk, .int .i64 p.s.up, .int .i64 p.s.dn, .slice ad p.s.cv.length cp, .int .i64 p.d, .int .i64 p.u, .bool p.b] 124) = wB := ⟨_, rfl⟩
        have hb : Below w.heap.size w wB := by rw [← hwB]; exact ((Below.refl _ _).alloc (Nat.le_refl _) _).alloc (by simp) _
        have i0 : wB.cell? ⟨w.heap.size, 0, none⟩ = some (.int .i64 L) := by rw [← hwB]; simp [go_sem]
        have i1 : wB.cell? ⟨w.heap.size, 1, none⟩ = some (.slice ar row.length cr) := by rw [← hwB]; simp [go_sem]
        have x0 : wB.cell? ⟨w.heap.size + 1, 0, none⟩ = some (.int .i64 p.s.n) := by rw [← hwB]; simp [go_sem]
        have x1 : wB.cell? ⟨w.heap.size + 1, 1, none⟩ = some (.int .i64 p.s.k) := by rw [← hwB]; simp [go_sem]
        have x2 : wB.cell? ⟨w.heap.size + 1, 2, none⟩ = some (.int .i64 p.s.v) := by rw [← hwB]; simp [go_sem]
        have x3 : wB.cell? ⟨w.heap.size + 1, 3, none⟩ = some (.int .i64 p.s.c) := by rw [← hwB]; simp [go_sem]
        have x4 : wB.cell? ⟨w.heap.size + 1, 4, none⟩ = some (.int .i64 p.s.d) := by rw [← hwB]; simp [go_sem]
        have x5 : wB.cell? ⟨w.heap.size + 1, 5, none⟩ = some (.int .i64 p.s.rk) := by rw [← hwB]; simp [go_sem]
        have x6 : wB.cell? ⟨w.heap.size + 1, 6, none⟩ = some (.int .i64 p.s.up) := by rw [← hwB]; simp [go_sem]
        have x7 : wB.cell? ⟨w.heap.size + 1, 7, none⟩ = some (.int .i64 p.s.dn) := by rw [← hwB]; simp [go_sem]
        have x8 : wB.cell? ⟨w.heap.size + 1, 8, none⟩ = some (.slice ad p.s.cv.length cp) := by rw [← hwB]; simp [go_sem]
        have x9 : wB.cell? ⟨w.heap.size + 1, 9, none⟩ = some (.int .i64 p.d) := by rw [← hwB]; simp [go_sem]
        have x10 : wB.cell? ⟨w.heap.size + 1, 10, none⟩ = some (.int .i64 p.u) := by rw [← hwB]; simp [go_sem]
        have x11 : wB.cell? ⟨w.heap.size + 1, 11, none⟩ = some (.bool p.b) := by rw [← hwB]; simp [go_sem]
        rw [hwB]
        clear hwB
        rw [HPB.out] at x11
        go_wp2_with fail
        go_ret
        exact ⟨by rw [hv.out] <;> rfl, hb⟩
  by_cases h6 : p.s.k = 6
  · have k7 : (p.s.k == 7) = false := beq_false_of_ne h7
    have k6 : (p.s.k == 6) = true := by rw [h6]; rfl
    by_cases hdl : p.d = L
    · have dd : (p.d == L) = true := by rw [hdl]; simp
      have hv : Hid (codP L row p = 2) := Lib.hid (by unfold codP; rw [if_neg h7, if_pos h6, if_pos (.inl hdl)])
      clear h7 h6 hdl HE HH
      go_enter Tryz.func57, Tryz.ntmps57
      go_upto_region 1 with (fail)
      obtain ⟨wB, hwB⟩ : ∃ wB, (w.alloc (.cells #[.int .i64 L, .slice ar row.length cr] 108)).alloc (.cells #[.int .i64 p.s.n, .int .i64 p.s.k, .int .i64 p.s.v, .int .i64 p.s.c, .int .i64 p.s.d, .int .i64 p.s.rk, .int .i64 p.s.up, .int .i64 p.s.dn, .slice ad p.s.cv.length cp, .int .i64 p.d, .int .i64 p.u, .bool p.b] 124) = wB := ⟨_, rfl⟩
      have hb : Below w.heap.size w wB := by rw [← hwB]; exact ((Below.refl _ _).alloc (Nat.le_refl _) _).alloc (by simp) _
      have i0 : wB.cell? ⟨w.heap.size, 0, none⟩ = some (.int .i64 L) := by rw [← hwB]; simp [go_sem]
      have i1 : wB.cell? ⟨w.heap.size, 1, none⟩ = some (.slice ar row.length cr) := by rw [← hwB]; simp [go_sem]
      have x0 : wB.cell? ⟨w.heap.size + 1, 0, none⟩ = some (.int .i64 p.s.n) := by rw [← hwB]; simp [go_sem]
      have x1 : wB.cell? ⟨w.heap.size + 1, 1, none⟩ = some (.int .i64 p.s.k) := by rw [← hwB]; simp [go_sem]
      have x2 : wB.cell? ⟨w.heap.size + 1, 2, none⟩ = some (.int .i64 p.s.v) := by rw [← hwB]; simp [go_sem]
      have x3 : wB.cell? ⟨w.heap.size + 1, 3, none⟩ = some (.int .i64 p.s.c) := by rw [← hwB]; simp [go_sem]
      have x4 : wB.cell? ⟨w.heap.size + 1, 4, none⟩ = some (.int .i64 p.s.d) := by rw [← hwB]; simp [go_sem]
      have x5 : wB.cell? ⟨w.heap.size + 1, 5, none⟩ = some (.int .i64 p.s.rk) := by rw [← hwB]; simp [go_sem]
      have x6 : wB.cell? ⟨w.heap.size + 1, 6, none⟩ = some (.int .i64 p.s.up) := by rw [← hwB]; simp [go_sem]
      have x7 : wB.cell? ⟨w.heap.size + 1, 7, none⟩ = some (.int .i64 p.s.dn) := by rw [← hwB]; simp [go_sem]
      have x8 : wB.cell? ⟨w.heap.size + 1, 8, none⟩ = some (.slice ad p.s.cv.length cp) := by rw [← hwB]; simp [go_sem]
      have x9 : wB.cell? ⟨w.heap.size + 1, 9, none⟩ = some (.int .i64 p.d) := by rw [← hwB]; simp [go_sem]
      have x10 : wB.cell? ⟨w.heap.size + 1, 10, none⟩ = some (.int .i64 p.u) := by rw [← hwB]; simp [go_sem]
      have x11 : wB.cell? ⟨w.heap.size + 1, 11, none⟩ = some (.bool p.b) := by rw [← hwB]; simp [go_sem]
      rw [hwB]
      clear hwB
      have hzi := block_lt i0
      have hzx := block_lt x0
      go_wp2_with fail
      refine wp_region_held_drew (S := fun w' => Below wB.heap.size wB w') (by kernel_rfl) ((Below.refl _ _).drew) (fun hHeld => ?_)
      refine takeU (i := 0) (some 26) (.pointer (some ⟨w.heap.size + 1, 9, none⟩)) (by kernel_rfl) (by kernel_rfl) (by kernel_rfl) (by kernel_rfl) (by kernel_rfl) (fun _ => by kernel_rfl) (fun _ _ _ h => h) hHeld ?_
      refine wpAnyH_take (i := 1) (oi := { dst := some 27, op := Go.Op.load 3 (Go.Operand.tmp 26), type := 3, pos := "fault.go:52", after := #[{ on := 0, ground := Go.Ground.data }], guard := none }) (v := .int .i64 p.d) rfl (by kernel_rfl) (by kernel_rfl) (by kernel_rfl) (fun _ _ _ h => h) (.inl ⟨by kernel_rfl, fun w9 h9 => by
        clear hHeld
        have d0 := (h9.cell (p := ⟨w.heap.size + 1, 9, none⟩) hzx).trans x9
        clear h9
        go_simp⟩) hHeld ?_
      refine takeU (i := 2) (some 28) (.pointer (some ⟨w.heap.size, 0, none⟩)) (by kernel_rfl) (by kernel_rfl) (by kernel_rfl) (by kernel_rfl) (by kernel_rfl) (fun _ => by kernel_rfl) (fun _ _ _ h => h) hHeld ?_
      refine wpAnyH_take (i := 3) (oi := { dst := some 29, op := Go.Op.load 3 (Go.Operand.tmp 28), type := 3, pos := "fault.go:52", after := #[{ on := 2, ground := Go.Ground.data }], guard := none }) (v := .int .i64 L) rfl (by kernel_rfl) (by kernel_rfl) (by kernel_rfl) (fun _ _ _ h => h) (.inl ⟨by kernel_rfl, fun w9 h9 => by
        clear hHeld
        have d0 := (h9.cell (p := ⟨w.heap.size, 0, none⟩) hzi).trans i0
        clear h9
        go_simp⟩) hHeld ?_
      refine wpAnyH_take (i := 4) (oi := { dst := some 30, op := Go.Op.binOp Go.BinOp.eql 3 (Go.Operand.tmp 27) (Go.Operand.tmp 29) 3, type := 4, pos := "fault.go:52", after := #[{ on := 1, ground := Go.Ground.data }, { on := 3, ground := Go.Ground.data }], guard := none }) (v := .bool true) rfl (by kernel_rfl) (by kernel_rfl) (by kernel_rfl) (fun _ _ _ h => h) (.inl ⟨by kernel_rfl, fun w9 h9 => by
        clear hHeld h9
        go_simp⟩) hHeld ?_
      refine takeU (i := 5) (some 31) (.bool true) (by kernel_rfl) (by kernel_rfl) (by kernel_rfl) (by kernel_rfl) (by kernel_rfl) (fun _ => by kernel_rfl) (fun _ _ _ h => h) hHeld ?_
      refine skipU (i := 6) (some 32) (by kernel_rfl) (by kernel_rfl) (by kernel_rfl) (by kernel_rfl) (by kernel_rfl) (fun _ _ _ h => h) hHeld ?_
      refine skipU (i := 7) (some 33) (by kernel_rfl) (by kernel_rfl) (by kernel_rfl) (by kernel_rfl) (by kernel_rfl) (fun _ _ _ h => h) hHeld ?_
      refine skipU (i := 8) (some 34) (by kernel_rfl) (by kernel_rfl) (by kernel_rfl) (by kernel_rfl) (by kernel_rfl) (fun _ _ _ h => h) hHeld ?_
      refine skipU (i := 9) (some 35) (by kernel_rfl) (by kernel_rfl) (by kernel_rfl) (by kernel_rfl) (by kernel_rfl) (fun _ _ _ h => h) hHeld ?_
      refine skipU (i := 10) (some 36) (by kernel_rfl) (by kernel_rfl) (by kernel_rfl) (by kernel_rfl) (by kernel_rfl) (fun _ _ _ h => h) hHeld ?_
      refine skipU (i := 11) (some 37) (by kernel_rfl) (by kernel_rfl) (by kernel_rfl) (by kernel_rfl) (by kernel_rfl) (fun _ _ _ h => h) hHeld ?_
      refine skipU (i := 12) (some 38) (by kernel_rfl) (by kernel_rfl) (by kernel_rfl) (by kernel_rfl) (by kernel_rfl) (fun _ _ _ h => h) hHeld ?_
      refine skipU (i := 13) (some 39) (by kernel_rfl) (by kernel_rfl) (by kernel_rfl) (by kernel_rfl) (by kernel_rfl) (fun _ _ _ h => h) hHeld ?_
      refine skipU (i := 14) (some 40) (by kernel_rfl) (by kernel_rfl) (by kernel_rfl) (by kernel_rfl) (by kernel_rfl) (fun _ _ _ h => h) hHeld ?_
      refine takeU (i := 15) (some 41) (.bool true) (by kernel_rfl) (by kernel_rfl) (by kernel_rfl) (by kernel_rfl) (by kernel_rfl) (fun _ => by kernel_rfl) (fun _ _ _ h => h) hHeld ?_
      refine wpAnyH_done (by kernel_rfl) ?_ _
      try simp only [Act.put, List.setIfInBounds_toArray, List.set_cons_zero, List.set_cons_succ]
      go_wp2_with fail
      go_ret
      exact ⟨by rw [hv.out] <;> rfl, hb.trans (hHeld.mono hb.size)⟩
    · have dd : (p.d == L) = false := beq_false_of_ne hdl
      by_cases hvv : V = p.s.v
      · have d2 : (V != p.s.v) = false := by rw [hvv]; simp
        have hv : Hid (codP L row p = 0) := Lib.hid (by unfold codP; rw [if_neg h7, if_pos h6, if_neg (by rw [HVe.out]; simp [hdl, hvv])])
        clear h7 h6 hdl HE hvv
        go_enter Tryz.func57, Tryz.ntmps57
        go_upto_region 1 with (fail)
        obtain ⟨wB, hwB⟩ : ∃ wB, (w.alloc (.cells #[.int .i64 L, .slice ar row.length cr] 108)).alloc (.cells #[.int .i64 p.s.n, .int .i64 p.s.k, .int .i64 p.s.v, .int .i64 p.s.c, .int .i64 p.s.d, .int .i64 p.s.rk, .int .i64 p.s.up, .int .i64 p.s.dn, .slice ad p.s.cv.length cp, .int .i64 p.d, .int .i64 p.u, .bool p.b] 124) = wB := ⟨_, rfl⟩
        have hb : Below w.heap.size w wB := by rw [← hwB]; exact ((Below.refl _ _).alloc (Nat.le_refl _) _).alloc (by simp) _
        have i0 : wB.cell? ⟨w.heap.size, 0, none⟩ = some (.int .i64 L) := by rw [← hwB]; simp [go_sem]
        have i1 : wB.cell? ⟨w.heap.size, 1, none⟩ = some (.slice ar row.length cr) := by rw [← hwB]; simp [go_sem]
        have x0 : wB.cell? ⟨w.heap.size + 1, 0, none⟩ = some (.int .i64 p.s.n) := by rw [← hwB]; simp [go_sem]
        have x1 : wB.cell? ⟨w.heap.size + 1, 1, none⟩ = some (.int .i64 p.s.k) := by rw [← hwB]; simp [go_sem]
        have x2 : wB.cell? ⟨w.heap.size + 1, 2, none⟩ = some (.int .i64 p.s.v) := by rw [← hwB]; simp [go_sem]
        have x3 : wB.cell? ⟨w.heap.size + 1, 3, none⟩ = some (.int .i64 p.s.c) := by rw [← hwB]; simp [go_sem]
        have x4 : wB.cell? ⟨w.heap.size + 1, 4, none⟩ = some (.int .i64 p.s.d) := by rw [← hwB]; simp [go_sem]
        have x5 : wB.cell? ⟨w.heap.size + 1, 5, none⟩ = some (.int .i64 p.s.rk) := by rw [← hwB]; simp [go_sem]
        have x6 : wB.cell? ⟨w.heap.size + 1, 6, none⟩ = some (.int .i64 p.s.up) := by rw [← hwB]; simp [go_sem]
        have x7 : wB.cell? ⟨w.heap.size + 1, 7, none⟩ = some (.int .i64 p.s.dn) := by rw [← hwB]; simp [go_sem]
        have x8 : wB.cell? ⟨w.heap.size + 1, 8, none⟩ = some (.slice ad p.s.cv.length cp) := by rw [← hwB]; simp [go_sem]
        have x9 : wB.cell? ⟨w.heap.size + 1, 9, none⟩ = some (.int .i64 p.d) := by rw [← hwB]; simp [go_sem]
        have x10 : wB.cell? ⟨w.heap.size + 1, 10, none⟩ = some (.int .i64 p.u) := by rw [← hwB]; simp [go_sem]
        have x11 : wB.cell? ⟨w.heap.size + 1, 11, none⟩ = some (.bool p.b) := by rw [← hwB]; simp [go_sem]
        rw [hwB]
        clear hwB
        have hzi := block_lt i0
        have hzx := block_lt x0
        go_wp2_with fail
        refine wp_region_held_drew (S := fun w' => Below wB.heap.size wB w') (by kernel_rfl) ((Below.refl _ _).drew) (fun hHeld => ?_)
        refine takeU (i := 0) (some 26) (.pointer (some ⟨w.heap.size + 1, 9, none⟩)) (by kernel_rfl) (by kernel_rfl) (by kernel_rfl) (by kernel_rfl) (by kernel_rfl) (fun _ => by kernel_rfl) (fun _ _ _ h => h) hHeld ?_
        refine wpAnyH_take (i := 1) (oi := { dst := some 27, op := Go.Op.load 3 (Go.Operand.tmp 26), type := 3, pos := "fault.go:52", after := #[{ on := 0, ground := Go.Ground.data }], guard := none }) (v := .int .i64 p.d) rfl (by kernel_rfl) (by kernel_rfl) (by kernel_rfl) (fun _ _ _ h => h) (.inl ⟨by kernel_rfl, fun w9 h9 => by
          clear hHeld
          have d0 := (h9.cell (p := ⟨w.heap.size + 1, 9, none⟩) hzx).trans x9
          clear h9
          go_simp⟩) hHeld ?_
        refine takeU (i := 2) (some 28) (.pointer (some ⟨w.heap.size, 0, none⟩)) (by kernel_rfl) (by kernel_rfl) (by kernel_rfl) (by kernel_rfl) (by kernel_rfl) (fun _ => by kernel_rfl) (fun _ _ _ h => h) hHeld ?_
        refine wpAnyH_take (i := 3) (oi := { dst := some 29, op := Go.Op.load 3 (Go.Operand.tmp 28), type := 3, pos := "fault.go:52", after := #[{ on := 2, ground := Go.Ground.data }], guard := none }) (v := .int .i64 L) rfl (by kernel_rfl) (by kernel_rfl) (by kernel_rfl) (fun _ _ _ h => h) (.inl ⟨by kernel_rfl, fun w9 h9 => by
          clear hHeld
          have d0 := (h9.cell (p := ⟨w.heap.size, 0, none⟩) hzi).trans i0
          clear h9
          go_simp⟩) hHeld ?_
        refine wpAnyH_take (i := 4) (oi := { dst := some 30, op := Go.Op.binOp Go.BinOp.eql 3 (Go.Operand.tmp 27) (Go.Operand.tmp 29) 3, type := 4, pos := "fault.go:52", after := #[{ on := 1, ground := Go.Ground.data }, { on := 3, ground := Go.Ground.data }], guard := none }) (v := .bool false) rfl (by kernel_rfl) (by kernel_rfl) (by kernel_rfl) (fun _ _ _ h => h) (.inl ⟨by kernel_rfl, fun w9 h9 => by
          clear hHeld h9
          go_simp⟩) hHeld ?_
        refine takeU (i := 5) (some 31) (.bool false) (by kernel_rfl) (by kernel_rfl) (by kernel_rfl) (by kernel_rfl) (by kernel_rfl) (fun _ => by kernel_rfl) (fun _ _ _ h => h) hHeld ?_
        refine takeU (i := 6) (some 32) (.pointer (some ⟨w.heap.size, 1, none⟩)) (by kernel_rfl) (by kernel_rfl) (by kernel_rfl) (by kernel_rfl) (by kernel_rfl) (fun _ => by kernel_rfl) (fun _ _ _ h => h) hHeld ?_
        refine wpAnyH_take (i := 7) (oi := { dst := some 33, op := Go.Op.load 99 (Go.Operand.tmp 32), type := 99, pos := "fault.go:52", after := #[{ on := 6, ground := Go.Ground.data }, { on := 5, ground := Go.Ground.guard }], guard := some (5, false) }) (v := .slice ar row.length cr) rfl (by kernel_rfl) (by kernel_rfl) (by kernel_rfl) (fun _ _ _ h => h) (.inl ⟨by kernel_rfl, fun w9 h9 => by
          clear hHeld
          have d0 := (h9.cell (p := ⟨w.heap.size, 1, none⟩) hzi).trans i1
          clear h9
          go_simp⟩) hHeld ?_
        refine takeU (i := 8) (some 34) (.pointer (some ⟨w.heap.size + 1, 9, none⟩)) (by kernel_rfl) (by kernel_rfl) (by kernel_rfl) (by kernel_rfl) (by kernel_rfl) (fun _ => by kernel_rfl) (fun _ _ _ h => h) hHeld ?_
        refine wpAnyH_take (i := 9) (oi := { dst := some 35, op := Go.Op.load 3 (Go.Operand.tmp 34), type := 3, pos := "fault.go:52", after := #[{ on := 8, ground := Go.Ground.data }, { on := 5, ground := Go.Ground.guard }], guard := some (5, false) }) (v := .int .i64 p.d) rfl (by kernel_rfl) (by kernel_rfl) (by kernel_rfl) (fun _ _ _ h => h) (.inl ⟨by kernel_rfl, fun w9 h9 => by
          clear hHeld
          have d0 := (h9.cell (p := ⟨w.heap.size + 1, 9, none⟩) hzx).trans x9
          clear h9
          go_simp⟩) hHeld ?_
        refine takeU (i := 11) (some 37) (.pointer (some ⟨w.heap.size + 1, 0, none⟩)) (by kernel_rfl) (by kernel_rfl) (by kernel_rfl) (by kernel_rfl) (by kernel_rfl) (fun _ => by kernel_rfl) (fun _ _ _ h => h) hHeld ?_
        refine takeU (i := 12) (some 38) (.pointer (some ⟨w.heap.size + 1, 2, none⟩)) (by kernel_rfl) (by kernel_rfl) (by kernel_rfl) (by kernel_rfl) (by kernel_rfl) (fun _ => by kernel_rfl) (fun _ _ _ h => h) hHeld ?_
        refine wpAnyH_take (i := 13) (oi := { dst := some 39, op := Go.Op.load 3 (Go.Operand.tmp 38), type := 3, pos := "fault.go:52", after := #[{ on := 12, ground := Go.Ground.data }, { on := 5, ground := Go.Ground.guard }], guard := some (5, false) }) (v := .int .i64 p.s.v) rfl (by kernel_rfl) (by kernel_rfl) (by kernel_rfl) (fun _ _ _ h => h) (.inl ⟨by kernel_rfl, fun w9 h9 => by
          clear hHeld
          have d0 := (h9.cell (p := ⟨w.heap.size + 1, 2, none⟩) hzx).trans x2
          clear h9
          go_simp⟩) hHeld ?_
        try simp only [Act.put, List.setIfInBounds_toArray, List.set_cons_zero, List.set_cons_succ]
        refine wpAnyH_ready (rs := [10]) (by kernel_rfl) (by simp) ?_
        refine AllReadyH.cons (o := { dst := some 36, op := Go.Op.call { callee := Go.Callee.value (Go.Operand.func 49), args := #[Go.Operand.tmp 33, Go.Operand.const (Go.Value.int Go.IntKind.i64 1), Go.Operand.tmp 35], argTypes := #[99, 3, 3] }, type := 3, pos := "fault.go:52", after := #[{ on := 7, ground := Go.Ground.data }, { on := 9, ground := Go.Ground.data }, { on := 5, ground := Go.Ground.chain }, { on := 5, ground := Go.Ground.guard }], guard := some (5, false) }) rfl (fun K hK => ?_) AllReadyH.nil
        go_simp
        go_at_call 49
        refine (HH.out _ (hb.trans (hHeld.mono hb.size))).mono ?_
        rintro e w109 ⟨rfl, hb109⟩
        refine hK.out _ _ (hHeld.trans (hb109.mono hHeld.size)) (fun hHeld => ?_)
        clear hK K hb109
        try simp only [Act.put, List.setIfInBounds_toArray, List.set_cons_zero, List.set_cons_succ]
        refine wpAnyH_take (i := 14) (oi := { dst := some 40, op := Go.Op.binOp Go.BinOp.neq 3 (Go.Operand.tmp 36) (Go.Operand.tmp 39) 3, type := 4, pos := "fault.go:52", after := #[{ on := 10, ground := Go.Ground.data }, { on := 13, ground := Go.Ground.data }, { on := 5, ground := Go.Ground.guard }], guard := some (5, false) }) (v := .bool false) rfl (by kernel_rfl) (by kernel_rfl) (by kernel_rfl) (fun _ _ _ h => h) (.inl ⟨by kernel_rfl, fun w9 h9 => by
          clear hHeld h9
          go_simp⟩) hHeld ?_
        refine takeU (i := 15) (some 41) (.bool false) (by kernel_rfl) (by kernel_rfl) (by kernel_rfl) (by kernel_rfl) (by kernel_rfl) (fun _ => by kernel_rfl) (fun _ _ _ h => h) hHeld ?_
        refine wpAnyH_done (by kernel_rfl) ?_ _
        try simp only [Act.put, List.setIfInBounds_toArray, List.set_cons_zero, List.set_cons_succ]
        go_wp2_with fail
        go_ret
        exact ⟨by rw [hv.out] <;> rfl, hb.trans (hHeld.mono hb.size)⟩
      · have d2 : (V != p.s.v) = true := by simp [hvv]
        have hv : Hid (codP L row p = 2) := Lib.hid (by unfold codP; rw [if_neg h7, if_pos h6, if_pos (.inr (by rw [HVe.out]; exact hvv))])
        clear h7 h6 hdl HE hvv
        go_enter Tryz.func57, Tryz.ntmps57
        go_upto_region 1 with (fail)
        obtain ⟨wB, hwB⟩ : ∃ wB, (w.alloc (.cells #[.int .i64 L, .slice ar row.length cr] 108)).alloc (.cells #[.int .i64 p.s.n, .int .i64 p.s.k, .int .i64 p.s.v, .int .i64 p.s.c, .int .i64 p.s.d, .int .i64 p.s.rk, .int .i64 p.s.up, .int .i64 p.s.dn, .slice ad p.s.cv.length cp, .int .i64 p.d, .int .i64 p.u, .bool p.b] 124) = wB := ⟨_, rfl⟩
        have hb : Below w.heap.size w wB := by rw [← hwB]; exact ((Below.refl _ _).alloc (Nat.le_refl _) _).alloc (by simp) _
        have i0 : wB.cell? ⟨w.heap.size, 0, none⟩ = some (.int .i64 L) := by rw [← hwB]; simp [go_sem]
        have i1 : wB.cell? ⟨w.heap.size, 1, none⟩ = some (.slice ar row.length cr) := by rw [← hwB]; simp [go_sem]
        have x0 : wB.cell? ⟨w.heap.size + 1, 0, none⟩ = some (.int .i64 p.s.n) := by rw [← hwB]; simp [go_sem]
        have x1 : wB.cell? ⟨w.heap.size + 1, 1, none⟩ = some (.int .i64 p.s.k) := by rw [← hwB]; simp [go_sem]
        have x2 : wB.cell? ⟨w.heap.size + 1, 2, none⟩ = some (.int .i64 p.s.v) := by rw [← hwB]; simp [go_sem]
        have x3 : wB.cell? ⟨w.heap.size + 1, 3, none⟩ = some (.int .i64 p.s.c) := by rw [← hwB]; simp [go_sem]
        have x4 : wB.cell? ⟨w.heap.size + 1, 4, none⟩ = some (.int .i64 p.s.d) := by rw [← hwB]; simp [go_sem]
        have x5 : wB.cell? ⟨w.heap.size + 1, 5, none⟩ = some (.int .i64 p.s.rk) := by rw [← hwB]; simp [go_sem]
        have x6 : wB.cell? ⟨w.heap.size + 1, 6, none⟩ = some (.int .i64 p.s.up) := by rw [← hwB]; simp [go_sem]
        have x7 : wB.cell? ⟨w.heap.size + 1, 7, none⟩ = some (.int .i64 p.s.dn) := by rw [← hwB]; simp [go_sem]
        have x8 : wB.cell? ⟨w.heap.size + 1, 8, none⟩ = some (.slice ad p.s.cv.length cp) := by rw [← hwB]; simp [go_sem]
        have x9 : wB.cell? ⟨w.heap.size + 1, 9, none⟩ = some (.int .i64 p.d) := by rw [← hwB]; simp [go_sem]
        have x10 : wB.cell? ⟨w.heap.size + 1, 10, none⟩ = some (.int .i64 p.u) := by rw [← hwB]; simp [go_sem]
        have x11 : wB.cell? ⟨w.heap.size + 1, 11, none⟩ = some (.bool p.b) := by rw [← hwB]; simp [go_sem]
        rw [hwB]
        clear hwB
        have hzi := block_lt i0
        have hzx := block_lt x0
        go_wp2_with fail
        refine wp_region_held_drew (S := fun w' => Below wB.heap.size wB w') (by kernel_rfl) ((Below.refl _ _).drew) (fun hHeld => ?_)
        refine takeU (i := 0) (some 26) (.pointer (some ⟨w.heap.size + 1, 9, none⟩)) (by kernel_rfl) (by kernel_rfl) (by kernel_rfl) (by kernel_rfl) (by kernel_rfl) (fun _ => by kernel_rfl) (fun _ _ _ h => h) hHeld ?_
        refine wpAnyH_take (i := 1) (oi := { dst := some 27, op := Go.Op.load 3 (Go.Operand.tmp 26), type := 3, pos := "fault.go:52", after := #[{ on := 0, ground := Go.Ground.data }], guard := none }) (v := .int .i64 p.d) rfl (by kernel_rfl) (by kernel_rfl) (by kernel_rfl) (fun _ _ _ h => h) (.inl ⟨by kernel_rfl, fun w9 h9 => by
          clear hHeld
          have d0 := (h9.cell (p := ⟨w.heap.size + 1, 9, none⟩) hzx).trans x9
          clear h9
          go_simp⟩) hHeld ?_
        refine takeU (i := 2) (some 28) (.pointer (some ⟨w.heap.size, 0, none⟩)) (by kernel_rfl) (by kernel_rfl) (by kernel_rfl) (by kernel_rfl) (by kernel_rfl) (fun _ => by kernel_rfl) (fun _ _ _ h => h) hHeld ?_
        refine wpAnyH_take (i := 3) (oi := { dst := some 29, op := Go.Op.load 3 (Go.Operand.tmp 28), type := 3, pos := "fault.go:52", after := #[{ on := 2, ground := Go.Ground.data }], guard := none }) (v := .int .i64 L) rfl (by kernel_rfl) (by kernel_rfl) (by kernel_rfl) (fun _ _ _ h => h) (.inl ⟨by kernel_rfl, fun w9 h9 => by
          clear hHeld
          have d0 := (h9.cell (p := ⟨w.heap.size, 0, none⟩) hzi).trans i0
          clear h9
          go_simp⟩) hHeld ?_
        refine wpAnyH_take (i := 4) (oi := { dst := some 30, op := Go.Op.binOp Go.BinOp.eql 3 (Go.Operand.tmp 27) (Go.Operand.tmp 29) 3, type := 4, pos := "fault.go:52", after := #[{ on := 1, ground := Go.Ground.data }, { on := 3, ground := Go.Ground.data }], guard := none }) (v := .bool false) rfl (by kernel_rfl) (by kernel_rfl) (by kernel_rfl) (fun _ _ _ h => h) (.inl ⟨by kernel_rfl, fun w9 h9 => by
          clear hHeld h9
          go_simp⟩) hHeld ?_
        refine takeU (i := 5) (some 31) (.bool false) (by kernel_rfl) (by kernel_rfl) (by kernel_rfl) (by kernel_rfl) (by kernel_rfl) (fun _ => by kernel_rfl) (fun _ _ _ h => h) hHeld ?_
        refine takeU (i := 6) (some 32) (.pointer (some ⟨w.heap.size, 1, none⟩)) (by kernel_rfl) (by kernel_rfl) (by kernel_rfl) (by kernel_rfl) (by kernel_rfl) (fun _ => by kernel_rfl) (fun _ _ _ h => h) hHeld ?_
        refine wpAnyH_take (i := 7) (oi := { dst := some 33, op := Go.Op.load 99 (Go.Operand.tmp 32), type := 99, pos := "fault.go:52", after := #[{ on := 6, ground := Go.Ground.data }, { on := 5, ground := Go.Ground.guard }], guard := some (5, false) }) (v := .slice ar row.length cr) rfl (by kernel_rfl) (by kernel_rfl) (by kernel_rfl) (fun _ _ _ h => h) (.inl ⟨by kernel_rfl, fun w9 h9 => by
          clear hHeld
          have d0 := (h9.cell (p := ⟨w.heap.size, 1, none⟩) hzi).trans i1
          clear h9
          go_simp⟩) hHeld ?_
        refine takeU (i := 8) (some 34) (.pointer (some ⟨w.heap.size + 1, 9, none⟩)) (by kernel_rfl) (by kernel_rfl) (by kernel_rfl) (by kernel_rfl) (by kernel_rfl) (fun _ => by kernel_rfl) (fun _ _ _ h => h) hHeld ?_
        refine wpAnyH_take (i := 9) (oi := { dst := some 35, op := Go.Op.load 3 (Go.Operand.tmp 34), type := 3, pos := "fault.go:52", after := #[{ on := 8, ground := Go.Ground.data }, { on := 5, ground := Go.Ground.guard }], guard := some (5, false) }) (v := .int .i64 p.d) rfl (by kernel_rfl) (by kernel_rfl) (by kernel_rfl) (fun _ _ _ h => h) (.inl ⟨by kernel_rfl, fun w9 h9 => by
          clear hHeld
          have d0 := (h9.cell (p := ⟨w.heap.size + 1, 9, none⟩) hzx).trans x9
          clear h9
          go_simp⟩) hHeld ?_
        refine takeU (i := 11) (some 37) (.pointer (some ⟨w.heap.size + 1, 0, none⟩)) (by kernel_rfl) (by kernel_rfl) (by kernel_rfl) (by kernel_rfl) (by kernel_rfl) (fun _ => by kernel_rfl) (fun _ _ _ h => h) hHeld ?_
        refine takeU (i := 12) (some 38) (.pointer (some ⟨w.heap.size + 1, 2, none⟩)) (by kernel_rfl) (by kernel_rfl) (by kernel_rfl) (by kernel_rfl) (by kernel_rfl) (fun _ => by kernel_rfl) (fun _ _ _ h => h) hHeld ?_
        refine wpAnyH_take (i := 13) (oi := { dst := some 39, op := Go.Op.load 3 (Go.Operand.tmp 38), type := 3, pos := "fault.go:52", after := #[{ on := 12, ground := Go.Ground.data }, { on := 5, ground := Go.Ground.guard }], guard := some (5, false) }) (v := .int .i64 p.s.v) rfl (by kernel_rfl) (by kernel_rfl) (by kernel_rfl) (fun _ _ _ h => h) (.inl ⟨by kernel_rfl, fun w9 h9 => by
          clear hHeld
          have d0 := (h9.cell (p := ⟨w.heap.size + 1, 2, none⟩) hzx).trans x2
          clear h9
          go_simp⟩) hHeld ?_
        try simp only [Act.put, List.setIfInBounds_toArray, List.set_cons_zero, List.set_cons_succ]
        refine wpAnyH_ready (rs := [10]) (by kernel_rfl) (by simp) ?_
        refine AllReadyH.cons (o := { dst := some 36, op := Go.Op.call { callee := Go.Callee.value (Go.Operand.func 49), args := #[Go.Operand.tmp 33, Go.Operand.const (Go.Value.int Go.IntKind.i64 1), Go.Operand.tmp 35], argTypes := #[99, 3, 3] }, type := 3, pos := "fault.go:52", after := #[{ on := 7, ground := Go.Ground.data }, { on := 9, ground := Go.Ground.data }, { on := 5, ground := Go.Ground.chain }, { on := 5, ground := Go.Ground.guard }], guard := some (5, false) }) rfl (fun K hK => ?_) AllReadyH.nil
        go_simp
        go_at_call 49
        refine (HH.out _ (hb.trans (hHeld.mono hb.size))).mono ?_
        rintro e w109 ⟨rfl, hb109⟩
        refine hK.out _ _ (hHeld.trans (hb109.mono hHeld.size)) (fun hHeld => ?_)
        clear hK K hb109
        try simp only [Act.put, List.setIfInBounds_toArray, List.set_cons_zero, List.set_cons_succ]
        refine wpAnyH_take (i := 14) (oi := { dst := some 40, op := Go.Op.binOp Go.BinOp.neq 3 (Go.Operand.tmp 36) (Go.Operand.tmp 39) 3, type := 4, pos := "fault.go:52", after := #[{ on := 10, ground := Go.Ground.data }, { on := 13, ground := Go.Ground.data }, { on := 5, ground := Go.Ground.guard }], guard := some (5, false) }) (v := .bool true) rfl (by kernel_rfl) (by kernel_rfl) (by kernel_rfl) (fun _ _ _ h => h) (.inl ⟨by kernel_rfl, fun w9 h9 => by
          clear hHeld h9
          go_simp⟩) hHeld ?_
        refine takeU (i := 15) (some 41) (.bool true) (by kernel_rfl) (by kernel_rfl) (by kernel_rfl) (by kernel_rfl) (by kernel_rfl) (fun _ => by kernel_rfl) (fun _ _ _ h => h) hHeld ?_
        refine wpAnyH_done (by kernel_rfl) ?_ _
        try simp only [Act.put, List.setIfInBounds_toArray, List.set_cons_zero, List.set_cons_succ]
        go_wp2_with fail
        go_ret
        exact ⟨by rw [hv.out] <;> rfl, hb.trans (hHeld.mono hb.size)⟩
  by_cases h2 : p.s.k = 2
  · cases eb with
    | true =>
      have hv : Hid (codP L row p = 0) := Lib.hid (by unfold codP; rw [if_neg h7, if_neg h6, if_pos (.inl h2), HEe.out, if_pos rfl])
      have k7 : (p.s.k == 7) = false := beq_false_of_ne h7
      have k6 : (p.s.k == 6) = false := beq_false_of_ne h6
      have k2 : (p.s.k == 2) = true := by rw [h2]; rfl
      clear h7 h6 h2 HH
      go_enter Tryz.func57, Tryz.ntmps57
      go_upto_region 1 with (fail)
      obtain ⟨wB, hwB⟩ : ∃ wB, (w.alloc (.cells #[.int .i64 L, .slice ar row.length cr] 108)).alloc (.cells #[.int .i64 p.s.n, .int .i64 p.s.k, .int .i64 p.s.v, .int .i64 p.s.c, .int .i64 p.s.d, .int .i64 p.s.rk, .int .i64 p.s.up, .int .i64 p.s.dn, .slice ad p.s.cv.length cp, .int .i64 p.d, .int .i64 p.u, .bool p.b] 124) = wB := ⟨_, rfl⟩
      have hb : Below w.heap.size w wB := by rw [← hwB]; exact ((Below.refl _ _).alloc (Nat.le_refl _) _).alloc (by simp) _
      have i0 : wB.cell? ⟨w.heap.size, 0, none⟩ = some (.int .i64 L) := by rw [← hwB]; simp [go_sem]
      have i1 : wB.cell? ⟨w.heap.size, 1, none⟩ = some (.slice ar row.length cr) := by rw [← hwB]; simp [go_sem]
      have x0 : wB.cell? ⟨w.heap.size + 1, 0, none⟩ = some (.int .i64 p.s.n) := by rw [← hwB]; simp [go_sem]
      have x1 : wB.cell? ⟨w.heap.size + 1, 1, none⟩ = some (.int .i64 p.s.k) := by rw [← hwB]; simp [go_sem]
      have x2 : wB.cell? ⟨w.heap.size + 1, 2, none⟩ = some (.int .i64 p.s.v) := by rw [← hwB]; simp [go_sem]
      have x3 : wB.cell? ⟨w.heap.size + 1, 3, none⟩ = some (.int .i64 p.s.c) := by rw [← hwB]; simp [go_sem]
      have x4 : wB.cell? ⟨w.heap.size + 1, 4, none⟩ = some (.int .i64 p.s.d) := by rw [← hwB]; simp [go_sem]
      have x5 : wB.cell? ⟨w.heap.size + 1, 5, none⟩ = some (.int .i64 p.s.rk) := by rw [← hwB]; simp [go_sem]
      have x6 : wB.cell? ⟨w.heap.size + 1, 6, none⟩ = some (.int .i64 p.s.up) := by rw [← hwB]; simp [go_sem]
      have x7 : wB.cell? ⟨w.heap.size + 1, 7, none⟩ = some (.int .i64 p.s.dn) := by rw [← hwB]; simp [go_sem]
      have x8 : wB.cell? ⟨w.heap.size + 1, 8, none⟩ = some (.slice ad p.s.cv.length cp) := by rw [← hwB]; simp [go_sem]
      have x9 : wB.cell? ⟨w.heap.size + 1, 9, none⟩ = some (.int .i64 p.d) := by rw [← hwB]; simp [go_sem]
      have x10 : wB.cell? ⟨w.heap.size + 1, 10, none⟩ = some (.int .i64 p.u) := by rw [← hwB]; simp [go_sem]
      have x11 : wB.cell? ⟨w.heap.size + 1, 11, none⟩ = some (.bool p.b) := by rw [← hwB]; simp [go_sem]
      rw [hwB]
      clear hwB
      go_wp2_with (go_at_call 97; refine (HE.out _ (wB.heap.size) ((hb.alloc hb.size _)) (by have := ex_ints2 wB; exact this)).mono ?_; rintro e w2 ⟨rfl, hb2⟩)
      go_ret
      exact ⟨by rw [hv.out] <;> rfl, (hb.alloc hb.size _).trans (hb2.mono (hb.alloc hb.size _).size)⟩
    | false =>
      have hv : Hid (codP L row p = 3) := Lib.hid (by unfold codP; rw [if_neg h7, if_neg h6, if_pos (.inl h2), HEe.out, if_neg (by simp)])
      have k7 : (p.s.k == 7) = false := beq_false_of_ne h7
      have k6 : (p.s.k == 6) = false := beq_false_of_ne h6
      have k2 : (p.s.k == 2) = true := by rw [h2]; rfl
      clear h7 h6 h2 HH
      go_enter Tryz.func57, Tryz.ntmps57
      go_upto_region 1 with (fail)
      obtain ⟨wB, hwB⟩ : ∃ wB, (w.alloc (.cells #[.int .i64 L, .slice ar row.length cr] 108)).alloc (.cells #[.int .i64 p.s.n, .int .i64 p.s.k, .int .i64 p.s.v, .int .i64 p.s.c, .int .i64 p.s.d, .int .i64 p.s.rk, .int .i64 p.s.up, .int .i64 p.s.dn, .slice ad p.s.cv.length cp, .int .i64 p.d, .int .i64 p.u, .bool p.b] 124) = wB := ⟨_, rfl⟩
      have hb : Below w.heap.size w wB := by rw [← hwB]; exact ((Below.refl _ _).alloc (Nat.le_refl _) _).alloc (by simp) _
      have i0 : wB.cell? ⟨w.heap.size, 0, none⟩ = some (.int .i64 L) := by rw [← hwB]; simp [go_sem]
      have i1 : wB.cell? ⟨w.heap.size, 1, none⟩ = some (.slice ar row.length cr) := by rw [← hwB]; simp [go_sem]
      have x0 : wB.cell? ⟨w.heap.size + 1, 0, none⟩ = some (.int .i64 p.s.n) := by rw [← hwB]; simp [go_sem]
      have x1 : wB.cell? ⟨w.heap.size + 1, 1, none⟩ = some (.int .i64 p.s.k) := by rw [← hwB]; simp [go_sem]
      have x2 : wB.cell? ⟨w.heap.size + 1, 2, none⟩ = some (.int .i64 p.s.v) := by rw [← hwB]; simp [go_sem]
      have x3 : wB.cell? ⟨w.heap.size + 1, 3, none⟩ = some (.int .i64 p.s.c) := by rw [← hwB]; simp [go_sem]
      have x4 : wB.cell? ⟨w.heap.size + 1, 4, none⟩ = some (.int .i64 p.s.d) := by rw [← hwB]; simp [go_sem]
      have x5 : wB.cell? ⟨w.heap.size + 1, 5, none⟩ = some (.int .i64 p.s.rk) := by rw [← hwB]; simp [go_sem]
      have x6 : wB.cell? ⟨w.heap.size + 1, 6, none⟩ = some (.int .i64 p.s.up) := by rw [← hwB]; simp [go_sem]
      have x7 : wB.cell? ⟨w.heap.size + 1, 7, none⟩ = some (.int .i64 p.s.dn) := by rw [← hwB]; simp [go_sem]
      have x8 : wB.cell? ⟨w.heap.size + 1, 8, none⟩ = some (.slice ad p.s.cv.length cp) := by rw [← hwB]; simp [go_sem]
      have x9 : wB.cell? ⟨w.heap.size + 1, 9, none⟩ = some (.int .i64 p.d) := by rw [← hwB]; simp [go_sem]
      have x10 : wB.cell? ⟨w.heap.size + 1, 10, none⟩ = some (.int .i64 p.u) := by rw [← hwB]; simp [go_sem]
      have x11 : wB.cell? ⟨w.heap.size + 1, 11, none⟩ = some (.bool p.b) := by rw [← hwB]; simp [go_sem]
      rw [hwB]
      clear hwB
      go_wp2_with (go_at_call 97; refine (HE.out _ (wB.heap.size) ((hb.alloc hb.size _)) (by have := ex_ints2 wB; exact this)).mono ?_; rintro e w2 ⟨rfl, hb2⟩)
      go_ret
      exact ⟨by rw [hv.out] <;> rfl, (hb.alloc hb.size _).trans (hb2.mono (hb.alloc hb.size _).size)⟩
  by_cases h4 : p.s.k = 4
  · cases eb with
    | true =>
      have hv : Hid (codP L row p = 0) := Lib.hid (by unfold codP; rw [if_neg h7, if_neg h6, if_pos (.inr (.inl h4)), HEe.out, if_pos rfl])
      have k7 : (p.s.k == 7) = false := beq_false_of_ne h7
      have k6 : (p.s.k == 6) = false := beq_false_of_ne h6
      have k2 : (p.s.k == 2) = false := beq_false_of_ne h2
      have k4 : (p.s.k == 4) = true := by rw [h4]; rfl
      clear h7 h6 h2 h4 HH
      go_enter Tryz.func57, Tryz.ntmps57
      go_upto_region 1 with (fail)
      obtain ⟨wB, hwB⟩ : ∃ wB, (w.alloc (.cells #[.int .i64 L, .slice ar row.length cr] 108)).alloc (.cells #[.int .i64 p.s.n, .int .i64 p.s.k, .int .i64 p.s.v, .int .i64 p.s.c, .int .i64 p.s.d, .int .i64 p.s.rk, .int .i64 p.s.up, .int .i64 p.s.dn, .slice ad p.s.cv.length cp, .int .i64 p.d, .int .i64 p.u, .bool p.b] 124) = wB := ⟨_, rfl⟩
      have hb : Below w.heap.size w wB := by rw [← hwB]; exact ((Below.refl _ _).alloc (Nat.le_refl _) _).alloc (by simp) _
      have i0 : wB.cell? ⟨w.heap.size, 0, none⟩ = some (.int .i64 L) := by rw [← hwB]; simp [go_sem]
      have i1 : wB.cell? ⟨w.heap.size, 1, none⟩ = some (.slice ar row.length cr) := by rw [← hwB]; simp [go_sem]
      have x0 : wB.cell? ⟨w.heap.size + 1, 0, none⟩ = some (.int .i64 p.s.n) := by rw [← hwB]; simp [go_sem]
      have x1 : wB.cell? ⟨w.heap.size + 1, 1, none⟩ = some (.int .i64 p.s.k) := by rw [← hwB]; simp [go_sem]
      have x2 : wB.cell? ⟨w.heap.size + 1, 2, none⟩ = some (.int .i64 p.s.v) := by rw [← hwB]; simp [go_sem]
      have x3 : wB.cell? ⟨w.heap.size + 1, 3, none⟩ = some (.int .i64 p.s.c) := by rw [← hwB]; simp [go_sem]
      have x4 : wB.cell? ⟨w.heap.size + 1, 4, none⟩ = some (.int .i64 p.s.d) := by rw [← hwB]; simp [go_sem]
      have x5 : wB.cell? ⟨w.heap.size + 1, 5, none⟩ = some (.int .i64 p.s.rk) := by rw [← hwB]; simp [go_sem]
      have x6 : wB.cell? ⟨w.heap.size + 1, 6, none⟩ = some (.int .i64 p.s.up) := by rw [← hwB]; simp [go_sem]
      have x7 : wB.cell? ⟨w.heap.size + 1, 7, none⟩ = some (.int .i64 p.s.dn) := by rw [← hwB]; simp [go_sem]
      have x8 : wB.cell? ⟨w.heap.size + 1, 8, none⟩ = some (.slice ad p.s.cv.length cp) := by rw [← hwB]; simp [go_sem]
      have x9 : wB.cell? ⟨w.heap.size + 1, 9, none⟩ = some (.int .i64 p.d) := by rw [← hwB]; simp [go_sem]
      have x10 : wB.cell? ⟨w.heap.size + 1, 10, none⟩ = some (.int .i64 p.u) := by rw [← hwB]; simp [go_sem]
      have x11 : wB.cell? ⟨w.heap.size + 1, 11, none⟩ = some (.bool p.b) := by rw [← hwB]; simp [go_sem]
      rw [hwB]
      clear hwB
      go_wp2_with (go_at_call 97; refine (HE.out _ (wB.heap.size) ((hb.alloc hb.size _)) (by have := ex_ints2 wB; exact this)).mono ?_; rintro e w2 ⟨rfl, hb2⟩)
      go_ret
      exact ⟨by rw [hv.out] <;> rfl, (hb.alloc hb.size _).trans (hb2.mono (hb.alloc hb.size _).size)⟩
    | false =>
      have hv : Hid (codP L row p = 3) := Lib.hid (by unfold codP; rw [if_neg h7, if_neg h6, if_pos (.inr (.inl h4)), HEe.out, if_neg (by simp)])
      have k7 : (p.s.k == 7) = false := beq_false_of_ne h7
      have k6 : (p.s.k == 6) = false := beq_false_of_ne h6
      have k2 : (p.s.k == 2) = false := beq_false_of_ne h2
      have k4 : (p.s.k == 4) = true := by rw [h4]; rfl
      clear h7 h6 h2 h4 HH
      go_enter Tryz.func57, Tryz.ntmps57
      go_upto_region 1 with (fail)
      obtain ⟨wB, hwB⟩ : ∃ wB, (w.alloc (.cells #[.int .i64 L, .slice ar row.length cr] 108)).alloc (.cells #[.int .i64 p.s.n, .int .i64 p.s.k, .int .i64 p.s.v, .int .i64 p.s.c, .int .i64 p.s.d, .int .i64 p.s.rk, .int .i64 p.s.up, .int .i64 p.s.dn, .slice ad p.s.cv.length cp, .int .i64 p.d, .int .i64 p.u, .bool p.b] 124) = wB := ⟨_, rfl⟩
      have hb : Below w.heap.size w wB := by rw [← hwB]; exact ((Below.refl _ _).alloc (Nat.le_refl _) _).alloc (by simp) _
      have i0 : wB.cell? ⟨w.heap.size, 0, none⟩ = some (.int .i64 L) := by rw [← hwB]; simp [go_sem]
      have i1 : wB.cell? ⟨w.heap.size, 1, none⟩ = some (.slice ar row.length cr) := by rw [← hwB]; simp [go_sem]
      have x0 : wB.cell? ⟨w.heap.size + 1, 0, none⟩ = some (.int .i64 p.s.n) := by rw [← hwB]; simp [go_sem]
      have x1 : wB.cell? ⟨w.heap.size + 1, 1, none⟩ = some (.int .i64 p.s.k) := by rw [← hwB]; simp [go_sem]
      have x2 : wB.cell? ⟨w.heap.size + 1, 2, none⟩ = some (.int .i64 p.s.v) := by rw [← hwB]; simp [go_sem]
      have x3 : wB.cell? ⟨w.heap.size + 1, 3, none⟩ = some (.int .i64 p.s.c) := by rw [← hwB]; simp [go_sem]
      have x4 : wB.cell? ⟨w.heap.size + 1, 4, none⟩ = some (.int .i64 p.s.d) := by rw [← hwB]; simp [go_sem]
      have x5 : wB.cell? ⟨w.heap.size + 1, 5, none⟩ = some (.int .i64 p.s.rk) := by rw [← hwB]; simp [go_sem]
      have x6 : wB.cell? ⟨w.heap.size + 1, 6, none⟩ = some (.int .i64 p.s.up) := by rw [← hwB]; simp [go_sem]
      have x7 : wB.cell? ⟨w.heap.size + 1, 7, none⟩ = some (.int .i64 p.s.dn) := by rw [← hwB]; simp [go_sem]
      have x8 : wB.cell? ⟨w.heap.size + 1, 8, none⟩ = some (.slice ad p.s.cv.length cp) := by rw [← hwB]; simp [go_sem]
      have x9 : wB.cell? ⟨w.heap.size + 1, 9, none⟩ = some (.int .i64 p.d) := by rw [← hwB]; simp [go_sem]
      have x10 : wB.cell? ⟨w.heap.size + 1, 10, none⟩ = some (.int .i64 p.u) := by rw [← hwB]; simp [go_sem]
      have x11 : wB.cell? ⟨w.heap.size + 1, 11, none⟩ = some (.bool p.b) := by rw [← hwB]; simp [go_sem]
      rw [hwB]
      clear hwB
      go_wp2_with (go_at_call 97; refine (HE.out _ (wB.heap.size) ((hb.alloc hb.size _)) (by have := ex_ints2 wB; exact this)).mono ?_; rintro e w2 ⟨rfl, hb2⟩)
      go_ret
      exact ⟨by rw [hv.out] <;> rfl, (hb.alloc hb.size _).trans (hb2.mono (hb.alloc hb.size _).size)⟩
  by_cases h5 : p.s.k = 5
  · cases eb with
    | true =>
      have hv : Hid (codP L row p = 0) := Lib.hid (by unfold codP; rw [if_neg h7, if_neg h6, if_pos (.inr (.inr h5)), HEe.out, if_pos rfl])
      have k7 : (p.s.k == 7) = false := beq_false_of_ne h7
      have k6 : (p.s.k == 6) = false := beq_false_of_ne h6
      have k2 : (p.s.k == 2) = false := beq_false_of_ne h2
      have k4 : (p.s.k == 4) = false := beq_false_of_ne h4
      have k5 : (p.s.k == 5) = true := by rw [h5]; rfl
      clear h7 h6 h2 h4 h5 HH
      go_enter Tryz.func57, Tryz.ntmps57
      go_upto_region 1 with (fail)
      obtain ⟨wB, hwB⟩ : ∃ wB, (w.alloc (.cells #[.int .i64 L, .slice ar row.length cr] 108)).alloc (.cells #[.int .i64 p.s.n, .int .i64 p.s.k, .int .i64 p.s.v, .int .i64 p.s.c, .int .i64 p.s.d, .int .i64 p.s.rk, .int .i64 p.s.up, .int .i64 p.s.dn, .slice ad p.s.cv.length cp, .int .i64 p.d, .int .i64 p.u, .bool p.b] 124) = wB := ⟨_, rfl⟩
      have hb : Below w.heap.size w wB := by rw [← hwB]; exact ((Below.refl _ _).alloc (Nat.le_refl _) _).alloc (by simp) _
      have i0 : wB.cell? ⟨w.heap.size, 0, none⟩ = some (.int .i64 L) := by rw [← hwB]; simp [go_sem]
      have i1 : wB.cell? ⟨w.heap.size, 1, none⟩ = some (.slice ar row.length cr) := by rw [← hwB]; simp [go_sem]
      have x0 : wB.cell? ⟨w.heap.size + 1, 0, none⟩ = some (.int .i64 p.s.n) := by rw [← hwB]; simp [go_sem]
      have x1 : wB.cell? ⟨w.heap.size + 1, 1, none⟩ = some (.int .i64 p.s.k) := by rw [← hwB]; simp [go_sem]
      have x2 : wB.cell? ⟨w.heap.size + 1, 2, none⟩ = some (.int .i64 p.s.v) := by rw [← hwB]; simp [go_sem]
      have x3 : wB.cell? ⟨w.heap.size + 1, 3, none⟩ = some (.int .i64 p.s.c) := by rw [← hwB]; simp [go_sem]
      have x4 : wB.cell? ⟨w.heap.size + 1, 4, none⟩ = some (.int .i64 p.s.d) := by rw [← hwB]; simp [go_sem]
      have x5 : wB.cell? ⟨w.heap.size + 1, 5, none⟩ = some (.int .i64 p.s.rk) := by rw [← hwB]; simp [go_sem]
      have x6 : wB.cell? ⟨w.heap.size + 1, 6, none⟩ = some (.int .i64 p.s.up) := by rw [← hwB]; simp [go_sem]
      have x7 : wB.cell? ⟨w.heap.size + 1, 7, none⟩ = some (.int .i64 p.s.dn) := by rw [← hwB]; simp [go_sem]
      have x8 : wB.cell? ⟨w.heap.size + 1, 8, none⟩ = some (.slice ad p.s.cv.length cp) := by rw [← hwB]; simp [go_sem]
      have x9 : wB.cell? ⟨w.heap.size + 1, 9, none⟩ = some (.int .i64 p.d) := by rw [← hwB]; simp [go_sem]
      have x10 : wB.cell? ⟨w.heap.size + 1, 10, none⟩ = some (.int .i64 p.u) := by rw [← hwB]; simp [go_sem]
      have x11 : wB.cell? ⟨w.heap.size + 1, 11, none⟩ = some (.bool p.b) := by rw [← hwB]; simp [go_sem]
      rw [hwB]
      clear hwB
      go_wp2_with (go_at_call 97; refine (HE.out _ (wB.heap.size) ((hb.alloc hb.size _)) (by have := ex_ints2 wB; exact this)).mono ?_; rintro e w2 ⟨rfl, hb2⟩)
      go_ret
      exact ⟨by rw [hv.out] <;> rfl, (hb.alloc hb.size _).trans (hb2.mono (hb.alloc hb.size _).size)⟩
    | false =>
      have hv : Hid (codP L row p = 3) := Lib.hid (by unfold codP; rw [if_neg h7, if_neg h6, if_pos (.inr (.inr h5)), HEe.out, if_neg (by simp)])
      have k7 : (p.s.k == 7) = false := beq_false_of_ne h7
      have k6 : (p.s.k == 6) = false := beq_false_of_ne h6
      have k2 : (p.s.k == 2) = false := beq_false_of_ne h2
      have k4 : (p.s.k == 4) = false := beq_false_of_ne h4
      have k5 : (p.s.k == 5) = true := by rw [h5]; rfl
      clear h7 h6 h2 h4 h5 HH
      go_enter Tryz.func57, Tryz.ntmps57
      go_upto_region 1 with (fail)
      obtain ⟨wB, hwB⟩ : ∃ wB, (w.alloc (.cells #[.int .i64 L, .slice ar row.length cr] 108)).alloc (.cells #[.int .i64 p.s.n, .int .i64 p.s.k, .int .i64 p.s.v, .int .i64 p.s.c, .int .i64 p.s.d, .int .i64 p.s.rk, .int .i64 p.s.up, .int .i64 p.s.dn, .slice ad p.s.cv.length cp, .int .i64 p.d, .int .i64 p.u, .bool p.b] 124) = wB := ⟨_, rfl⟩
      have hb : Below w.heap.size w wB := by rw [← hwB]; exact ((Below.refl _ _).alloc (Nat.le_refl _) _).alloc (by simp) _
      have i0 : wB.cell? ⟨w.heap.size, 0, none⟩ = some (.int .i64 L) := by rw [← hwB]; simp [go_sem]
      have i1 : wB.cell? ⟨w.heap.size, 1, none⟩ = some (.slice ar row.length cr) := by rw [← hwB]; simp [go_sem]
      have x0 : wB.cell? ⟨w.heap.size + 1, 0, none⟩ = some (.int .i64 p.s.n) := by rw [← hwB]; simp [go_sem]
      have x1 : wB.cell? ⟨w.heap.size + 1, 1, none⟩ = some (.int .i64 p.s.k) := by rw [← hwB]; simp [go_sem]
      have x2 : wB.cell? ⟨w.heap.size + 1, 2, none⟩ = some (.int .i64 p.s.v) := by rw [← hwB]; simp [go_sem]
      have x3 : wB.cell? ⟨w.heap.size + 1, 3, none⟩ = some (.int .i64 p.s.c) := by rw [← hwB]; simp [go_sem]
      have x4 : wB.cell? ⟨w.heap.size + 1, 4, none⟩ = some (.int .i64 p.s.d) := by rw [← hwB]; simp [go_sem]
      have x5 : wB.cell? ⟨w.heap.size + 1, 5, none⟩ = some (.int .i64 p.s.rk) := by rw [← hwB]; simp [go_sem]
      have x6 : wB.cell? ⟨w.heap.size + 1, 6, none⟩ = some (.int .i64 p.s.up) := by rw [← hwB]; simp [go_sem]
      have x7 : wB.cell? ⟨w.heap.size + 1, 7, none⟩ = some (.int .i64 p.s.dn) := by rw [← hwB]; simp [go_sem]
      have x8 : wB.cell? ⟨w.heap.size + 1, 8, none⟩ = some (.slice ad p.s.cv.length cp) := by rw [← hwB]; simp [go_sem]
      have x9 : wB.cell? ⟨w.heap.size + 1, 9, none⟩ = some (.int .i64 p.d) := by rw [← hwB]; simp [go_sem]
      have x10 : wB.cell? ⟨w.heap.size + 1, 10, none⟩ = some (.int .i64 p.u) := by rw [← hwB]; simp [go_sem]
      have x11 : wB.cell? ⟨w.heap.size + 1, 11, none⟩ = some (.bool p.b) := by rw [← hwB]; simp [go_sem]
      rw [hwB]
      clear hwB
      go_wp2_with (go_at_call 97; refine (HE.out _ (wB.heap.size) ((hb.alloc hb.size _)) (by have := ex_ints2 wB; exact this)).mono ?_; rintro e w2 ⟨rfl, hb2⟩)
      go_ret
      exact ⟨by rw [hv.out] <;> rfl, (hb.alloc hb.size _).trans (hb2.mono (hb.alloc hb.size _).size)⟩
  by_cases h1 : p.s.k = 1
  · have k7 : (p.s.k == 7) = false := beq_false_of_ne h7
    have k6 : (p.s.k == 6) = false := beq_false_of_ne h6
    have k2 : (p.s.k == 2) = false := beq_false_of_ne h2
    have k4 : (p.s.k == 4) = false := beq_false_of_ne h4
    have k5 : (p.s.k == 5) = false := beq_false_of_ne h5
    have k1 : (p.s.k == 1) = true := by rw [h1]; rfl
    by_cases hdl : p.d = L
    · have hv : Hid (codP L row p = 4) := Lib.hid (by unfold codP; rw [if_neg h7, if_neg h6, if_neg (by omega), if_pos (.inl h1), if_pos hdl])
      have dd : (p.d == L) = true := by rw [hdl]; simp
      clear hdl HH HE h7 h6 h2 h4 h5 h1
      go_enter Tryz.func57, Tryz.ntmps57
      go_upto_region 1 with (fail)
      obtain ⟨wB, hwB⟩ : ∃ wB, (w.alloc (.cells #[.int .i64 L, .slice ar row.length cr] 108)).alloc (.cells #[.int .i64 p.s.n, .int .i64 p.s.k, .int .i64 p.s.v, .int .i64 p.s.c, .int .i64 p.s.d, .int .i64 p.s.rk, .int .i64 p.s.up, .int .i64 p.s.dn, .slice ad p.s.cv.length cp, .int .i64 p.d, .int .i64 p.u, .bool p.b] 124) = wB := ⟨_, rfl⟩
      have hb : Below w.heap.size w wB := by rw [← hwB]; exact ((Below.refl _ _).alloc (Nat.le_refl _) _).alloc (by simp) _
      have i0 : wB.cell? ⟨w.heap.size, 0, none⟩ = some (.int .i64 L) := by rw [← hwB]; simp [go_sem]
      have i1 : wB.cell? ⟨w.heap.size, 1, none⟩ = some (.slice ar row.length cr) := by rw [← hwB]; simp [go_sem]
      have x0 : wB.cell? ⟨w.heap.size + 1, 0, none⟩ = some (.int .i64 p.s.n) := by rw [← hwB]; simp [go_sem]
      have x1 : wB.cell? ⟨w.heap.size + 1, 1, none⟩ = some (.int .i64 p.s.k) := by rw [← hwB]; simp [go_sem]
      have x2 : wB.cell? ⟨w.heap.size + 1, 2, none⟩ = some (.int .i64 p.s.v) := by rw [← hwB]; simp [go_sem]
      have x3 : wB.cell? ⟨w.heap.size + 1, 3, none⟩ = some (.int .i64 p.s.c) := by rw [← hwB]; simp [go_sem]
      have x4 : wB.cell? ⟨w.heap.size + 1, 4, none⟩ = some (.int .i64 p.s.d) := by rw [← hwB]; simp [go_sem]
      have x5 : wB.cell? ⟨w.heap.size + 1, 5, none⟩ = some (.int .i64 p.s.rk) := by rw [← hwB]; simp [go_sem]
      have x6 : wB.cell? ⟨w.heap.size + 1, 6, none⟩ = some (.int .i64 p.s.up) := by rw [← hwB]; simp [go_sem]
      have x7 : wB.cell? ⟨w.heap.size + 1, 7, none⟩ = some (.int .i64 p.s.dn) := by rw [← hwB]; simp [go_sem]
      have x8 : wB.cell? ⟨w.heap.size + 1, 8, none⟩ = some (.slice ad p.s.cv.length cp) := by rw [← hwB]; simp [go_sem]
      have x9 : wB.cell? ⟨w.heap.size + 1, 9, none⟩ = some (.int .i64 p.d) := by rw [← hwB]; simp [go_sem]
      have x10 : wB.cell? ⟨w.heap.size + 1, 10, none⟩ = some (.int .i64 p.u) := by rw [← hwB]; simp [go_sem]
      have x11 : wB.cell? ⟨w.heap.size + 1, 11, none⟩ = some (.bool p.b) := by rw [← hwB]; simp [go_sem]
      rw [hwB]
      clear hwB
      go_wp2_with fail
      go_ret
      exact ⟨by rw [hv.out] <;> rfl, hb⟩
    · have hv : Hid (codP L row p = 0) := Lib.hid (by unfold codP; rw [if_neg h7, if_neg h6, if_neg (by omega), if_pos (.inl h1), if_neg hdl])
      have dd : (p.d == L) = false := beq_false_of_ne hdl
      clear hdl HH HE h7 h6 h2 h4 h5 h1
      go_enter Tryz.func57, Tryz.ntmps57
      go_upto_region 1 with (fail)
      obtain ⟨wB, hwB⟩ : ∃ wB, (w.alloc (.cells #[.int .i64 L, .slice ar row.length cr] 108)).alloc (.cells #[.int .i64 p.s.n, .int .i64 p.s.k, .int .i64 p.s.v, .int .i64 p.s.c, .int .i64 p.s.d, .int .i64 p.s.rk, .int .i64 p.s.up, .int .i64 p.s.dn, .slice ad p.s.cv.length cp, .int .i64 p.d, .int .i64 p.u, .bool p.b] 124) = wB := ⟨_, rfl⟩
      have hb : Below w.heap.size w wB := by rw [← hwB]; exact ((Below.refl _ _).alloc (Nat.le_refl _) _).alloc (by simp) _
      have i0 : wB.cell? ⟨w.heap.size, 0, none⟩ = some (.int .i64 L) := by rw [← hwB]; simp [go_sem]
      have i1 : wB.cell? ⟨w.heap.size, 1, none⟩ = some (.slice ar row.length cr) := by rw [← hwB]; simp [go_sem]
      have x0 : wB.cell? ⟨w.heap.size + 1, 0, none⟩ = some (.int .i64 p.s.n) := by rw [← hwB]; simp [go_sem]
      have x1 : wB.cell? ⟨w.heap.size + 1, 1, none⟩ = some (.int .i64 p.s.k) := by rw [← hwB]; simp [go_sem]
      have x2 : wB.cell? ⟨w.heap.size + 1, 2, none⟩ = some (.int .i64 p.s.v) := by rw [← hwB]; simp [go_sem]
      have x3 : wB.cell? ⟨w.heap.size + 1, 3, none⟩ = some (.int .i64 p.s.c) := by rw [← hwB]; simp [go_sem]
      have x4 : wB.cell? ⟨w.heap.size + 1, 4, none⟩ = some (.int .i64 p.s.d) := by rw [← hwB]; simp [go_sem]
      have x5 : wB.cell? ⟨w.heap.size + 1, 5, none⟩ = some (.int .i64 p.s.rk) := by rw [← hwB]; simp [go_sem]
      have x6 : wB.cell? ⟨w.heap.size + 1, 6, none⟩ = some (.int .i64 p.s.up) := by rw [← hwB]; simp [go_sem]
      have x7 : wB.cell? ⟨w.heap.size + 1, 7, none⟩ = some (.int .i64 p.s.dn) := by rw [← hwB]; simp [go_sem]
      have x8 : wB.cell? ⟨w.heap.size + 1, 8, none⟩ = some (.slice ad p.s.cv.length cp) := by rw [← hwB]; simp [go_sem]
      have x9 : wB.cell? ⟨w.heap.size + 1, 9, none⟩ = some (.int .i64 p.d) := by rw [← hwB]; simp [go_sem]
      have x10 : wB.cell? ⟨w.heap.size + 1, 10, none⟩ = some (.int .i64 p.u) := by rw [← hwB]; simp [go_sem]
      have x11 : wB.cell? ⟨w.heap.size + 1, 11, none⟩ = some (.bool p.b) := by rw [← hwB]; simp [go_sem]
      rw [hwB]
      clear hwB
      go_wp2_with fail
      go_ret
      exact ⟨by rw [hv.out] <;> rfl, hb⟩
  by_cases h3 : p.s.k = 3
  · have k7 : (p.s.k == 7) = false := beq_false_of_ne h7
    have k6 : (p.s.k == 6) = false := beq_false_of_ne h6
    have k2 : (p.s.k == 2) = false := beq_false_of_ne h2
    have k4 : (p.s.k == 4) = false := beq_false_of_ne h4
    have k5 : (p.s.k == 5) = false := beq_false_of_ne h5
    have k1 : (p.s.k == 1) = false := beq_false_of_ne h1
    have k3 : (p.s.k == 3) = true := by rw [h3]; rfl
    by_cases hdl : p.d = L
    · have hv : Hid (codP L row p = 4) := Lib.hid (by unfold codP; rw [if_neg h7, if_neg h6, if_neg (by omega), if_pos (.inr h3), if_pos hdl])
      have dd : (p.d == L) = true := by rw [hdl]; simp
      clear hdl HH HE h7 h6 h2 h4 h5 h1 h3
      go_enter Tryz.func57, Tryz.ntmps57
      go_upto_region 1 with (fail)
      obtain ⟨wB, hwB⟩ : ∃ wB, (w.alloc (.cells #[.int .i64 L, .slice ar row.length cr] 108)).alloc (.cells #[.int .i64 p.s.n, .int .i64 p.s.k, .int .i64 p.s.v, .int .i64 p.s.c, .int .i64 p.s.d, .int .i64 p.s.rk, .int .i64 p.s.up, .int .i64 p.s.dn, .slice ad p.s.cv.length cp, .int .i64 p.d, .int .i64 p.u, .bool p.b] 124) = wB := ⟨_, rfl⟩
      have hb : Below w.heap.size w wB := by rw [← hwB]; exact ((Below.refl _ _).alloc (Nat.le_refl _) _).alloc (by simp) _
      have i0 : wB.cell? ⟨w.heap.size, 0, none⟩ = some (.int .i64 L) := by rw [← hwB]; simp [go_sem]
      have i1 : wB.cell? ⟨w.heap.size, 1, none⟩ = some (.slice ar row.length cr) := by rw [← hwB]; simp [go_sem]
      have x0 : wB.cell? ⟨w.heap.size + 1, 0, none⟩ = some (.int .i64 p.s.n) := by rw [← hwB]; simp [go_sem]
      have x1 : wB.cell? ⟨w.heap.size + 1, 1, none⟩ = some (.int .i64 p.s.k) := by rw [← hwB]; simp [go_sem]
      have x2 : wB.cell? ⟨w.heap.size + 1, 2, none⟩ = some (.int .i64 p.s.v) := by rw [← hwB]; simp [go_sem]
      have x3 : wB.cell? ⟨w.heap.size + 1, 3, none⟩ = some (.int .i64 p.s.c) := by rw [← hwB]; simp [go_sem]
      have x4 : wB.cell? ⟨w.heap.size + 1, 4, none⟩ = some (.int .i64 p.s.d) := by rw [← hwB]; simp [go_sem]
      have x5 : wB.cell? ⟨w.heap.size + 1, 5, none⟩ = some (.int .i64 p.s.rk) := by rw [← hwB]; simp [go_sem]
      have x6 : wB.cell? ⟨w.heap.size + 1, 6, none⟩ = some (.int .i64 p.s.up) := by rw [← hwB]; simp [go_sem]
      have x7 : wB.cell? ⟨w.heap.size + 1, 7, none⟩ = some (.int .i64 p.s.dn) := by rw [← hwB]; simp [go_sem]
      have x8 : wB.cell? ⟨w.heap.size + 1, 8, none⟩ = some (.slice ad p.s.cv.length cp) := by rw [← hwB]; simp [go_sem]
      have x9 : wB.cell? ⟨w.heap.size + 1, 9, none⟩ = some (.int .i64 p.d) := by rw [← hwB]; simp [go_sem]
      have x10 : wB.cell? ⟨w.heap.size + 1, 10, none⟩ = some (.int .i64 p.u) := by rw [← hwB]; simp [go_sem]
      have x11 : wB.cell? ⟨w.heap.size + 1, 11, none⟩ = some (.bool p.b) := by rw [← hwB]; simp [go_sem]
      rw [hwB]
      clear hwB
      go_wp2_with fail
      go_ret
      exact ⟨by rw [hv.out] <;> rfl, hb⟩
    · have hv : Hid (codP L row p = 0) := Lib.hid (by unfold codP; rw [if_neg h7, if_neg h6, if_neg (by omega), if_pos (.inr h3), if_neg hdl])
      have dd : (p.d == L) = false := beq_false_of_ne hdl
      clear hdl HH HE h7 h6 h2 h4 h5 h1 h3
      go_enter Tryz.func57, Tryz.ntmps57
      go_upto_region 1 with (fail)
      obtain ⟨wB, hwB⟩ : ∃ wB, (w.alloc (.cells #[.int .i64 L, .slice ar row.length cr] 108)).alloc (.cells #[.int .i64 p.s.n, .int .i64 p.s.k, .int .i64 p.s.v, .int .i64 p.s.c, .int .i64 p.s.d, .int .i64 p.s.rk, .int .i64 p.s.up, .int .i64 p.s.dn, .slice ad p.s.cv.length cp, .int .i64 p.d, .int .i64 p.u, .bool p.b] 124) = wB := ⟨_, rfl⟩
      have hb : Below w.heap.size w wB := by rw [← hwB]; exact ((Below.refl _ _).alloc (Nat.le_refl _) _).alloc (by simp) _
      have i0 : wB.cell? ⟨w.heap.size, 0, none⟩ = some (.int .i64 L) := by rw [← hwB]; simp [go_sem]
      have i1 : wB.cell? ⟨w.heap.size, 1, none⟩ = some (.slice ar row.length cr) := by rw [← hwB]; simp [go_sem]
      have x0 : wB.cell? ⟨w.heap.size + 1, 0, none⟩ = some (.int .i64 p.s.n) := by rw [← hwB]; simp [go_sem]
      have x1 : wB.cell? ⟨w.heap.size + 1, 1, none⟩ = some (.int .i64 p.s.k) := by rw [← hwB]; simp [go_sem]
      have x2 : wB.cell? ⟨w.heap.size + 1, 2, none⟩ = some (.int .i64 p.s.v) := by rw [← hwB]; simp [go_sem]
      have x3 : wB.cell? ⟨w.heap.size + 1, 3, none⟩ = some (.int .i64 p.s.c) := by rw [← hwB]; simp [go_sem]
      have x4 : wB.cell? ⟨w.heap.size + 1, 4, none⟩ = some (.int .i64 p.s.d) := by rw [← hwB]; simp [go_sem]
      have x5 : wB.cell? ⟨w.heap.size + 1, 5, none⟩ = some (.int .i64 p.s.rk) := by rw [← hwB]; simp [go_sem]
      have x6 : wB.cell? ⟨w.heap.size + 1, 6, none⟩ = some (.int .i64 p.s.up) := by rw [← hwB]; simp [go_sem]
      have x7 : wB.cell? ⟨w.heap.size + 1, 7, none⟩ = some (.int .i64 p.s.dn) := by rw [← hwB]; simp [go_sem]
      have x8 : wB.cell? ⟨w.heap.size + 1, 8, none⟩ = some (.slice ad p.s.cv.length cp) := by rw [← hwB]; simp [go_sem]
      have x9 : wB.cell? ⟨w.heap.size + 1, 9, none⟩ = some (.int .i64 p.d) := by rw [← hwB]; simp [go_sem]
      have x10 : wB.cell? ⟨w.heap.size + 1, 10, none⟩ = some (.int .i64 p.u) := by rw [← hwB]; simp [go_sem]
      have x11 : wB.cell? ⟨w.heap.size + 1, 11, none⟩ = some (.bool p.b) := by rw [← hwB]; simp [go_sem]
      rw [hwB]
      clear hwB
      go_wp2_with fail
      go_ret
      exact ⟨by rw [hv.out] <;> rfl, hb⟩
  have hv : Hid (codP L row p = 0) := Lib.hid (by unfold codP; rw [if_neg h7, if_neg h6, if_neg (by omega), if_neg (by omega)])
  have k7 : (p.s.k == 7) = false := beq_false_of_ne h7
  have k6 : (p.s.k == 6) = false := beq_false_of_ne h6
  have k2 : (p.s.k == 2) = false := beq_false_of_ne h2
  have k4 : (p.s.k == 4) = false := beq_false_of_ne h4
  have k5 : (p.s.k == 5) = false := beq_false_of_ne h5
  have k1 : (p.s.k == 1) = false := beq_false_of_ne h1
  have k3 : (p.s.k == 3) = false := beq_false_of_ne h3
  clear h7 h6 h2 h4 h5 h1 h3 HH HE
  go_enter Tryz.func57, Tryz.ntmps57
  go_upto_region 1 with (fail)
  obtain ⟨wB, hwB⟩ : ∃ wB, (w.alloc (.cells #[.int .i64 L, .slice ar row.length cr] 108)).alloc (.cells #[.int .i64 p.s.n, .int .i64 p.s.k, .int .i64 p.s.v, .int .i64 p.s.c, .int .i64 p.s.d, .int .i64 p.s.rk, .int .i64 p.s.up, .int .i64 p.s.dn, .slice ad p.s.cv.length cp, .int .i64 p.d, .int .i64 p.u, .bool p.b] 124) = wB := ⟨_, rfl⟩
  have hb : Below w.heap.size w wB := by rw [← hwB]; exact ((Below.refl _ _).alloc (Nat.le_refl _) _).alloc (by simp) _
  have i0 : wB.cell? ⟨w.heap.size, 0, none⟩ = some (.int .i64 L) := by rw [← hwB]; simp [go_sem]
  have i1 : wB.cell? ⟨w.heap.size, 1, none⟩ = some (.slice ar row.length cr) := by rw [← hwB]; simp [go_sem]
  have x0 : wB.cell? ⟨w.heap.size + 1, 0, none⟩ = some (.int .i64 p.s.n) := by rw [← hwB]; simp [go_sem]
  have x1 : wB.cell? ⟨w.heap.size + 1, 1, none⟩ = some (.int .i64 p.s.k) := by rw [← hwB]; simp [go_sem]
  have x2 : wB.cell? ⟨w.heap.size + 1, 2, none⟩ = some (.int .i64 p.s.v) := by rw [← hwB]; simp [go_sem]
  have x3 : wB.cell? ⟨w.heap.size + 1, 3, none⟩ = some (.int .i64 p.s.c) := by rw [← hwB]; simp [go_sem]
  have x4 : wB.cell? ⟨w.heap.size + 1, 4, none⟩ = some (.int .i64 p.s.d) := by rw [← hwB]; simp [go_sem]
  have x5 : wB.cell? ⟨w.heap.size + 1, 5, none⟩ = some (.int .i64 p.s.rk) := by rw [← hwB]; simp [go_sem]
  have x6 : wB.cell? ⟨w.heap.size + 1, 6, none⟩ = some (.int .i64 p.s.up) := by rw [← hwB]; simp [go_sem]
  have x7 : wB.cell? ⟨w.heap.size + 1, 7, none⟩ = some (.int .i64 p.s.dn) := by rw [← hwB]; simp [go_sem]
  have x8 : wB.cell? ⟨w.heap.size + 1, 8, none⟩ = some (.slice ad p.s.cv.length cp) := by rw [← hwB]; simp [go_sem]
  have x9 : wB.cell? ⟨w.heap.size + 1, 9, none⟩ = some (.int .i64 p.d) := by rw [← hwB]; simp [go_sem]
  have x10 : wB.cell? ⟨w.heap.size + 1, 10, none⟩ = some (.int .i64 p.u) := by rw [← hwB]; simp [go_sem]
  have x11 : wB.cell? ⟨w.heap.size + 1, 11, none⟩ = some (.bool p.b) := by rw [← hwB]; simp [go_sem]
  rw [hwB]
  clear hwB
  go_wp2_with fail
  go_ret
  exact ⟨by rw [hv.out] <;> rfl, hb⟩
end Go.Proofs.YtlpdjinhkmgbgaaGreatDoor

namespace Go.Proofs
open Go.Shelf
def Tryz.laysSortF_ren : Go.Shelf.Ren := ⟨fun | 6 => 58 | 15 => 99 | 14 => 98 | 28 => 135 | 29 => 136 | 20 => 127 | 21 => 128 | 22 => 129 | 23 => 130 | 24 => 131 | 25 => 132 | 26 => 133 | 27 => 134 | 46 => 151 | 47 => 152 | 48 => 153 | 49 => 154 | 50 => 155 | 57 => 168 | n => n, fun | 22 => 62 | 24 => 113 | 25 => 114 | 3 => 3 | 39 => 56 | 0 => 0 | 53 => 178 | 55 => 180 | 4 => 4 | 46 => 171 | 45 => 170 | 50 => 175 | 5 => 5 | 9 => 9 | 66 => 191 | 70 => 195 | 76 => 204 | 77 => 205 | n => n, fun | n => n⟩
theorem Tryz.laysSortF : Go.Proofs.SlLaysF0.n6 Tryz.prog Tryz.laysSortF_ren := {
  mixed := by kernel_rfl
  f6 := ⟨Tryz.f58.name, by decide, Tryz.func58.trans (congrArg some (by kernel_rfl))⟩
  f14 := ⟨Tryz.f98.name, by decide, Tryz.func98.trans (congrArg some (by kernel_rfl))⟩
  f15 := Tryz.func99.trans (congrArg some (by kernel_rfl))
  f20 := ⟨Tryz.f127.name, by decide, Tryz.func127.trans (congrArg some (by kernel_rfl))⟩
  f21 := ⟨Tryz.f128.name, by decide, Tryz.func128.trans (congrArg some (by kernel_rfl))⟩
  f22 := ⟨Tryz.f129.name, by decide, Tryz.func129.trans (congrArg some (by kernel_rfl))⟩
  f23 := ⟨Tryz.f130.name, by decide, Tryz.func130.trans (congrArg some (by kernel_rfl))⟩
  f24 := ⟨Tryz.f131.name, by decide, Tryz.func131.trans (congrArg some (by kernel_rfl))⟩
  f25 := ⟨Tryz.f132.name, by decide, Tryz.func132.trans (congrArg some (by kernel_rfl))⟩
  f26 := ⟨Tryz.f133.name, by decide, Tryz.func133.trans (congrArg some (by kernel_rfl))⟩
  f27 := ⟨Tryz.f134.name, by decide, Tryz.func134.trans (congrArg some (by kernel_rfl))⟩
  f28 := Tryz.func135.trans (congrArg some (by kernel_rfl))
  f29 := Tryz.func136.trans (congrArg some (by kernel_rfl))
  f46 := ⟨Tryz.f151.name, by decide, Tryz.func151.trans (congrArg some (by kernel_rfl))⟩
  f47 := Tryz.func152.trans (congrArg some (by kernel_rfl))
  f48 := Tryz.func153.trans (congrArg some (by kernel_rfl))
  f49 := ⟨Tryz.f154.name, by decide, Tryz.func154.trans (congrArg some (by kernel_rfl))⟩
  f50 := ⟨Tryz.f155.name, by decide, Tryz.func155.trans (congrArg some (by kernel_rfl))⟩
  f57 := ⟨Tryz.f168.name, by decide, Tryz.func168.trans (congrArg some (by kernel_rfl))⟩
  t0 := Tryz.underlying0
  a0 := Tryz.isAgg0
  z0 := Tryz.sizeOf0
  v0 := Tryz.zeroValue0
  t3 := Tryz.underlying3
  a3 := Tryz.isAgg3
  z3 := Tryz.sizeOf3
  v3 := Tryz.zeroValue3
  t4 := Tryz.underlying4
  a4 := Tryz.isAgg4
  z4 := Tryz.sizeOf4
  v4 := Tryz.zeroValue4
  t5 := Tryz.underlying5
  a5 := Tryz.isAgg5
  z5 := Tryz.sizeOf5
  v5 := Tryz.zeroValue5
  t9 := Tryz.underlying9
  a9 := Tryz.isAgg9
  z9 := Tryz.sizeOf9
  v9 := Tryz.zeroValue9
  t22 := Tryz.underlying62
  a22 := Tryz.isAgg62
  z22 := Tryz.sizeOf62
  v22 := Tryz.zeroValue62
  t25 := Tryz.underlying114
  a25 := Tryz.isAgg114
  z25 := Tryz.sizeOf114
  v25 := Tryz.zeroValue114
  t39 := Tryz.underlying56
  a39 := Tryz.isAgg56
  z39 := Tryz.sizeOf56
  v39 := Tryz.zeroValue56
  t45 := Tryz.underlying170
  a45 := Tryz.isAgg170
  z45 := Tryz.sizeOf170
  v45 := Tryz.zeroValue170
  t46 := Tryz.underlying171
  a46 := Tryz.isAgg171
  z46 := Tryz.sizeOf171
  v46 := Tryz.zeroValue171
  t50 := Tryz.underlying175
  a50 := Tryz.isAgg175
  z50 := Tryz.sizeOf175
  v50 := Tryz.zeroValue175
  t53 := Tryz.underlying178
  a53 := Tryz.isAgg178
  z53 := Tryz.sizeOf178
  v53 := Tryz.zeroValue178
  t55 := Tryz.underlying180
  a55 := Tryz.isAgg180
  z55 := Tryz.sizeOf180
  v55 := Tryz.zeroValue180
  t66 := Tryz.underlying191
  a66 := Tryz.isAgg191
  z66 := Tryz.sizeOf191
  v66 := Tryz.zeroValue191
  t70 := Tryz.underlying195
  a70 := Tryz.isAgg195
  z70 := Tryz.sizeOf195
  v70 := Tryz.zeroValue195
  t76 := Tryz.underlying204
  a76 := Tryz.isAgg204
  z76 := Tryz.sizeOf204
  v76 := Tryz.zeroValue204
  t77 := Tryz.underlying205
  a77 := Tryz.isAgg205
  z77 := Tryz.sizeOf205
  v77 := Tryz.zeroValue205 }
end Go.Proofs
