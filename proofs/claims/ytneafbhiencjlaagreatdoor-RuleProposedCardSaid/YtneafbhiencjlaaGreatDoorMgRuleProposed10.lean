/-
  Rows of one's own side by side: append of one element to one of them leaves the others. By an AI agent.; Rows of signs as values: cells, append; Holds at such a row. By an AI agent.; Parts of pairs of package rule, and what Compare asks of them. By an AI agent.; Library functions laid at this program, in plain words. By an AI agent.; append of a slice that has no elements, whatever its address and its capacity: the slice stays. By an AI agent.
-/
import Derived.Test.YtneafbhiencjlaaGreatDoorMgRuleProposed6
import Derived.Test.YtneafbhiencjlaaGreatDoorMgRuleProposed7
import Derived.Test.YtneafbhiencjlaaGreatDoorMgRuleProposed9
import Derived.Deep.AppendLies
import Derived.Below
import Derived.Deep.RegionHeld3
import Derived.Deep.DeepCutAuto
import Derived.BigQuiet
import Derived.BigRegion
import Derived.StillTailTactics
import Derived.Shelf.Spec.SlicesGrow
import Derived.Ground.Names8Prog
import Derived.Test.YtneafbhiencjlaaGreatDoorProg
import Derived.Laws.AppendOwnNone

namespace Go.Proofs.YtneafbhiencjlaaGreatDoor
set_option linter.unusedVariables false
set_option linter.unusedSimpArgs false
open Go.RowKit

theorem allocOld (w : World) (o : Obj) {r : Nat} (h : r < w.heap.size) : (w.alloc o).heap[r]? = w.heap[r]? := by
  first | exact heap_alloc_old w o h | exact heap_alloc_old w o _ h
/-- Two rows lie apart. -/
def apB (av a2 : Option Addr) : Prop := ∀ x y, av = some x → a2 = some y → x.block ≠ y.block
theorem apB.symm {av a2 : Option Addr} (h : apB av a2) : apB a2 av := fun x y hx hy e => h y x hy hx e.symm
/-- What an append leaves: every older block but that of the row; the row's new block is none of them. -/
def KpB (w w' : World) (av : Option Addr) (g : Nat) : Prop := ∀ B, B < w.heap.size → (∀ x, av = some x → x.block ≠ B) → w'.heap[B]? = w.heap[B]? ∧ g ≠ B
theorem own_lt {w : World} {B : Nat} {T : TypeId} {K : Nat} {av : Option Addr} {n c m : Nat} {xs : List Value} (h : w.ownsRow B T K (.slice av n c) m xs) : ∀ x, av = some x → x.off = 0 ∧ B ≤ x.block ∧ x.block < w.heap.size := by
  intro x hx
  rcases h.2 with ⟨h1, _⟩ | ⟨g2, c3, cur, h1, h2, h3, _⟩
  · injection h1 with h1 _ _
    rw [hx] at h1; cases h1
  · injection h1 with h1 _ _
    rw [hx] at h1
    injection h1 with h1
    subst h1
    refine ⟨rfl, h2, ?_⟩
    apply Nat.lt_of_not_le
    intro hle
    rw [Array.getElem?_eq_none hle] at h3
    cases h3
end Go.Proofs.YtneafbhiencjlaaGreatDoor

namespace Go.Proofs.YtneafbhiencjlaaGreatDoor
set_option linter.unusedVariables false
set_option linter.unusedSimpArgs false
open Go.RowKit

/-- The cells of a block that is known. -/
theorem heapc {w : World} {B : Nat} {cs : Array Value} {T : TypeId} {fr : Nat × Nat} (h : w.heap[B]? = some (.cells cs T fr)) {i : Nat} {v : Value} (hi : cs[i]? = some v) : w.cell? ⟨B, i, none⟩ = some v := (cell_of_row w B i cs T fr h).trans hi
theorem heap_lt {w : World} {B : Nat} {o : Obj} (h : w.heap[B]? = some o) : B < w.heap.size := by
  apply Nat.lt_of_not_le
  intro hle
  rw [Array.getElem?_eq_none hle] at h
  cases h
theorem heap_below {w w' : World} {B : Nat} {o : Obj} (h : w.heap[B]? = some o) (hb : Below w.heap.size w w') : w'.heap[B]? = some o := (hb.block B (heap_lt h)).trans h
/-- Values of signs whose covers lie in memory. -/
def PrsL (w : World) (S : List RE) : Prop := ∀ x, x ∈ S → PairsS w x.2.1 x.1.cv
theorem PrsL.below {w w' : World} {S : List RE} (h : PrsL w S) (hb : Below w.heap.size w w') : PrsL w' S := fun x hx => (h x hx).below hb
end Go.Proofs.YtneafbhiencjlaaGreatDoor

namespace Go.Proofs.YtneafbhiencjlaaGreatDoor
set_option linter.unusedVariables false
set_option linter.unusedSimpArgs false
open Go.RowKit

abbrev Qud := Int × Int × Int × Int
/-- The cells of parts of pairs. -/
def cl4 (s : List Qud) : List Value := s.flatMap fun p => [.int .i64 p.1, .int .i64 p.2.1, .int .i64 p.2.2.1, .int .i64 p.2.2.2]
theorem cl4_app (s : List Qud) (p : Qud) : cl4 (s ++ [p]) = cl4 s ++ [.int .i64 p.1, .int .i64 p.2.1, .int .i64 p.2.2.1, .int .i64 p.2.2.2] := by simp [cl4]
theorem cl4_c : ∀ (s : List Qud) (i : Nat), i < s.length → (cl4 s)[i * 4]? = some (.int .i64 (gtV s i).1) ∧ (cl4 s)[i * 4 + 1]? = some (.int .i64 (gtV s i).2.1) ∧ (cl4 s)[i * 4 + 2]? = some (.int .i64 (gtV s i).2.2.1) ∧ (cl4 s)[i * 4 + 3]? = some (.int .i64 (gtV s i).2.2.2)
  | [], i, hi => by simp at hi
  | p :: s, 0, hi => by simp [cl4, gtV]
  | p :: s, i + 1, hi => by
    have ih := cl4_c s i (by simpa using hi)
    have e : ∀ c, c < 4 → (cl4 (p :: s))[(i + 1) * 4 + c]? = (cl4 s)[i * 4 + c]? := fun c hc => by
      unfold cl4
      rw [List.flatMap_cons, List.getElem?_append_right (by simp; omega), show (i + 1) * 4 + c - [Value.int .i64 p.1, .int .i64 p.2.1, .int .i64 p.2.2.1, .int .i64 p.2.2.2].length = i * 4 + c from by simp; omega]
    have g : gtV (p :: s) (i + 1) = gtV s i := rfl
    rw [g]
    exact ⟨(e 0 (by omega)).trans ih.1, (e 1 (by omega)).trans ih.2.1, (e 2 (by omega)).trans ih.2.2.1, (e 3 (by omega)).trans ih.2.2.2⟩
theorem cl4_set : ∀ (s : List Qud) (i : Nat) (b : Int), i < s.length → (cl4 s).set (i * 4 + 1) (.int .i64 b) = cl4 (s.set i ((gtV s i).1, b, (gtV s i).2.2))
  | [], i, b, hi => by simp at hi
  | p :: s, 0, b, hi => by simp [cl4, gtV]
  | p :: s, i + 1, b, hi => by
    have ih := cl4_set s i b (by simpa using hi)
    unfold cl4 gtV at *
    rw [List.flatMap_cons, List.set_append_right _ _ (by simp; omega), show (i + 1) * 4 + 1 - [Value.int .i64 p.1, .int .i64 p.2.1, .int .i64 p.2.2.1, .int .i64 p.2.2.2].length = i * 4 + 1 from by simp; omega, ih]
    rfl
theorem prt1V_len (acc : List Qud) (x y : Int) (v : Int × Int) : (prt1V acc x y v).length ≤ acc.length + 1 := by
  unfold prt1V; split
  · simp
  · simp
theorem prtV_len (z : List Int) (f : Int → Int × Int) : ∀ k, (prtV z f k).length ≤ k
  | 0 => Nat.le_refl _
  | k + 1 => by
    rw [prtV]; split
    · simp
    · exact Nat.le_trans (prt1V_len _ _ _ _) (Nat.succ_le_succ (prtV_len z f k))
theorem pairInfo : (Tryz.prog.info? 78).map (fun i => (i.zero, i.size, i.bytes)) = some (some (.agg #[.int .i64 0, .int .i64 0, .int .i64 0, .int .i64 0]), 4, 32) := by kernel_rfl
theorem part_intP (w : World) (xs : Array Value) (i : Nat) (k : Int) (h : xs[i]? = some (.int .i64 k)) : (part 3 xs i).run Tryz.prog w = .ok (.int .i64 k) w := by
  simp [part, go_sem, h]
theorem eq_pair (w : World) (x y x2 y2 : Int) : (Op.equalIn 10000 70 (.agg #[.int .i64 x, .int .i64 y]) (.agg #[.int .i64 x2, .int .i64 y2])).run Tryz.prog w = .ok ((x == x2) && (y == y2)) w := by
  have hz : ∀ W, (sizeOf 3).run Tryz.prog W = .ok 1 W := fun W => by kernel_rfl
  show (Op.equalIn (9999 + 1) _ _ _).run _ _ = _
  rw [Op.equalIn]
  simp only [Sem.run_bind, run_underlying Tryz.underlying70, Result.andThen_ok, hz]
  simp [Std.Legacy.Range.forIn_eq_forIn_range', List.range', Sem.run_bind, part_intP, run_equalIn_int, Tryz.underlying3, Std.Legacy.Range.size]
  cases h : (x == x2) <;> simp_all [Sem.run_bind, part_intP, run_equalIn_int]
  by_cases h2 : y = y2
  · rw [if_pos h2, h2]; simp
  · rw [if_neg h2, beq_false_of_ne h2]
/-- What parts of pairs returns. -/
def PrqE (w : World) (z : List Int) (f : Int → Int × Int) (e : Ending) (w' : World) : Prop :=
  ∃ b c, e = .returned (.slice b (prtV z f z.length).length c) ∧ w'.ownsRow w.heap.size 78 4 (.slice b (prtV z f z.length).length c) (prtV z f z.length).length (cl4 (prtV z f z.length)) ∧ Below w.heap.size w w'
set_option maxRecDepth 100000 in
set_option maxHeartbeats 4000000 in
theorem both1_r (b1 b2 : Nat) (lb1 lb2 : Array Value) (x y m : Int) (w : World) (c1 : w.cell? ⟨b1, 0, none⟩ = some (.func (.func 65) #[] lb1)) (c2 : w.cell? ⟨b2, 0, none⟩ = some (.func (.func 68) #[] lb2))
    (h1 : ∀ W, Below w.heap.size w W → Calls Tryz.prog 65 (#[.int .i64 m] ++ lb1) W fun e w' => e = .returned (.int .i64 x) ∧ Below W.heap.size W w')
    (h2 : ∀ W, Below w.heap.size w W → Calls Tryz.prog 68 (#[.int .i64 m] ++ lb2) W fun e w' => e = .returned (.int .i64 y) ∧ Below W.heap.size W w') :
    Calls Tryz.prog 33 (#[.int .i64 m] ++ #[.pointer (some ⟨b1, 0, none⟩), .pointer (some ⟨b2, 0, none⟩)]) w fun e w' => e = .returned (.agg #[.int .i64 x, .int .i64 y]) ∧ Below w.heap.size w w' := by
  have H1 := Lib.hid h1
  have H2 := Lib.hid h2
  have hz1 := block_lt c1
  have hz2 := block_lt c2
  clear h1 h2
  go_enter Tryz.func33, Tryz.ntmps33
  go_upto_region 1 with (fail)
  obtain ⟨wB, hwB⟩ : ∃ wB, w.alloc (.cells #[.int .i64 0, .int .i64 0] 70) = wB := ⟨_, rfl⟩
  have hb : Below w.heap.size w wB := by rw [← hwB]; exact (Below.refl _ _).alloc (Nat.le_refl _) _
  have hB0 : wB.heap[w.heap.size]? = some (.cells #[.int .i64 0, .int .i64 0] 70 (0, 0)) := by rw [← hwB]; exact heap_alloc_new _ _
  have hzB : w.heap.size < wB.heap.size := by rw [← hwB]; simp
  replace c1 := cell_below c1 hb
  replace c2 := cell_below c2 hb
  rw [hwB]
  clear hwB
  refine wp_region_held_drew (S := fun w' => Below w.heap.size wB w' ∧ ∃ v0 v1, w'.heap[w.heap.size]? = some (.cells #[v0, v1] 70 (0, 0))) (by kernel_rfl) (⟨(Below.refl _ _).drew, _, _, hB0⟩) (fun hHeld => ?_)
  refine takeU (i := 0) (some 5) (.pointer (some ⟨b1, 0, none⟩)) (by kernel_rfl) (by kernel_rfl) (by kernel_rfl) (by kernel_rfl) (by kernel_rfl) (fun _ => by kernel_rfl) (fun _ _ _ h => h) hHeld ?_
  refine wpAnyH_take (i := 1) (oi := { dst := some 6, op := Go.Op.load 65 (Go.Operand.tmp 5), type := 65, pos := "hold.go:94", after := #[{ on := 0, ground := Go.Ground.data }], guard := none }) (v := .func (.func 65) #[] lb1) rfl (by kernel_rfl) (by kernel_rfl) (by kernel_rfl) (fun _ _ _ h => h) (.inl ⟨by kernel_rfl, fun w9 h9 => by
    clear hHeld
    have d0 := (h9.1.cell (p := ⟨b1, 0, none⟩) hz1).trans c1
    clear h9
    go_simp⟩) hHeld ?_
  refine takeU (i := 2) (some 7) (.int .i64 m) (by kernel_rfl) (by kernel_rfl) (by kernel_rfl) (by kernel_rfl) (by kernel_rfl) (fun _ => by kernel_rfl) (fun _ _ _ h => h) hHeld ?_
  refine takeU (i := 4) (some 9) (.pointer (some ⟨b2, 0, none⟩)) (by kernel_rfl) (by kernel_rfl) (by kernel_rfl) (by kernel_rfl) (by kernel_rfl) (fun _ => by kernel_rfl) (fun _ _ _ h => h) hHeld ?_
  refine wpAnyH_take (i := 5) (oi := { dst := some 10, op := Go.Op.load 65 (Go.Operand.tmp 9), type := 65, pos := "hold.go:94", after := #[{ on := 4, ground := Go.Ground.data }], guard := none }) (v := .func (.func 68) #[] lb2) rfl (by kernel_rfl) (by kernel_rfl) (by kernel_rfl) (fun _ _ _ h => h) (.inl ⟨by kernel_rfl, fun w9 h9 => by
    clear hHeld
    have d0 := (h9.1.cell (p := ⟨b2, 0, none⟩) hz2).trans c2
    clear h9
    go_simp⟩) hHeld ?_
  refine takeU (i := 6) (some 11) (.int .i64 m) (by kernel_rfl) (by kernel_rfl) (by kernel_rfl) (by kernel_rfl) (by kernel_rfl) (fun _ => by kernel_rfl) (fun _ _ _ h => h) hHeld ?_
  try simp only [Act.put, List.setIfInBounds_toArray, List.set_cons_zero, List.set_cons_succ]
  refine wpAnyH_ready (rs := [3]) (by kernel_rfl) (by simp) ?_
  refine AllReadyH.cons (o := { dst := some 8, op := Go.Op.call { callee := Go.Callee.value (Go.Operand.tmp 6), args := #[Go.Operand.tmp 7], argTypes := #[3] }, type := 3, pos := "hold.go:94", after := #[{ on := 1, ground := Go.Ground.data }, { on := 2, ground := Go.Ground.data }], guard := none }) rfl (fun K hK => ?_) AllReadyH.nil
  go_simp
  go_at_call 65
  refine (H1.out _ (hb.trans hHeld.1)).mono ?_
  rintro e w39 ⟨rfl, hb39⟩
  refine hK.out _ _ ⟨hHeld.1.trans (hb39.mono (Nat.le_trans (Nat.le_of_lt hzB) hHeld.1.size)), let ⟨v0, v1, hv⟩ := hHeld.2; ⟨v0, v1, (hb39.block w.heap.size (by have := hHeld.1.size; omega)).trans hv⟩⟩ (fun hHeld => ?_)
  clear hK K hb39
  try simp only [Act.put, List.setIfInBounds_toArray, List.set_cons_zero, List.set_cons_succ]
  try simp only [Act.put, List.setIfInBounds_toArray, List.set_cons_zero, List.set_cons_succ]
  refine wpAnyH_ready (rs := [7]) (by kernel_rfl) (by simp) ?_
  refine AllReadyH.cons (o := { dst := some 12, op := Go.Op.call { callee := Go.Callee.value (Go.Operand.tmp 10), args := #[Go.Operand.tmp 11], argTypes := #[3] }, type := 3, pos := "hold.go:94", after := #[{ on := 5, ground := Go.Ground.data }, { on := 6, ground := Go.Ground.data }, { on := 3, ground := Go.Ground.chain }], guard := none }) rfl (fun K hK => ?_) AllReadyH.nil
  go_simp
  go_at_call 68
  refine (H2.out _ (hb.trans hHeld.1)).mono ?_
  rintro e w79 ⟨rfl, hb79⟩
  refine hK.out _ _ ⟨hHeld.1.trans (hb79.mono (Nat.le_trans (Nat.le_of_lt hzB) hHeld.1.size)), let ⟨v0, v1, hv⟩ := hHeld.2; ⟨v0, v1, (hb79.block w.heap.size (by have := hHeld.1.size; omega)).trans hv⟩⟩ (fun hHeld => ?_)
  clear hK K hb79
  try simp only [Act.put, List.setIfInBounds_toArray, List.set_cons_zero, List.set_cons_succ]
  refine takeU (i := 8) (some 13) (.agg #[.int .i64 x, .int .i64 y]) (by kernel_rfl) (by kernel_rfl) (by kernel_rfl) (by kernel_rfl) (by kernel_rfl) (fun _ => by kernel_rfl) (fun _ _ _ h => h) hHeld ?_
  try simp only [Act.put, List.setIfInBounds_toArray, List.set_cons_zero, List.set_cons_succ]
  refine wpAnyH_ready (rs := [9]) (by kernel_rfl) (by simp) ?_
  refine AllReadyH.cons (o := { dst := none, op := Go.Op.store 70 (Go.Operand.tmp 4) (Go.Operand.tmp 13), type := 0, pos := "hold.go:94", after := #[{ on := 8, ground := Go.Ground.data }, { on := 7, ground := Go.Ground.chain }, { on := 0, ground := Go.Ground.phase }, { on := 1, ground := Go.Ground.phase }, { on := 2, ground := Go.Ground.phase }, { on := 3, ground := Go.Ground.phase }, { on := 4, ground := Go.Ground.phase }, { on := 5, ground := Go.Ground.phase }, { on := 6, ground := Go.Ground.phase }, { on := 7, ground := Go.Ground.phase }, { on := 8, ground := Go.Ground.phase }], guard := none }) rfl (fun K hK => ?_) AllReadyH.nil
  obtain ⟨hHa, v0, v1, hHb⟩ := hHeld
  have y0 := heapc hHb (i := 0) (v := v0) rfl
  have y1 := heapc hHb (i := 1) (v := v1) rfl
  have g0 : w79.frozen? ⟨w.heap.size, 0, none⟩ = false := by simp [World.frozen?, hHb]
  have g1 : w79.frozen? ⟨w.heap.size, 1, none⟩ = false := by simp [World.frozen?, hHb]
  go_simp
  have e1 := heap_setCell_same w79 w.heap.size 0 _ 70 (.int .i64 x) hHb
  have e2 := heap_setCell_same _ w.heap.size 1 _ 70 (.int .i64 y) e1
  refine hK.out _ _ ⟨(hHa.setCell (p := ⟨w.heap.size, 0, none⟩) (Nat.le_refl _) _).setCell (p := ⟨w.heap.size, 1, none⟩) (Nat.le_refl _) _, _, _, e2⟩ (fun hHeld => ?_)
  have HE2 := Lib.hid e2
  have HHa := Lib.hid ((hHa.setCell (p := ⟨w.heap.size, 0, none⟩) (Nat.le_refl _) (.int .i64 x)).setCell (p := ⟨w.heap.size, 1, none⟩) (Nat.le_refl _) (.int .i64 y))
  clear hHb e1 e2 y0 y1 g0 g1
  clear hK K
  try simp only [Act.put, List.setIfInBounds_toArray, List.set_cons_zero, List.set_cons_succ]
  refine wpAnyH_done (by kernel_rfl) ?_ _
  try simp only [Act.put, List.setIfInBounds_toArray, List.set_cons_zero, List.set_cons_succ]
  have r0 := heapc HE2.out (i := 0) rfl
  have r1 := heapc HE2.out (i := 1) rfl
  have HBz := Lib.hid (hb.trans (HHa.out.mono (Nat.le_refl _)))
  obtain ⟨wZ, hwZ⟩ : ∃ wZ, (w79.setCell ⟨w.heap.size, 0, none⟩ (.int .i64 x)).setCell ⟨w.heap.size, 1, none⟩ (.int .i64 y) = wZ := ⟨_, rfl⟩
  rw [hwZ] at r0 r1 HBz ⊢
  clear hwZ HE2 HHa hHeld hHa
  go_wp2_with fail
  exact bodyPost_ret (v := .agg #[.int .i64 x, .int .i64 y]) (by simp [results, Tryz.results33, go_sem, r0, r1]) rfl ⟨rfl, HBz.out⟩
set_option maxRecDepth 100000 in
set_option maxHeartbeats 4000000 in
theorem parts2_r (a : Option Addr) (cuts : List Int) (ca : Nat) (lb : Array Value) (f : Int → Int × Int) (w : World) (hA : IntsS w a cuts) (hne : cuts ≠ []) (hn : cuts.length ≤ 1000000)
    (hf : ∀ m W, m ∈ cuts → Below w.heap.size w W → Calls Tryz.prog 33 (#[.int .i64 m] ++ lb) W fun e w' => e = .returned (.agg #[.int .i64 (f m).1, .int .i64 (f m).2]) ∧ Below W.heap.size W w') :
    Calls Tryz.prog 34 #[.slice a cuts.length ca, .func (.func 33) #[] lb] w (PrqE w (ascL cuts) f) := by
  obtain ⟨hlen, -, blk, off, hadr, hc⟩ := hA
  obtain rfl := hadr hne
  have HV := Lib.hid (fun W => values_in (some ⟨blk, off, none⟩) cuts.length ca W)
  have hbk : blk < w.heap.size := block_lt (hc 0 (by cases cuts with | nil => exact absurd rfl hne | cons x l => simp))
  have HS := Lib.hid (sorted_in w.heap.size blk off ca cuts (by omega) (w.alloc (.cells #[.slice (some ⟨blk, off, none⟩) cuts.length ca] 22)) (by simp) (by simp; omega) (by simp [go_sem]) (fun j hj => by
    rw [((Below.refl w.heap.size w).alloc (Nat.le_refl _) _).cell (p := ⟨blk, off + j, none⟩) hbk, hc j hj]; simp [gi]))
  have HC := Lib.hid (fun W a c (h : W.ownsRow (w.heap.size + 1) 3 1 (.slice a cuts.length c) cuts.length (clI (srt cuts))) => compact_own (w.heap.size + 1) c a (srt cuts) W (by rw [srt_len]; exact h) (by rw [srt_len]; omega))
  have HF := Lib.hid hf
  have HZ : Hid (0 < (ascL cuts).length ∧ (ascL cuts).length ≤ cuts.length ∧ ∀ k, k < (ascL cuts).length → gi (ascL cuts) k ∈ cuts) := Lib.hid ⟨asc_pos hne, asc_len cuts, fun k hk => asc_mem hk⟩
  have HL : Hid (Lib.compact (srt cuts) = ascL cuts) := Lib.hid rfl
  rw [HL.out, srt_len] at HC
  generalize ascL cuts = z at *
  obtain ⟨n0, hi, hz0, hz1, hz2⟩ := info_parts pairInfo
  clear hf hc hadr HL hlen
  go_enter Tryz.func34, Tryz.ntmps34
  go_wp2_with (first | (go_at_call 72; refine (HV.out _).mono ?_; rintro e w7 ⟨rfl, rfl⟩) | (go_at_call 71; refine HS.out.mono ?_; rintro e w8 ⟨a8, c8, rfl, hr8, hb8⟩; have HC8 := Lib.hid (HC.out _ _ _ (by simpa using hr8)); have hz8 := hb8.size) | (go_at_call 70; refine HC8.out.mono ?_; rintro e w9 ⟨rfl, hr9, hb9⟩))
  have hbo : Below w.heap.size w w9 := ((Below.refl w.heap.size w).alloc (Nat.le_refl _) _).trans ((hb8.mono (by simp)).trans ((hb9 (by simp at hz8; omega)).mono (by omega)))
  have HOwn := Lib.hid hr9
  clear hr9 hb9 hb8 hr8 HC HC8 HS HV hz8
  have HCz : Hid (∀ k, k < z.length → ∃ g, a8 = some ⟨g, 0, none⟩ ∧ w9.cell? ⟨g, k, none⟩ = some (.int .i64 (gi z k))) := Lib.hid fun k hk => by
    have h := HOwn.out
    rcases h.2 with ⟨h1, h2⟩ | ⟨g2, c2, cur, h1, _⟩
    · omega
    · obtain ⟨rfl, rfl⟩ : a8 = some ⟨g2, 0, none⟩ ∧ c8 = c2 := by simpa using h1
      refine ⟨g2, rfl, ?_⟩
      rw [World.ownsRow.cellAt h k (by omega)]
      exact clI_get z (by omega)
  clear HOwn
  obtain ⟨hzp, hzl, -⟩ := HZ.out
  obtain ⟨wo, rfl⟩ : ∃ wo : World, wo = w9 := ⟨_, rfl⟩
  go_wp2_with fail
  go_loopw [6, 7] (fun q i wr => ∃ k : Nat, 0 < k ∧ k ≤ z.length ∧ i = .int .i64 k ∧ (∃ a c, q = .slice a (prtV z f k).length c) ∧ Hid (wr.ownsRow wo.heap.size 78 4 q (prtV z f k).length (cl4 (prtV z f k))) ∧ Below wo.heap.size wo wr) (fun _ i _ => z.length - (intOf i).toNat)
  case atStart => exact ⟨1, by omega, by omega, rfl, ⟨none, 0, rfl⟩, Lib.hid ⟨rfl, .inl ⟨rfl, rfl⟩⟩, Below.refl _ _⟩
  case round =>
    obtain ⟨k, hk0, hk, rfl, ⟨av, cv, rfl⟩, HRow, hbr⟩ := hrel
    by_cases hlt : k < z.length
    · have hkl := prtV_len z f k
      obtain ⟨t, hti⟩ : ∃ t : Nat, (k : Int) - 1 = (t : Int) := ⟨k - 1, by omega⟩
      have htz : t < z.length := by omega
      have htw : IntKind.i64.wrap ((k : Int) - 1) = (t : Int) := by rw [hti]; exact IntWalk.i64_in _ (by omega)
      obtain ⟨g, rfl, c0⟩ := HCz.out t htz
      obtain ⟨g', hg', c1⟩ := HCz.out k hlt
      obtain rfl : g = g' := by simpa using hg'
      have c0 := cell_below c0 hbr
      have c1 := cell_below c1 hbr
      have hmx := HZ.out.2.2 t htz
      have hbw := hbo.trans (hbr.mono hbo.size)
      have HN : Hid (prtV z f (k + 1) = prt1V (prtV z f k) (gi z t) (gi z k) ((f (gi z t)).1, (f (gi z t)).2)) := Lib.hid (by rw [prtV, if_neg (by omega), show k - 1 = t by omega])
      have HFx := Lib.hid (fun W (hW : Below w.heap.size w W) => HF.out (gi z t) W hmx hW)
      clear hg' hmx HCz HF HZ
      generalize (f (gi z t)).1 = v1 at *
      generalize (f (gi z t)).2 = v2 at *
      generalize gi z t = x at *
      generalize gi z k = y at *
      obtain ⟨S, hS⟩ : ∃ S, prtV z f k = S := ⟨_, rfl⟩
      rw [hS] at HN HRow hkl ⊢
      clear hS
      have hk64 : (k : Int) < (z.length : Int) := by omega
      go_wp2_with fail
      go_quiet (fail)
      have hbA := below_drewN hbr nq
      have hbB := below_drewN hbw nq
      have HRow := Lib.hid (owns_belowI HRow.out (below_drewN (Below.refl wr.heap.size wr) nq))
      generalize wr.drewN nq = wA at hbA hbB HRow ⊢
      clear c0 c1
      go_wp2_with fail
      refine (HFx.out _ hbB).mono ?_
      rintro e w7 ⟨rfl, hb7⟩
      have hbA := hbA.trans (hb7.mono hbA.size)
      have HRow := Lib.hid (owns_belowI HRow.out hb7)
      clear hbB hb7 HFx
      have hs7 := hbA.size
      go_upto_region 8 with (fail)
      obtain ⟨wA, hwA⟩ : ∃ wA, w7.alloc (.cells #[.int .i64 v1, .int .i64 v2] 70) = wA := ⟨_, rfl⟩
      have y0 : wA.cell? ⟨w7.heap.size, 0, none⟩ = some (.int .i64 v1) := by rw [← hwA]; simp [go_sem]
      have y1 : wA.cell? ⟨w7.heap.size, 1, none⟩ = some (.int .i64 v2) := by rw [← hwA]; simp [go_sem]
      have HRow := Lib.hid (HRow.out.alloc (.cells #[.int .i64 v1, .int .i64 v2] 70))
      have hbA := hbA.alloc hs7 (.cells #[.int .i64 v1, .int .i64 v2] 70)
      rw [hwA] at HRow hbA ⊢
      clear hwA
      by_cases h0 : S.length = 0
      · have hS0 := List.eq_nil_of_length_eq_zero h0
        subst hS0
        have HAP : Hid (prtV z f (k + 1) = [(x, y, v1, v2)]) := Lib.hid (by rw [HN.out]; unfold prt1V; rw [if_neg (by simp)]; rfl)
        clear HN
        have HAP : Hid (0 + 1 = (prtV z f (k + 1)).length ∧ ([] : List Value) ++ [.int .i64 x, .int .i64 y, .int .i64 v1, .int .i64 v2] = cl4 (prtV z f (k + 1))) := Lib.hid (by rw [HAP.out]; exact ⟨rfl, rfl⟩)
        have HRow : Hid (wA.ownsRow wo.heap.size 78 4 (.slice av 0 cv) 0 []) := HRow
        clear h0
        go_wp2_with fail
        go_quiet (fail)
        have HRow : Hid ((wA.drewN nq).ownsRow wo.heap.size 78 4 (.slice av 0 cv) 0 []) := Lib.hid (owns_belowI HRow.out (below_drewN (Below.refl wA.heap.size wA) nq))
        have hbA := below_drewN hbA nq
        have y0 : (wA.drewN nq).cell? ⟨w7.heap.size, 0, none⟩ = some (.int .i64 v1) := cell_below y0 (below_drewN (Below.refl wA.heap.size wA) nq)
        have y1 : (wA.drewN nq).cell? ⟨w7.heap.size, 1, none⟩ = some (.int .i64 v2) := cell_below y1 (below_drewN (Below.refl wA.heap.size wA) nq)
        generalize wA.drewN nq = wA at HRow hbA y0 y1 ⊢
        have hown := Lib.hid (HRow.out.alloc (.cells #[.int .i64 x, .int .i64 y, .int .i64 v1, .int .i64 v2] 78))
        have hbs := hbA.size
        go_wp2_with (first | (at_builtin; go_loud (refine wpList_append_lies _ rfl _ _ 72 rfl wo.heap.size 78 n0 _ 4 32 Tryz.underlying72 hi hz0 hz1 hz2 rfl (by decide) (.slice _ 0 cv) 0 _ (by rfl) hown.out ⟨wA.heap.size, 0, none⟩ 1 1 [.int .i64 x, .int .i64 y, .int .i64 v1, .int .i64 v2] (by rfl) (by rfl) ?d1 ?d2 (by decide) ?d3 ?d4 ?d5 _ rfl ?_)))
        case d1 =>
          refine World.news_of_block (cs := #[.int .i64 x, .int .i64 y, .int .i64 v1, .int .i64 v2]) (t := 78) (fr := (0, 0)) ?_
          exact heap_alloc_new _ _
        case d2 => simp [Value.oneCell']
        case d3 => unfold maxLen; omega
        case d4 => omega
        case d5 => first | (simp; omega) | simp | omega
        intro g6 c6 w6 hown6 hgrow6 hat6 hlt6
        have hb6 : Below wo.heap.size wo w6 := ((hbA.alloc hbs _).grown hgrow6 (by first | (simp; omega) | simp | omega) (fun z hz => owns_blockI hown.out hz))

        go_wp2_with fail
        go_roundw
        case rel => exact ⟨k + 1, by omega, by omega, by go_num, ⟨_, c6, by rw [← HAP.out.1]⟩, Lib.hid (by rw [← HAP.out.1, ← HAP.out.2]; exact hown6), hb6⟩
        case measure => simp [intOf]; omega
      · obtain ⟨u, hu⟩ : ∃ u, S.length = u + 1 := ⟨S.length - 1, by omega⟩
        have hui : (S.length : Int) - 1 = (u : Int) := by omega
        have hu0 : (0 : Int) ≤ (u : Int) := by omega
        have hu2 : (u : Int) < (S.length : Int) := by omega
        have huw : IntKind.i64.wrap ((S.length : Int) - 1) = (u : Int) := by rw [hui]; exact IntWalk.i64_in _ (by omega)
        obtain ⟨gj, hgj⟩ : ∃ gj, av = some ⟨gj, 0, none⟩ := by
          rcases HRow.out.2 with ⟨h1, h2⟩ | ⟨g2, c2, cur, h1, _⟩
          · omega
          · exact ⟨g2, by simpa using (Value.slice.inj h1).1⟩
        subst hgj
        have cy := World.ownsRow.cellAt HRow.out (u * 4 + 2) (by omega)
        rw [(cl4_c S u (by omega)).2.2.1] at cy
        have cy2 := World.ownsRow.cellAt HRow.out (u * 4 + 3) (by omega)
        rw [(cl4_c S u (by omega)).2.2.2] at cy2
        have cx := World.ownsRow.cellAt HRow.out (u * 4 + 1) (by omega)
        rw [(cl4_c S u (by omega)).2.1] at cx
        have fx := World.ownsRow.frozenAt HRow.out (u * 4 + 1)
        have hgl : wo.heap.size ≤ gj := by
          rcases HRow.out.2 with ⟨h1, h2⟩ | ⟨g2, c2, cur, h1, h2, _⟩
          · omega
          · have : gj = g2 := by simpa using (Value.slice.inj h1).1
            omega
        have HJ : Hid (prt1V S x y (v1, v2) = if (gtV S u).2.2.1 = v1 ∧ (gtV S u).2.2.2 = v2 then S.set u ((gtV S u).1, y, v1, v2) else S ++ [(x, y, v1, v2)]) := Lib.hid (by
          unfold prt1V
          rw [show S.length - 1 = u by omega]
          by_cases hx : (gtV S u).2.2.1 = v1 ∧ (gtV S u).2.2.2 = v2
          · rw [if_pos ⟨by omega, Prod.ext hx.1 hx.2⟩, if_pos hx]
          · rw [if_neg (fun h => hx ⟨congrArg (·.1) h.2, congrArg (·.2) h.2⟩), if_neg hx])
        have HSE := Lib.hid (cl4_set S u y (by omega))
        have HEq := Lib.hid (fun W => eq_pair W (gtV S u).2.2.1 (gtV S u).2.2.2 v1 v2)
        by_cases hx : (gtV S u).2.2.1 = v1 ∧ (gtV S u).2.2.2 = v2
        · have hJ := HJ.out
          rw [if_pos hx] at hJ
          have HNn : Hid (prtV z f (k + 1) = S.set u ((gtV S u).1, y, (gtV S u).2.2)) := Lib.hid (by rw [HN.out, hJ, show (gtV S u).2.2 = (v1, v2) from Prod.ext hx.1 hx.2])
          clear hJ HJ HN
          have HST : Hid (∀ W : World, W.ownsRow wo.heap.size 78 4 (.slice (some ⟨gj, 0, none⟩) S.length cv) S.length (cl4 S) → (W.setCell ⟨gj, u * 4 + 1, none⟩ (.int .i64 y)).ownsRow wo.heap.size 78 4 (.slice (some ⟨gj, 0, none⟩) (prtV z f (k + 1)).length cv) (prtV z f (k + 1)).length (cl4 (prtV z f (k + 1)))) := Lib.hid fun W h => by
            rw [HNn.out, List.length_set, ← HSE.out]
            exact (World.ownsRow.stored h (u * 4 + 1) (.int .i64 y)).1
          have HLn : Hid ((prtV z f (k + 1)).length = S.length) := Lib.hid (by rw [HNn.out, List.length_set])
          clear HNn HSE hu
          have hq : ∀ W, (Op.equalIn 10000 70 (.agg #[.int .i64 (gtV S u).2.2.1, .int .i64 (gtV S u).2.2.2]) (.agg #[.int .i64 v1, .int .i64 v2])).run Tryz.prog W = .ok true W := fun W => by rw [HEq.out W, hx.1, hx.2]; simp
          clear HEq hx
          generalize (gtV S u).2.2.2 = q2 at *
          generalize (gtV S u).2.2.1 = q at *
          generalize (gtV S u).2.1 = q1 at *
          go_wp2_with fail
          go_quiet (fail)
          go_wp2_with fail
          go_roundw
          case rel => exact ⟨k + 1, by omega, by omega, by go_num, ⟨_, cv, by rw [HLn.out]⟩, Lib.hid (by have := HST.out _ (owns_belowI HRow.out (below_drewN (Below.refl wA.heap.size wA) nq)); rwa [HLn.out] at this ⊢), (below_drewN hbA nq).setCell (p := ⟨gj, u * 4 + 1, none⟩) hgl _⟩
          case measure => simp [intOf]; omega
        · have hJ := HJ.out
          rw [if_neg hx] at hJ
          have HAP : Hid (S.length + 1 = (prtV z f (k + 1)).length ∧ cl4 S ++ [.int .i64 x, .int .i64 y, .int .i64 v1, .int .i64 v2] = cl4 (prtV z f (k + 1))) := Lib.hid (by rw [HN.out, hJ, cl4_app]; exact ⟨by simp, rfl⟩)
          clear hJ HJ HN hu cx fx HSE
          have hq : ∀ W, (Op.equalIn 10000 70 (.agg #[.int .i64 (gtV S u).2.2.1, .int .i64 (gtV S u).2.2.2]) (.agg #[.int .i64 v1, .int .i64 v2])).run Tryz.prog W = .ok false W := fun W => by
            rw [HEq.out W]
            have : (((gtV S u).2.2.1 == v1) && ((gtV S u).2.2.2 == v2)) = false := by
              rw [Bool.and_eq_false_iff, beq_eq_false_iff_ne, beq_eq_false_iff_ne]
              by_cases e : (gtV S u).2.2.1 = v1
              · exact .inr fun e2 => hx ⟨e, e2⟩
              · exact .inl e
            rw [this]
          clear HEq hx
          generalize (gtV S u).2.2.2 = q2 at *
          generalize (gtV S u).2.2.1 = q at *
          go_wp2_with fail
          go_quiet (fail)
          have HRow := Lib.hid (owns_belowI HRow.out (below_drewN (Below.refl wA.heap.size wA) nq))
          have hbA := below_drewN hbA nq
          have y0 : (wA.drewN nq).cell? ⟨w7.heap.size, 0, none⟩ = some (.int .i64 v1) := cell_below y0 (below_drewN (Below.refl wA.heap.size wA) nq)
          have y1 : (wA.drewN nq).cell? ⟨w7.heap.size, 1, none⟩ = some (.int .i64 v2) := cell_below y1 (below_drewN (Below.refl wA.heap.size wA) nq)
          generalize wA.drewN nq = wA at HRow hbA y0 y1 ⊢
          clear cy cy2 hq
          have hown := Lib.hid (HRow.out.alloc (.cells #[.int .i64 x, .int .i64 y, .int .i64 v1, .int .i64 v2] 78))
          have hbs := hbA.size
          go_wp2_with (first | (at_builtin; go_loud (refine wpList_append_lies _ rfl _ _ 72 rfl wo.heap.size 78 n0 _ 4 32 Tryz.underlying72 hi hz0 hz1 hz2 rfl (by decide) (.slice _ S.length cv) S.length _ (by rfl) hown.out ⟨wA.heap.size, 0, none⟩ 1 1 [.int .i64 x, .int .i64 y, .int .i64 v1, .int .i64 v2] (by rfl) (by rfl) ?d1 ?d2 (by decide) ?d3 ?d4 ?d5 _ rfl ?_)))
          case d1 =>
            refine World.news_of_block (cs := #[.int .i64 x, .int .i64 y, .int .i64 v1, .int .i64 v2]) (t := 78) (fr := (0, 0)) ?_
            exact heap_alloc_new _ _
          case d2 => simp [Value.oneCell']
          case d3 => unfold maxLen; omega
          case d4 => omega
          case d5 => first | (simp; omega) | simp | omega
          intro g6 c6 w6 hown6 hgrow6 hat6 hlt6
          have hb6 : Below wo.heap.size wo w6 := ((hbA.alloc hbs _).grown hgrow6 (by first | (simp; omega) | simp | omega) (fun z hz => owns_blockI hown.out hz))

          go_wp2_with fail
          go_roundw
          case rel => exact ⟨k + 1, by omega, by omega, by go_num, ⟨_, c6, by rw [← HAP.out.1]⟩, Lib.hid (by rw [← HAP.out.1, ← HAP.out.2]; exact hown6), hb6⟩
          case measure => simp [intOf]; omega
    · obtain rfl : k = z.length := by omega
      have hbw := hbo.trans (hbr.mono hbo.size)
      have HEnd : Hid (PrqE w z f (.returned (.slice av (prtV z f z.length).length cv)) wr) := Lib.hid ⟨av, cv, rfl, owns_baseI HRow.out hbo.size, hbw⟩
      clear HRow
      go_wp2_with fail
      go_ret
      exact HEnd.out
end Go.Proofs.YtneafbhiencjlaaGreatDoor

namespace Go.Proofs
open Go.Shelf
def Tryz.laysGrowI_ren : Go.Shelf.Ren := ⟨fun | 4 => 73 | n => n, fun | 22 => 22 | 25 => 3 | 3 => 3 | 4 => 4 | 9 => 9 | 20 => 20 | 0 => 0 | n => n, fun | n => n⟩
theorem Tryz.laysGrowI : Go.Proofs.Lays8.n4 Tryz.prog Tryz.laysGrowI_ren := {
  mixed := by kernel_rfl
  f4 := ⟨Tryz.f73.name, by decide, Tryz.func73.trans (congrArg some (by kernel_rfl))⟩
  t0 := Tryz.underlying0
  a0 := Tryz.isAgg0
  z0 := Tryz.sizeOf0
  v0 := Tryz.zeroValue0
  t3 := Tryz.underlying3
  a3 := Tryz.isAgg3
  z3 := Tryz.sizeOf3
  v3 := Tryz.zeroValue3
  t4 := Tryz.underlying4
  a4 := Tryz.isAgg4
  z4 := Tryz.sizeOf4
  v4 := Tryz.zeroValue4
  t9 := Tryz.underlying9
  a9 := Tryz.isAgg9
  z9 := Tryz.sizeOf9
  v9 := Tryz.zeroValue9
  t20 := Tryz.underlying20
  a20 := Tryz.isAgg20
  z20 := Tryz.sizeOf20
  v20 := Tryz.zeroValue20
  t22 := Tryz.underlying22
  a22 := Tryz.isAgg22
  z22 := Tryz.sizeOf22
  v22 := Tryz.zeroValue22 }
end Go.Proofs

namespace Go.Proofs.YtneafbhiencjlaaGreatDoor
set_option linter.unusedVariables false
set_option linter.unusedSimpArgs false
theorem loadNoneZ (P : Program) (w : World) (a : Addr) : (loadCells a 0).run P w = .ok #[] w := rfl
theorem run_append_zed {P : Program} {w : World} (base : Nat) (t ty e : TypeId) (i : TypeInfo) (size : Nat) (ht : P.underlying t = some (.slice e)) (hi : P.info? e = some i)
    (v : Value) (n : Nat) (xs : List Value) (hown : w.ownsRow base e size v n xs) (ao : Option Addr) (c : Nat) :
    (Builtin.append_ #[t, t] ty #[v, .slice ao 0 c]).run P w = .ok v w := by
  rcases hown.2 with ⟨rfl, rfl⟩ | ⟨g, cap, cur, rfl, _, _, hnc, _⟩
  · cases ao <;> simp [Builtin.append_, run_underlying ht, sizeOf, typeInfo, hi, Builtin.lenOf, Builtin.firstCells, loadNoneZ, Result.andThen]
  · cases ao <;> simp [Builtin.append_, run_underlying ht, sizeOf, typeInfo, hi, Builtin.lenOf, Builtin.firstCells, hnc, storeCells, loadNoneZ, Result.andThen]
theorem wpList_append_zed {P : Program} {w : World} {ops : Array Oper} {rest : List Oper} {o : Oper} {a : Act} {Q : Exit → Act → World → Prop} (hgd : o.guard = none) (s x : Operand) (t : TypeId)
    (ho : o.op = .call { callee := .builtin .append, args := #[s, x], argTypes := #[t, t] })
    (base : Nat) (e : TypeId) (i : TypeInfo) (size : Nat) (ht : P.underlying t = some (.slice e)) (hi : P.info? e = some i)
    (v : Value) (n : Nat) (xs : List Value) (hs : a.eval s = v) (hown : w.ownsRow base e size v n xs) (ao : Option Addr) (c : Nat) (hx : a.eval x = .slice ao 0 c)
    (h : wpList P ops Q rest (a.put o.dst v) w) : wpList P ops Q (o :: rest) a w := by
  refine wpList_plain hgd fun K hK => ?_
  have hrun := run_append_zed (P := P) (w := w) base t o.type e i size ht hi v n xs hown ao c
  unfold Oper.wp
  simp [execOp, ho, resolve, invoke, builtin, hs, hx, hrun, Result.andThen]
  exact hK _ _ h
end Go.Proofs.YtneafbhiencjlaaGreatDoor
