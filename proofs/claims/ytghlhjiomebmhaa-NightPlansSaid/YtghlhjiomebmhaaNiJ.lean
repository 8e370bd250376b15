/-
  choices of package night. By an AI agent.
-/
import Derived.Test.YtghlhjiomebmhaaNiI
import Derived.Deep.RegionHeld3
import Derived.Deep.AppendLies
import Derived.BigQuiet
namespace Go.Proofs.Ytghlhjiomebmhaa
set_option linter.unusedVariables false
set_option linter.unusedSimpArgs false
open Go.RowKit

/-- Ints at the head of a block that is not the one to avoid. -/
def RowAt (lo : Nat) (w : World) (a : Option Addr) (l : List Int) (av : Option Nat) : Prop :=
  ∃ blk, (l ≠ [] → a = some ⟨blk, 0, none⟩ ∧ av ≠ some blk ∧ lo ≤ blk) ∧ ∀ i, i < l.length → w.cell? ⟨blk, i, none⟩ = some (.int .i64 (gi l i))
theorem RowAt.grown {lo : Nat} {w w' : World} {a : Option Addr} {l : List Int} {av : Option Nat} (h : RowAt lo w a l av) (hg : w.grownBy w' av) : RowAt lo w' a l av := by
  obtain ⟨blk, h1, h2⟩ := h
  refine ⟨blk, h1, fun i hi => ?_⟩
  have hc := h2 i hi
  have hne := (h1 (pos_ne (n := 0) hi)).2.1
  exact (World.cell?_of_block (w := w) (w' := w') (a := ⟨blk, i, none⟩) (hg.block blk (block_lt hc) (fun e => hne e.symm))).trans hc
theorem RowAt.below {lo : Nat} {w w' : World} {a : Option Addr} {l : List Int} {av : Option Nat} (h : RowAt lo w a l av) (hb : Below w.heap.size w w') : RowAt lo w' a l av := by
  obtain ⟨blk, h1, h2⟩ := h
  exact ⟨blk, h1, fun i hi => cell_below (h2 i hi) hb⟩
theorem RowAt.lower {lo lo' : Nat} {w : World} {a : Option Addr} {l : List Int} {av : Option Nat} (h : RowAt lo w a l av) (hl : lo' ≤ lo) : RowAt lo' w a l av := by
  obtain ⟨blk, h1, h2⟩ := h
  exact ⟨blk, fun hne => ⟨(h1 hne).1, (h1 hne).2.1, Nat.le_trans hl (h1 hne).2.2⟩, h2⟩
/-- A list of rows of ints that grows: each row lies in a block of its own. -/
def GrowR (base : Nat) (w : World) (v : Value) (k : Nat) (rows : Nat → List Int) : Prop :=
  ∃ (ad : Nat → Option Addr) (cp : Nat → Nat), w.ownsRow base 26 1 v k ((List.range k).map fun i => .slice (ad i) (rows i).length (cp i)) ∧ ∀ i, i < k → RowAt base w (ad i) (rows i) v.ownBlock ∧ (rows i).length ≤ cp i
theorem GrowR.below {base : Nat} {w w' : World} {v : Value} {k : Nat} {rows : Nat → List Int} (h : GrowR base w v k rows) (hb : Below w.heap.size w w') : GrowR base w' v k rows := by
  obtain ⟨ad, cp, h1, h2⟩ := h
  exact ⟨ad, cp, owns_belowI h1 hb, fun i hi => ⟨(h2 i hi).1.below hb, (h2 i hi).2⟩⟩
theorem GrowR.alloc {base : Nat} {w : World} {v : Value} {k : Nat} {rows : Nat → List Int} (h : GrowR base w v k rows) (o : Obj) : GrowR base (w.alloc o) v k rows := h.below ((Below.refl _ _).alloc (Nat.le_refl _) _)
theorem GrowR.nil (base : Nat) (w : World) (rows : Nat → List Int) : GrowR base w (.slice none 0 0) 0 rows :=
  ⟨fun _ => none, fun _ => 0, ⟨rfl, .inl ⟨rfl, rfl⟩⟩, fun i hi => absurd hi (Nat.not_lt_zero _)⟩
/-- A row of one's own, made at a later time than all that is to be avoided. -/
theorem rowAt_own {w : World} {base c : Nat} {a : Option Addr} {zs : List Int} (h : w.ownsRow base 3 1 (.slice a zs.length c) zs.length (clI zs)) {av : Option Nat} (hav : ∀ z, av = some z → z < base) : RowAt base w a zs av ∧ zs.length ≤ c := by
  rcases h.2 with ⟨h1, h2⟩ | ⟨g2, c2, cur, h1, hg, _, hcap, _⟩
  · obtain rfl : zs = [] := List.eq_nil_of_length_eq_zero h2
    exact ⟨⟨0, fun hne => absurd rfl hne, fun i hi => absurd hi (Nat.not_lt_zero _)⟩, Nat.zero_le _⟩
  · obtain ⟨rfl, rfl⟩ : a = some ⟨g2, 0, none⟩ ∧ c = c2 := by simpa using h1
    refine ⟨⟨g2, fun _ => ⟨rfl, fun e => ?_, hg⟩, fun i hi => ?_⟩, ?_⟩
    · have := hav g2 e
      omega
    · rw [World.ownsRow.cellAt h i (by omega)]; exact clI_get zs hi
    · exact hcap
theorem RowAt.turn {lo : Nat} {w w' : World} {a : Option Addr} {l : List Int} {av : Option Nat} (h : RowAt lo w a l av) (hg : w.grownBy w' av) {g : Nat} (hor : av = some g ∨ g = w.heap.size) : RowAt lo w' a l (some g) := by
  rcases hor with e | e
  · have := h.grown hg
    rw [e] at this
    exact this
  · have h9 := h.grown hg
    obtain ⟨blk, q1, q2⟩ := h
    by_cases hl : l = []
    · exact ⟨blk, fun hne => absurd hl hne, fun i hi => by subst hl; exact absurd hi (Nat.not_lt_zero _)⟩
    · have hp : 0 < l.length := List.length_pos_iff.2 hl
      have hb := block_lt (q2 0 hp)
      refine ⟨blk, fun hne => ⟨(q1 hne).1, fun e2 => ?_, (q1 hne).2.2⟩, fun i hi => ?_⟩
      · cases e2; omega
      · exact (World.cell?_of_block (w := w) (w' := w') (a := ⟨blk, i, none⟩) (hg.block blk hb (fun e2 => (q1 hl).2.1 e2.symm))).trans (q2 i hi)
theorem GrowR.app {base : Nat} {w w' : World} {av : Option Nat} {k : Nat} {rows : Nat → List Int} {ad : Nat → Option Addr} {cp : Nat → Nat} (h2 : ∀ i, i < k → RowAt base w (ad i) (rows i) av ∧ (rows i).length ≤ cp i) {a1 : Option Addr} {c1 g c : Nat}
    (hr : RowAt base w a1 (rows k) av ∧ (rows k).length ≤ c1)
    (ho : w'.ownsRow base 26 1 (.slice (some ⟨g, 0, none⟩) (k + 1) c) (k + 1) (((List.range k).map fun i => Value.slice (ad i) (rows i).length (cp i)) ++ [.slice a1 (rows k).length c1])) (hg : w.grownBy w' av) (hor : av = some g ∨ g = w.heap.size) :
    GrowR base w' (.slice (some ⟨g, 0, none⟩) (k + 1) c) (k + 1) rows := by
  refine ⟨fun i => if i = k then a1 else ad i, fun i => if i = k then c1 else cp i, ?_, fun i hi => ?_⟩
  · rw [List.range_succ, List.map_append]
    have e1 : ((List.range k).map fun i => Value.slice (if i = k then a1 else ad i) (rows i).length (if i = k then c1 else cp i)) = (List.range k).map fun i => Value.slice (ad i) (rows i).length (cp i) :=
      List.map_congr_left fun i hi => by have := List.mem_range.1 hi; rw [if_neg (by omega), if_neg (by omega)]
    rw [e1]
    simpa using ho
  · by_cases e : i = k
    · subst e; simp only [if_pos]; exact ⟨hr.1.turn hg hor, hr.2⟩
    · simp only [if_neg e]; exact ⟨(h2 i (by omega)).1.turn hg hor, (h2 i (by omega)).2⟩
/-- append of one row to a list of rows of one's own. -/
theorem app_row {w : World} {ops : Array Oper} {rest : List Oper} {o : Oper} {a : Act} {Q : Exit → Act → World → Prop} (hgd : o.guard = none) (s x : Operand)
    (ho : o.op = .call { callee := .builtin .append, args := #[s, x], argTypes := #[62, 62] })
    (base n : Nat) (v : Value) (rows : Nat → List Int) (hs : a.eval s = v) (hown : GrowR base w v n rows)
    (B : Nat) (a1 : Option Addr) (c1 : Nat) (hx : a.eval x = .slice (some ⟨B, 0, none⟩) 1 1) (hc : w.cell? ⟨B, 0, none⟩ = some (.slice a1 (rows n).length c1)) (hr : RowAt base w a1 (rows n) v.ownBlock ∧ (rows n).length ≤ c1) (hn : n ≤ 1000000) (hbase : base ≤ w.heap.size)
    (h : ∀ g c' w', GrowR base w' (.slice (some ⟨g, 0, none⟩) (n + 1) c') (n + 1) rows → Below base w w' → wpList Try.prog ops Q rest (a.put o.dst (.slice (some ⟨g, 0, none⟩) (n + 1) c')) w') : wpList Try.prog ops Q (o :: rest) a w := by
  obtain ⟨i0, hi, hz0, hz1, hz2⟩ := info_parts infoRow
  obtain ⟨ad, cp, hown, hrows⟩ := hown
  refine wpList_append_lies w hgd s x 62 ho base 26 i0 _ 1 24 undRows hi hz0 hz1 hz2 rfl (by decide) v n _ hs hown ⟨B, 0, none⟩ 1 1 [.slice a1 (rows n).length c1] hx rfl ?_ ?_ (by decide) (by unfold maxLen; omega) (by omega) hbase _ rfl ?_
  · intro j u hj
    match j, hj with
    | 0, hj => simp at hj; subst hj; exact hc
  · intro u hu; simp at hu; subst hu; rfl
  · intro g c' w' h1 h2 h3 h4
    exact h g c' w' (GrowR.app hrows hr h1 h2 h3) ((Below.refl base w).grown h2 hbase (fun k hk => owns_blockI hown hk))
theorem GrowR.rows {base : Nat} {w w2 : World} {a : Option Addr} {n c : Nat} {rows : Nat → List Int} (h : GrowR base w (.slice a n c) n rows) (C : List (List Int)) (hC : C.length = n) (hg : ∀ i, i < n → gr C i = rows i) (hn : n ≤ 1000000)
    (h64 : ∀ i, i < n → (rows i).length ≤ 1000000 ∧ ∀ j, j < (rows i).length → I64 (gi (rows i) j)) (hs : ∀ k, base ≤ k → k < w.heap.size → w2.heap[k]? = w.heap[k]?) : RowsS w2 a C := by
  obtain ⟨ad, cp, h1, h2⟩ := h
  refine ⟨by omega, ?_⟩
  rcases h1.2 with ⟨e1, e2⟩ | ⟨g2, c2, cur, e1, hg2, hb, _⟩
  · refine ⟨0, 0, ad, cp, fun hne => absurd (List.eq_nil_of_length_eq_zero (by omega)) hne, fun i hi => by omega⟩
  · obtain ⟨rfl, rfl⟩ : a = some ⟨g2, 0, none⟩ ∧ c = c2 := by simpa using e1
    have hgz : g2 < w.heap.size := (Array.getElem?_eq_some_iff.1 hb).1
    refine ⟨g2, 0, ad, cp, fun _ => rfl, fun i hi => ?_⟩
    have hin : i < n := by omega
    rw [hg i hin]
    refine ⟨?_, ⟨by have := (h64 i hin).1; omega, (h64 i hin).2, ?_⟩, (h2 i hin).2⟩
    · rw [Nat.zero_add, World.cell?_of_block (w := w) (w' := w2) (a := ⟨g2, i, none⟩) (hs g2 hg2 hgz), World.ownsRow.cellAt h1 i (by omega)]
      simp [hin]
    · obtain ⟨blk, q1, q2⟩ := (h2 i hin).1
      refine ⟨blk, 0, fun hne => (q1 hne).1, fun j hj => ?_⟩
      have hc := q2 j hj
      rw [Nat.zero_add, World.cell?_of_block (w := w) (w' := w2) (a := ⟨blk, j, none⟩) (hs blk (q1 (pos_ne (n := 0) hj)).2.2 (block_lt hc))]
      exact hc
theorem ints_own2 {w w2 : World} {base c : Nat} {a : Option Addr} {zs : List Int} {T : TypeId} (h : w.ownsRow base T 1 (.slice a zs.length c) zs.length (clI zs)) (hn : zs.length ≤ 9223372036854775807) (hf : ∀ j, j < zs.length → I64 (gi zs j)) (hs : ∀ k, base ≤ k → k < w.heap.size → w2.heap[k]? = w.heap[k]?) : IntsS w2 a zs := by
  refine ⟨hn, hf, ?_⟩
  rcases h.2 with ⟨h1, h2⟩ | ⟨g2, c2, cur, h1, hg, hb, _⟩
  · exact ⟨0, 0, (fun hne => absurd (List.eq_nil_of_length_eq_zero h2) hne), fun i hi => by omega⟩
  · obtain ⟨rfl, rfl⟩ : a = some ⟨g2, 0, none⟩ ∧ c = c2 := by simpa using h1
    have hgz : g2 < w.heap.size := (Array.getElem?_eq_some_iff.1 hb).1
    refine ⟨g2, 0, fun _ => rfl, fun i hi => ?_⟩
    rw [Nat.zero_add, World.cell?_of_block (w := w) (w' := w2) (a := ⟨g2, i, none⟩) (hs g2 hg hgz), World.ownsRow.cellAt h i (by omega)]; exact clI_get zs hi
theorem GrowR.owned {base : Nat} {w : World} {a : Option Addr} {n c : Nat} {rows : Nat → List Int} (h : GrowR base w (.slice a n c) n rows) : ∀ z, (Value.slice a n c).ownBlock = some z → z < w.heap.size := by
  obtain ⟨ad, cp, h1, h2⟩ := h
  exact fun z hz => (World.ownsRow.lt h1 z hz).2
end Go.Proofs.Ytghlhjiomebmhaa
