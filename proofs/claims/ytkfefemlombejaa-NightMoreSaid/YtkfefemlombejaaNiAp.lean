/-
  rows of nights and of jobs of one's own: their cells, the append of a whole list, one element changed. By an AI agent.
-/
import Derived.Test.YtkfefemlombejaaNiZ
import Derived.Test.YtkfefemlombejaaNiD
import Derived.Test.YtkfefemlombejaaNiJ
import Derived.Deep.AppendLies
import Derived.Lib.OwnBridge
import Derived.Lib.AppendIntMem
namespace Go.Proofs.Ytkfefemlombejaa
set_option linter.unusedVariables false
set_option linter.unusedSimpArgs false
open Go.RowKit

theorem infoN : (Try.prog.info? 27).map (fun i => (i.zero, i.size, i.bytes)) = some (some (.agg #[.int .i64 0, .int .i64 0, .int .i64 0, .int .i64 0, .int .i64 0, .int .i64 0, .bool false, .bool false]), 8, 56) := by kernel_rfl
/-- The cells of a list, element by element. -/
def clN (s : List Ni) : List Value := s.flatMap fun p => [Value.int .i64 p.d, .int .i64 p.r, .int .i64 p.f, .int .i64 p.t, .int .i64 p.w, .int .i64 p.p, .bool p.rn, .bool p.fr]
theorem clN_app (s s' : List Ni) : clN (s ++ s') = clN s ++ clN s' := by simp [clN]
theorem clN_len (s : List Ni) : (clN s).length = s.length * 8 := by
  induction s with
  | nil => rfl
  | cons p s ih => unfold clN at *; rw [List.flatMap_cons, List.length_append, ih]; simp; omega
theorem clN_c : ∀ (s : List Ni) (i : Nat), i < s.length → (clN s)[i * 8]? = some (.int .i64 (gn s i).d) ∧ (clN s)[i * 8 + 1]? = some (.int .i64 (gn s i).r) ∧ (clN s)[i * 8 + 2]? = some (.int .i64 (gn s i).f) ∧ (clN s)[i * 8 + 3]? = some (.int .i64 (gn s i).t) ∧ (clN s)[i * 8 + 4]? = some (.int .i64 (gn s i).w) ∧ (clN s)[i * 8 + 5]? = some (.int .i64 (gn s i).p) ∧ (clN s)[i * 8 + 6]? = some (.bool (gn s i).rn) ∧ (clN s)[i * 8 + 7]? = some (.bool (gn s i).fr)
  | [], i, hi => by simp at hi
  | p :: s, 0, hi => by simp [clN, gn]
  | p :: s, i + 1, hi => by
    have ih := clN_c s i (by simpa using hi)
    have e : ∀ c, c < 8 → (clN (p :: s))[(i + 1) * 8 + c]? = (clN s)[i * 8 + c]? := fun c hc => by
      unfold clN
      rw [List.flatMap_cons, List.getElem?_append_right (by simp; omega), show (i + 1) * 8 + c - [Value.int .i64 p.d, .int .i64 p.r, .int .i64 p.f, .int .i64 p.t, .int .i64 p.w, .int .i64 p.p, .bool p.rn, .bool p.fr].length = i * 8 + c from by simp; omega]
    have h : gn (p :: s) (i + 1) = gn s i := rfl
    rw [h]
    exact ⟨(e 0 (by omega)).trans ih.1, (e 1 (by omega)).trans ih.2.1, (e 2 (by omega)).trans ih.2.2.1, (e 3 (by omega)).trans ih.2.2.2.1, (e 4 (by omega)).trans ih.2.2.2.2.1, (e 5 (by omega)).trans ih.2.2.2.2.2.1, (e 6 (by omega)).trans ih.2.2.2.2.2.2.1, (e 7 (by omega)).trans ih.2.2.2.2.2.2.2⟩
theorem clN_one (s : List Ni) : ∀ v ∈ clN s, v.oneCell' = true := by
  intro v hv
  unfold clN at hv
  rw [List.mem_flatMap] at hv
  obtain ⟨p, _, h⟩ := hv
  simp at h
  rcases h with rfl | rfl | rfl | rfl | rfl | rfl | rfl | rfl <;> rfl
/-- One element with one number changed. -/
theorem clN_set : ∀ (s : List Ni) (i : Nat) (b : Int), i < s.length → (clN s).set (i * 8 + 5) (.int .i64 b) = clN (s.set i { gn s i with p := b })
  | [], i, b, hi => by simp at hi
  | p :: s, 0, b, hi => by simp [clN, gn]
  | p :: s, i + 1, b, hi => by
    have ih := clN_set s i b (by simpa using hi)
    unfold clN gn at *
    rw [List.flatMap_cons, List.set_append_right _ _ (by simp; omega), show (i + 1) * 8 + 5 - [Value.int .i64 p.d, .int .i64 p.r, .int .i64 p.f, .int .i64 p.t, .int .i64 p.w, .int .i64 p.p, .bool p.rn, .bool p.fr].length = i * 8 + 5 from by simp; omega, ih]
    rfl
theorem ownN {w : World} {base c : Nat} {a : Option Addr} {s : List Ni} (h : w.ownsRow base 27 8 (.slice a s.length c) s.length (clN s)) (hn : s.length ≤ 9223372036854775807) : NightsS w a s := by
  refine ⟨hn, ?_⟩
  rcases h.2 with ⟨h1, h2⟩ | ⟨g2, c2, cur, h1, _⟩
  · exact ⟨0, 0, (fun hne => absurd (List.eq_nil_of_length_eq_zero h2) hne), fun i hi => by omega⟩
  · obtain ⟨rfl, rfl⟩ : a = some ⟨g2, 0, none⟩ ∧ c = c2 := by simpa using h1
    refine ⟨g2, 0, fun _ => rfl, fun i hi => ?_⟩
    have hc := clN_c s i hi
    refine ⟨?_, ?_, ?_, ?_, ?_, ?_, ?_, ?_⟩
    · rw [Nat.zero_add, World.ownsRow.cellAt h (i * 8) (by omega)]; exact hc.1
    · rw [Nat.zero_add, World.ownsRow.cellAt h (i * 8 + 1) (by omega)]; exact hc.2.1
    · rw [Nat.zero_add, World.ownsRow.cellAt h (i * 8 + 2) (by omega)]; exact hc.2.2.1
    · rw [Nat.zero_add, World.ownsRow.cellAt h (i * 8 + 3) (by omega)]; exact hc.2.2.2.1
    · rw [Nat.zero_add, World.ownsRow.cellAt h (i * 8 + 4) (by omega)]; exact hc.2.2.2.2.1
    · rw [Nat.zero_add, World.ownsRow.cellAt h (i * 8 + 5) (by omega)]; exact hc.2.2.2.2.2.1
    · rw [Nat.zero_add, World.ownsRow.cellAt h (i * 8 + 6) (by omega)]; exact hc.2.2.2.2.2.2.1
    · rw [Nat.zero_add, World.ownsRow.cellAt h (i * 8 + 7) (by omega)]; exact hc.2.2.2.2.2.2.2
theorem newsN {w : World} {blk off : Nat} {s : List Ni} (h : ∀ i, i < s.length → w.cell? ⟨blk, off + i * 8, none⟩ = some (.int .i64 (gn s i).d) ∧ w.cell? ⟨blk, off + i * 8 + 1, none⟩ = some (.int .i64 (gn s i).r) ∧ w.cell? ⟨blk, off + i * 8 + 2, none⟩ = some (.int .i64 (gn s i).f) ∧ w.cell? ⟨blk, off + i * 8 + 3, none⟩ = some (.int .i64 (gn s i).t) ∧ w.cell? ⟨blk, off + i * 8 + 4, none⟩ = some (.int .i64 (gn s i).w) ∧ w.cell? ⟨blk, off + i * 8 + 5, none⟩ = some (.int .i64 (gn s i).p) ∧ w.cell? ⟨blk, off + i * 8 + 6, none⟩ = some (.bool (gn s i).rn) ∧ w.cell? ⟨blk, off + i * 8 + 7, none⟩ = some (.bool (gn s i).fr)) : ∀ j u, (clN s)[j]? = some u → w.cell? ((⟨blk, off, none⟩ : Addr).add j) = some u := fun j u hu => by
  have hadd : (⟨blk, off, none⟩ : Addr).add j = ⟨blk, off + j, none⟩ := by unfold Addr.add; split <;> simp_all
  rw [hadd]
  have hj : j < s.length * 8 := by
    rw [← clN_len]
    rw [List.getElem?_eq_some_iff] at hu
    exact hu.1
  have hi : j / 8 < s.length := by omega
  have hc := clN_c s (j / 8) hi
  have hm := h (j / 8) hi
  obtain ⟨i, r, hr, rfl⟩ : ∃ i r, r < 8 ∧ j = i * 8 + r := ⟨j / 8, j % 8, by omega, by omega⟩
  have hd : (i * 8 + r) / 8 = i := by omega
  rw [hd] at hc hm
  rw [← Nat.add_assoc]
  match r, hr with
  | 0, _ => exact ((hm.1).trans ((hc.1).symm.trans hu))
  | 1, _ => exact ((hm.2.1).trans ((hc.2.1).symm.trans hu))
  | 2, _ => exact ((hm.2.2.1).trans ((hc.2.2.1).symm.trans hu))
  | 3, _ => exact ((hm.2.2.2.1).trans ((hc.2.2.2.1).symm.trans hu))
  | 4, _ => exact ((hm.2.2.2.2.1).trans ((hc.2.2.2.2.1).symm.trans hu))
  | 5, _ => exact ((hm.2.2.2.2.2.1).trans ((hc.2.2.2.2.2.1).symm.trans hu))
  | 6, _ => exact ((hm.2.2.2.2.2.2.1).trans ((hc.2.2.2.2.2.2.1).symm.trans hu))
  | 7, _ => exact ((hm.2.2.2.2.2.2.2).trans ((hc.2.2.2.2.2.2.2).symm.trans hu))
/-- append(row, list...): the list empty or not. -/
theorem appN {ops : Array Oper} {rest : List Oper} {o : Oper} {a : Act} {Q : Exit → Act → World → Prop} (w : World) (hgd : o.guard = none) (s x : Operand)
    (ho : o.op = .call { callee := .builtin .append, args := #[s, x], argTypes := #[23, 23] })
    (base : Nat) (b : Option Addr) (n c : Nat) (xs : List Value) (hs : a.eval s = .slice b n c) (hown : w.ownsRow base 27 8 (.slice b n c) n xs)
    (ax : Option Addr) (l : List Ni) (cx : Nat) (hx : a.eval x = .slice ax l.length cx) (hP : NightsS w ax l) (hlen : n + l.length ≤ 100000000) (hbase : base ≤ w.heap.size)
    (h : ∀ b' c' w', w'.ownsRow base 27 8 (.slice b' (n + l.length) c') (n + l.length) (xs ++ clN l) → Below base w w' → wpList Try.prog ops Q rest (a.put o.dst (.slice b' (n + l.length) c')) w') : wpList Try.prog ops Q (o :: rest) a w := by
  obtain ⟨n0, hi, hz0, hz1, hz2⟩ := info_parts infoN
  by_cases h0 : l.length = 0
  · have hl := List.eq_nil_of_length_eq_zero h0
    subst hl
    refine wpList_append_zero hgd s x 23 ho base 27 n0 8 Try.underlying23 hi (.slice b n c) n xs hs hown ax cx hx ?_
    have := h b c w (by rw [show clN [] = [] from rfl, List.append_nil]; exact hown) (Below.refl _ _)
    exact this
  · obtain ⟨-, blk, off, hadr, hcell⟩ := hP
    obtain rfl := hadr (by rintro rfl; exact h0 rfl)
    refine wpList_append_lies w hgd s x 23 ho base 27 n0 _ 8 56 Try.underlying23 hi hz0 hz1 hz2 rfl (by decide) (.slice b n c) n xs hs hown ⟨blk, off, none⟩ l.length cx (clN l) hx (by rw [clN_len]) (newsN hcell) (clN_one l) (by omega) (by unfold maxLen; omega) (by omega) hbase _ rfl ?_
    intro g cap w' h1 h2 _ _
    exact h _ _ _ h1 ((Below.refl _ _).grown h2 hbase (fun z hz => owns_blockI hown hz))
/-- append(row, list...) at a step of a region that draws its order: the list empty or not. -/
theorem stepN {ops : Array Oper} {o : Oper} {a : Act} {K : Act → World → Prop} {Q : Exit → Act → World → Prop} {E : Prop} {w : World} (hgd : o.guard = none) (s x : Operand)
    (ho : o.op = .call { callee := .builtin .append, args := #[s, x], argTypes := #[23, 23] })
    (base : Nat) (b : Option Addr) (n c : Nat) (xs : List Value) (hs : a.eval s = .slice b n c) (hown : w.ownsRow base 27 8 (.slice b n c) n xs)
    (ax : Option Addr) (l : List Ni) (cx : Nat) (hx : a.eval x = .slice ax l.length cx) (hP : NightsS w ax l) (m : Nat) (hm : n + l.length = m) (hlen : m ≤ 100000000) (hbase : base ≤ w.heap.size)
    (h : ∀ b' c' w', w'.ownsRow base 27 8 (.slice b' m c') m (xs ++ clN l) → (∀ g, g < w.heap.size → (Value.slice b n c).ownBlock ≠ some g → w'.heap[g]? = w.heap[g]?) → Below base w w' → K (a.put o.dst (.slice b' m c')) w') : if Region.wanted o (yielded ops a.tmps) = true then Oper.wp Try.prog o a w K Q else E := by
  subst hm
  have hw : Region.wanted o (yielded ops a.tmps) = true := by simp [Region.wanted, hgd]
  rw [if_pos hw]
  obtain ⟨n0, hi, hz0, hz1, hz2⟩ := info_parts infoN
  by_cases h0 : l.length = 0
  · have hl := List.eq_nil_of_length_eq_zero h0
    subst hl
    have hrun := run_append_zero (P := Try.prog) (w := w) base 23 o.type 27 n0 8 Try.underlying23 hi (.slice b n c) n xs hown ax cx
    have := h b c w (by rw [show clN [] = [] from rfl, List.append_nil]; exact hown) (fun g _ _ => rfl) (Below.refl _ _)
    unfold Oper.wp
    simp [execOp, ho, resolve, invoke, builtin, hs, hx, hrun, Result.andThen]
    exact this
  · obtain ⟨-, blk, off, hadr, hcell⟩ := hP
    obtain rfl := hadr (by rintro rfl; exact h0 rfl)
    refine wp_append_lies w s x 23 ho base 27 n0 _ 8 56 Try.underlying23 hi hz0 hz1 hz2 rfl (by decide) (.slice b n c) n xs hs hown ⟨blk, off, none⟩ l.length cx (clN l) hx (by rw [clN_len]) (newsN hcell) (clN_one l) (by omega) (by unfold maxLen; omega) (by omega) hbase _ rfl ?_
    intro g cap w' h1 h2 _ _
    exact h _ _ _ h1 (fun g hg hne => h2.block g hg (fun e => hne e.symm)) ((Below.refl _ _).grown h2 hbase (fun z hz => owns_blockI hown hz))
theorem infoJ : (Try.prog.info? 29).map (fun i => (i.zero, i.size, i.bytes)) = some (some (.agg #[.int .i64 0, .int .i64 0, .int .i64 0, .int .i64 0, .int .i64 0, .int .i64 0, .bool false, .bool false]), 8, 56) := by kernel_rfl
/-- The cells of a list, element by element. -/
def clJ (s : List Jo) : List Value := s.flatMap fun p => [Value.int .i64 p.n, .int .i64 p.r, .int .i64 p.c, .int .i64 p.f, .int .i64 p.l, .int .i64 p.w, .bool p.dy, .bool p.wm]
theorem clJ_app (s s' : List Jo) : clJ (s ++ s') = clJ s ++ clJ s' := by simp [clJ]
theorem clJ_len (s : List Jo) : (clJ s).length = s.length * 8 := by
  induction s with
  | nil => rfl
  | cons p s ih => unfold clJ at *; rw [List.flatMap_cons, List.length_append, ih]; simp; omega
theorem clJ_c : ∀ (s : List Jo) (i : Nat), i < s.length → (clJ s)[i * 8]? = some (.int .i64 (gj s i).n) ∧ (clJ s)[i * 8 + 1]? = some (.int .i64 (gj s i).r) ∧ (clJ s)[i * 8 + 2]? = some (.int .i64 (gj s i).c) ∧ (clJ s)[i * 8 + 3]? = some (.int .i64 (gj s i).f) ∧ (clJ s)[i * 8 + 4]? = some (.int .i64 (gj s i).l) ∧ (clJ s)[i * 8 + 5]? = some (.int .i64 (gj s i).w) ∧ (clJ s)[i * 8 + 6]? = some (.bool (gj s i).dy) ∧ (clJ s)[i * 8 + 7]? = some (.bool (gj s i).wm)
  | [], i, hi => by simp at hi
  | p :: s, 0, hi => by simp [clJ, gj]
  | p :: s, i + 1, hi => by
    have ih := clJ_c s i (by simpa using hi)
    have e : ∀ c, c < 8 → (clJ (p :: s))[(i + 1) * 8 + c]? = (clJ s)[i * 8 + c]? := fun c hc => by
      unfold clJ
      rw [List.flatMap_cons, List.getElem?_append_right (by simp; omega), show (i + 1) * 8 + c - [Value.int .i64 p.n, .int .i64 p.r, .int .i64 p.c, .int .i64 p.f, .int .i64 p.l, .int .i64 p.w, .bool p.dy, .bool p.wm].length = i * 8 + c from by simp; omega]
    have h : gj (p :: s) (i + 1) = gj s i := rfl
    rw [h]
    exact ⟨(e 0 (by omega)).trans ih.1, (e 1 (by omega)).trans ih.2.1, (e 2 (by omega)).trans ih.2.2.1, (e 3 (by omega)).trans ih.2.2.2.1, (e 4 (by omega)).trans ih.2.2.2.2.1, (e 5 (by omega)).trans ih.2.2.2.2.2.1, (e 6 (by omega)).trans ih.2.2.2.2.2.2.1, (e 7 (by omega)).trans ih.2.2.2.2.2.2.2⟩
theorem clJ_one (s : List Jo) : ∀ v ∈ clJ s, v.oneCell' = true := by
  intro v hv
  unfold clJ at hv
  rw [List.mem_flatMap] at hv
  obtain ⟨p, _, h⟩ := hv
  simp at h
  rcases h with rfl | rfl | rfl | rfl | rfl | rfl | rfl | rfl <;> rfl
/-- One element with one number changed. -/
theorem clJ_set : ∀ (s : List Jo) (i : Nat) (b : Int), i < s.length → (clJ s).set (i * 8 + 4) (.int .i64 b) = clJ (s.set i { gj s i with l := b })
  | [], i, b, hi => by simp at hi
  | p :: s, 0, b, hi => by simp [clJ, gj]
  | p :: s, i + 1, b, hi => by
    have ih := clJ_set s i b (by simpa using hi)
    unfold clJ gj at *
    rw [List.flatMap_cons, List.set_append_right _ _ (by simp; omega), show (i + 1) * 8 + 4 - [Value.int .i64 p.n, .int .i64 p.r, .int .i64 p.c, .int .i64 p.f, .int .i64 p.l, .int .i64 p.w, .bool p.dy, .bool p.wm].length = i * 8 + 4 from by simp; omega, ih]
    rfl
theorem ownJ {w : World} {base c : Nat} {a : Option Addr} {s : List Jo} (h : w.ownsRow base 29 8 (.slice a s.length c) s.length (clJ s)) (hn : s.length ≤ 9223372036854775807) : JobsS w a s := by
  refine ⟨hn, ?_⟩
  rcases h.2 with ⟨h1, h2⟩ | ⟨g2, c2, cur, h1, _⟩
  · exact ⟨0, 0, (fun hne => absurd (List.eq_nil_of_length_eq_zero h2) hne), fun i hi => by omega⟩
  · obtain ⟨rfl, rfl⟩ : a = some ⟨g2, 0, none⟩ ∧ c = c2 := by simpa using h1
    refine ⟨g2, 0, fun _ => rfl, fun i hi => ?_⟩
    have hc := clJ_c s i hi
    refine ⟨?_, ?_, ?_, ?_, ?_, ?_, ?_, ?_⟩
    · rw [Nat.zero_add, World.ownsRow.cellAt h (i * 8) (by omega)]; exact hc.1
    · rw [Nat.zero_add, World.ownsRow.cellAt h (i * 8 + 1) (by omega)]; exact hc.2.1
    · rw [Nat.zero_add, World.ownsRow.cellAt h (i * 8 + 2) (by omega)]; exact hc.2.2.1
    · rw [Nat.zero_add, World.ownsRow.cellAt h (i * 8 + 3) (by omega)]; exact hc.2.2.2.1
    · rw [Nat.zero_add, World.ownsRow.cellAt h (i * 8 + 4) (by omega)]; exact hc.2.2.2.2.1
    · rw [Nat.zero_add, World.ownsRow.cellAt h (i * 8 + 5) (by omega)]; exact hc.2.2.2.2.2.1
    · rw [Nat.zero_add, World.ownsRow.cellAt h (i * 8 + 6) (by omega)]; exact hc.2.2.2.2.2.2.1
    · rw [Nat.zero_add, World.ownsRow.cellAt h (i * 8 + 7) (by omega)]; exact hc.2.2.2.2.2.2.2
theorem newsJ {w : World} {blk off : Nat} {s : List Jo} (h : ∀ i, i < s.length → w.cell? ⟨blk, off + i * 8, none⟩ = some (.int .i64 (gj s i).n) ∧ w.cell? ⟨blk, off + i * 8 + 1, none⟩ = some (.int .i64 (gj s i).r) ∧ w.cell? ⟨blk, off + i * 8 + 2, none⟩ = some (.int .i64 (gj s i).c) ∧ w.cell? ⟨blk, off + i * 8 + 3, none⟩ = some (.int .i64 (gj s i).f) ∧ w.cell? ⟨blk, off + i * 8 + 4, none⟩ = some (.int .i64 (gj s i).l) ∧ w.cell? ⟨blk, off + i * 8 + 5, none⟩ = some (.int .i64 (gj s i).w) ∧ w.cell? ⟨blk, off + i * 8 + 6, none⟩ = some (.bool (gj s i).dy) ∧ w.cell? ⟨blk, off + i * 8 + 7, none⟩ = some (.bool (gj s i).wm)) : ∀ j u, (clJ s)[j]? = some u → w.cell? ((⟨blk, off, none⟩ : Addr).add j) = some u := fun j u hu => by
  have hadd : (⟨blk, off, none⟩ : Addr).add j = ⟨blk, off + j, none⟩ := by unfold Addr.add; split <;> simp_all
  rw [hadd]
  have hj : j < s.length * 8 := by
    rw [← clJ_len]
    rw [List.getElem?_eq_some_iff] at hu
    exact hu.1
  have hi : j / 8 < s.length := by omega
  have hc := clJ_c s (j / 8) hi
  have hm := h (j / 8) hi
  obtain ⟨i, r, hr, rfl⟩ : ∃ i r, r < 8 ∧ j = i * 8 + r := ⟨j / 8, j % 8, by omega, by omega⟩
  have hd : (i * 8 + r) / 8 = i := by omega
  rw [hd] at hc hm
  rw [← Nat.add_assoc]
  match r, hr with
  | 0, _ => exact ((hm.1).trans ((hc.1).symm.trans hu))
  | 1, _ => exact ((hm.2.1).trans ((hc.2.1).symm.trans hu))
  | 2, _ => exact ((hm.2.2.1).trans ((hc.2.2.1).symm.trans hu))
  | 3, _ => exact ((hm.2.2.2.1).trans ((hc.2.2.2.1).symm.trans hu))
  | 4, _ => exact ((hm.2.2.2.2.1).trans ((hc.2.2.2.2.1).symm.trans hu))
  | 5, _ => exact ((hm.2.2.2.2.2.1).trans ((hc.2.2.2.2.2.1).symm.trans hu))
  | 6, _ => exact ((hm.2.2.2.2.2.2.1).trans ((hc.2.2.2.2.2.2.1).symm.trans hu))
  | 7, _ => exact ((hm.2.2.2.2.2.2.2).trans ((hc.2.2.2.2.2.2.2).symm.trans hu))
/-- append(row, list...): the list empty or not. -/
theorem appJ {ops : Array Oper} {rest : List Oper} {o : Oper} {a : Act} {Q : Exit → Act → World → Prop} (w : World) (hgd : o.guard = none) (s x : Operand)
    (ho : o.op = .call { callee := .builtin .append, args := #[s, x], argTypes := #[22, 22] })
    (base : Nat) (b : Option Addr) (n c : Nat) (xs : List Value) (hs : a.eval s = .slice b n c) (hown : w.ownsRow base 29 8 (.slice b n c) n xs)
    (ax : Option Addr) (l : List Jo) (cx : Nat) (hx : a.eval x = .slice ax l.length cx) (hP : JobsS w ax l) (hlen : n + l.length ≤ 100000000) (hbase : base ≤ w.heap.size)
    (h : ∀ b' c' w', w'.ownsRow base 29 8 (.slice b' (n + l.length) c') (n + l.length) (xs ++ clJ l) → Below base w w' → wpList Try.prog ops Q rest (a.put o.dst (.slice b' (n + l.length) c')) w') : wpList Try.prog ops Q (o :: rest) a w := by
  obtain ⟨n0, hi, hz0, hz1, hz2⟩ := info_parts infoJ
  by_cases h0 : l.length = 0
  · have hl := List.eq_nil_of_length_eq_zero h0
    subst hl
    refine wpList_append_zero hgd s x 22 ho base 29 n0 8 Try.underlying22 hi (.slice b n c) n xs hs hown ax cx hx ?_
    have := h b c w (by rw [show clJ [] = [] from rfl, List.append_nil]; exact hown) (Below.refl _ _)
    exact this
  · obtain ⟨-, blk, off, hadr, hcell⟩ := hP
    obtain rfl := hadr (by rintro rfl; exact h0 rfl)
    refine wpList_append_lies w hgd s x 22 ho base 29 n0 _ 8 56 Try.underlying22 hi hz0 hz1 hz2 rfl (by decide) (.slice b n c) n xs hs hown ⟨blk, off, none⟩ l.length cx (clJ l) hx (by rw [clJ_len]) (newsJ hcell) (clJ_one l) (by omega) (by unfold maxLen; omega) (by omega) hbase _ rfl ?_
    intro g cap w' h1 h2 _ _
    exact h _ _ _ h1 ((Below.refl _ _).grown h2 hbase (fun z hz => owns_blockI hown hz))
/-- append(row, list...) at a step of a region that draws its order: the list empty or not. -/
theorem stepJ {ops : Array Oper} {o : Oper} {a : Act} {K : Act → World → Prop} {Q : Exit → Act → World → Prop} {E : Prop} {w : World} (hgd : o.guard = none) (s x : Operand)
    (ho : o.op = .call { callee := .builtin .append, args := #[s, x], argTypes := #[22, 22] })
    (base : Nat) (b : Option Addr) (n c : Nat) (xs : List Value) (hs : a.eval s = .slice b n c) (hown : w.ownsRow base 29 8 (.slice b n c) n xs)
    (ax : Option Addr) (l : List Jo) (cx : Nat) (hx : a.eval x = .slice ax l.length cx) (hP : JobsS w ax l) (m : Nat) (hm : n + l.length = m) (hlen : m ≤ 100000000) (hbase : base ≤ w.heap.size)
    (h : ∀ b' c' w', w'.ownsRow base 29 8 (.slice b' m c') m (xs ++ clJ l) → (∀ g, g < w.heap.size → (Value.slice b n c).ownBlock ≠ some g → w'.heap[g]? = w.heap[g]?) → Below base w w' → K (a.put o.dst (.slice b' m c')) w') : if Region.wanted o (yielded ops a.tmps) = true then Oper.wp Try.prog o a w K Q else E := by
  subst hm
  have hw : Region.wanted o (yielded ops a.tmps) = true := by simp [Region.wanted, hgd]
  rw [if_pos hw]
  obtain ⟨n0, hi, hz0, hz1, hz2⟩ := info_parts infoJ
  by_cases h0 : l.length = 0
  · have hl := List.eq_nil_of_length_eq_zero h0
    subst hl
    have hrun := run_append_zero (P := Try.prog) (w := w) base 22 o.type 29 n0 8 Try.underlying22 hi (.slice b n c) n xs hown ax cx
    have := h b c w (by rw [show clJ [] = [] from rfl, List.append_nil]; exact hown) (fun g _ _ => rfl) (Below.refl _ _)
    unfold Oper.wp
    simp [execOp, ho, resolve, invoke, builtin, hs, hx, hrun, Result.andThen]
    exact this
  · obtain ⟨-, blk, off, hadr, hcell⟩ := hP
    obtain rfl := hadr (by rintro rfl; exact h0 rfl)
    refine wp_append_lies w s x 22 ho base 29 n0 _ 8 56 Try.underlying22 hi hz0 hz1 hz2 rfl (by decide) (.slice b n c) n xs hs hown ⟨blk, off, none⟩ l.length cx (clJ l) hx (by rw [clJ_len]) (newsJ hcell) (clJ_one l) (by omega) (by unfold maxLen; omega) (by omega) hbase _ rfl ?_
    intro g cap w' h1 h2 _ _
    exact h _ _ _ h1 (fun g hg hne => h2.block g hg (fun e => hne e.symm)) ((Below.refl _ _).grown h2 hbase (fun z hz => owns_blockI hown hz))
end Go.Proofs.Ytkfefemlombejaa
