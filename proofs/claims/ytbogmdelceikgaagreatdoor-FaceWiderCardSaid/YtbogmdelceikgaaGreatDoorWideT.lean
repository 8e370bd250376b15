/-
  Rows of strings of one's own. By an AI agent.
-/
import Derived.Test.YtbogmdelceikgaaGreatDoorPanE
import Derived.Deep.AppendLies
namespace Go.Proofs.YtbogmdelceikgaaGreatDoor
set_option linter.unusedVariables false
set_option linter.unusedSimpArgs false
open Go.RowKit

theorem strInfo : (Tryz.prog.info? 9).map (fun i => (i.zero, i.size, i.bytes)) = some (some (.string ByteArray.empty), 1, 16) := by kernel_rfl
def clT (ls : List ByteArray) : List Value := ls.map Value.string
theorem clT_one (ls : List ByteArray) : ∀ v ∈ clT ls, v.oneCell' = true := by
  intro v hv
  unfold clT at hv
  rw [List.mem_map] at hv
  obtain ⟨s, _, rfl⟩ := hv
  rfl
theorem newsT {w : World} {blk off : Nat} {ls : List ByteArray} (h : ∀ i (h : i < ls.length), w.cell? ⟨blk, off + i, none⟩ = some (.string ls[i])) : ∀ j u, (clT ls)[j]? = some u → w.cell? ((⟨blk, off, none⟩ : Addr).add j) = some u := by
  intro j u hu
  have e : ((⟨blk, off, none⟩ : Addr).add j) = ⟨blk, off + j, none⟩ := by simp [Addr.add]
  rw [e]
  unfold clT at hu
  rw [List.getElem?_map] at hu
  rcases Nat.lt_or_ge j ls.length with hj | hj
  · rw [List.getElem?_eq_getElem hj] at hu
    cases hu
    exact h j hj
  · rw [List.getElem?_eq_none hj] at hu
    cases hu
theorem ownT {w : World} {base g c : Nat} {T : TypeId} {ls : List ByteArray} (h : w.ownsRow base T 1 (.slice (some ⟨g, 0, none⟩) ls.length c) ls.length (clT ls)) (hl : ls.length ≤ 9223372036854775807) (hs : ∀ s ∈ ls, s.size ≤ maxLen) : LinesAt w (some ⟨g, 0, none⟩) ls := by
  refine ⟨hl, hs, g, 0, fun _ => rfl, fun i hi => ?_⟩
  rw [Nat.zero_add, World.ownsRow.cellAt h i (by omega)]
  unfold clT
  rw [List.getElem?_map, List.getElem?_eq_getElem hi]
  rfl
theorem own_some1 {w : World} {base : Nat} {e : TypeId} {g : Option Addr} {n c : Nat} {xs : List Value} (h : w.ownsRow base e 1 (.slice g n c) n xs) (hn : 0 < n) : ∃ gb, g = some ⟨gb, 0, none⟩ ∧ base ≤ gb := by
  rcases h.2 with ⟨h1, h2⟩ | ⟨g2, c2, cur, h1, h2, _⟩
  · omega
  · have e : g = some ⟨g2, 0, none⟩ := by simpa using (Value.slice.inj h1).1
    exact ⟨g2, e, h2⟩
theorem appT {ops : Array Oper} {rest : List Oper} {o : Oper} {a : Act} {Q : Exit → Act → World → Prop} (w : World) (hgd : o.guard = none) (s x : Operand)
    (ho : o.op = .call { callee := .builtin .append, args := #[s, x], argTypes := #[22, 22] })
    (base : Nat) (b : Option Addr) (n c : Nat) (xs : List Value) (hs : a.eval s = .slice b n c) (hown : w.ownsRow base 9 1 (.slice b n c) n xs)
    (blk off : Nat) (ls : List ByteArray) (cx : Nat) (hx : a.eval x = .slice (some ⟨blk, off, none⟩) ls.length cx) (hcell : ∀ i (h : i < ls.length), w.cell? ⟨blk, off + i, none⟩ = some (.string ls[i])) (h0 : 0 < ls.length) (hlen : n + ls.length ≤ 100000000) (hbase : base ≤ w.heap.size)
    (h : ∀ b' c' w', w'.ownsRow base 9 1 (.slice b' (n + ls.length) c') (n + ls.length) (xs ++ clT ls) → Below base w w' → wpList Tryz.prog ops Q rest (a.put o.dst (.slice b' (n + ls.length) c')) w') : wpList Tryz.prog ops Q (o :: rest) a w := by
  obtain ⟨n0, hi, hz0, hz1, hz2⟩ := info_parts strInfo
  refine wpList_append_lies w hgd s x 22 ho base 9 n0 _ 1 16 Tryz.underlying22 hi hz0 hz1 hz2 rfl (by decide) (.slice b n c) n xs hs hown ⟨blk, off, none⟩ ls.length cx (clT ls) hx (by unfold clT; simp) (newsT hcell) (clT_one ls) (by omega) (by unfold maxLen; omega) (by omega) hbase _ rfl ?_
  intro g cap w' h1 h2 _ _
  refine h _ _ _ h1 ((Below.refl _ _).grown h2 hbase (fun z hz => ?_))
  rcases hown.2 with ⟨h3, _⟩ | ⟨g2, c3, cur, h3, h4, _⟩
  · rw [h3] at hz; simp [Value.ownBlock] at hz
  · rw [h3] at hz; simp [Value.ownBlock] at hz; omega
theorem clT_set (ls : List ByteArray) (i : Nat) (s : ByteArray) : (clT ls).set i (.string s) = clT (ls.set i s) := by
  unfold clT; rw [List.map_set]
end Go.Proofs.YtbogmdelceikgaaGreatDoor
