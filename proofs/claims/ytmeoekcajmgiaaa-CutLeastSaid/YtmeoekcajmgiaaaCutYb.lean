/-
  A list of rows of ints that a call owns, each row in a block of its own: append of a row, store into a row. By an AI agent.
-/
import Derived.Test.YtmeoekcajmgiaaaCutYa
import Derived.Test.YtmeoekcajmgiaaaCutV
import Derived.Test.YtmeoekcajmgiaaaAppZero
import Derived.Deep.AppendLies
namespace Go.Proofs.Ytmeoekcajmgiaaa
set_option linter.unusedVariables false
set_option linter.unusedSimpArgs false
open Go.RowKit

theorem infoIntY : (Try.prog.info? 3).map (fun i => (i.zero, i.size, i.bytes)) = some (some (.int .i64 0), 1, 8) := by kernel_rfl
theorem infoRowY : (Try.prog.info? 33).map (fun i => (i.zero, i.size, i.bytes)) = some (some (.slice none 0 0), 1, 24) := by kernel_rfl
theorem undRowY : Try.prog.underlying 33 = some (.slice 3) := by kernel_rfl
theorem undRowsY : Try.prog.underlying 74 = some (.slice 33) := by kernel_rfl
theorem isL_len (zs : List Int) : (isL zs).length = zs.length := by simp [isL]
theorem isL_get (zs : List Int) {i : Nat} (hi : i < zs.length) : (isL zs)[i]? = some (.int .i64 (gi zs i)) := by simp [isL, gi, hi]
theorem isL_one (l : List Int) : ∀ u ∈ isL l, u.oneCell' = true := by
  intro u hu
  obtain ⟨x, _, rfl⟩ := List.mem_map.1 hu
  rfl
theorem owns_blockY {w : World} {base : Nat} {e : TypeId} {size : Nat} {v : Value} {n : Nat} {xs : List Value} (h : w.ownsRow base e size v n xs) {z : Nat} (hz : v.ownBlock = some z) : base ≤ z := (World.ownsRow.lt h z hz).1
theorem info_partsY {t : TypeId} {z : Value} {s b : Nat} (h : (Try.prog.info? t).map (fun i => (i.zero, i.size, i.bytes)) = some (some z, s, b)) : ∃ i, Try.prog.info? t = some i ∧ i.zero = some z ∧ i.size = s ∧ i.bytes = b := by
  cases e : Try.prog.info? t with
  | none => rw [e] at h; cases h
  | some i => rw [e] at h; simp at h; exact ⟨i, rfl, h.1, h.2.1, h.2.2⟩
/-- append of a whole list to a row of one's own. -/
theorem app_intsY {ops : Array Oper} {rest : List Oper} {o : Oper} {a : Act} {Q : Exit → Act → World → Prop} (w : World) (hgd : o.guard = none) (s x : Operand)
    (ho : o.op = .call { callee := .builtin .append, args := #[s, x], argTypes := #[33, 33] })
    (base : Nat) (b : Option Addr) (n c : Nat) (xs : List Value) (hs : a.eval s = .slice b n c) (hown : w.ownsRow base 3 1 (.slice b n c) n xs)
    (ax : Option Addr) (l : List Int) (cx : Nat) (hx : a.eval x = .slice ax l.length cx) (hP : IntsS w ax l) (hlen : n + l.length ≤ 100000000) (hbase : base ≤ w.heap.size)
    (h : ∀ b' c' w', w'.ownsRow base 3 1 (.slice b' (n + l.length) c') (n + l.length) (xs ++ isL l) → Below base w w' → wpList Try.prog ops Q rest (a.put o.dst (.slice b' (n + l.length) c')) w') : wpList Try.prog ops Q (o :: rest) a w := by
  obtain ⟨n0, hi, hz0, hz1, hz2⟩ := info_partsY infoIntY
  by_cases h0 : l.length = 0
  · have hl := List.eq_nil_of_length_eq_zero h0
    subst hl
    refine wpList_append_zero hgd s x 33 ho base 3 n0 1 undRowY hi (.slice b n c) n xs hs hown ax cx hx ?_
    have := h b c w (by rw [show isL [] = [] from rfl, List.append_nil]; exact hown) (Below.refl _ _)
    exact this
  · obtain ⟨-, -, blk, off, hadr, hcell⟩ := hP
    obtain rfl := hadr (by rintro rfl; exact h0 rfl)
    refine wpList_append_lies w hgd s x 33 ho base 3 n0 _ 1 8 undRowY hi hz0 hz1 hz2 rfl (by decide) (.slice b n c) n xs hs hown ⟨blk, off, none⟩ l.length cx (isL l) hx (by rw [isL_len]; omega) (fun j u h => ?_) (isL_one l) (by omega) (by unfold maxLen; omega) (by omega) hbase _ rfl ?_
    · have hj : j < l.length := by
        rw [← isL_len]
        rw [List.getElem?_eq_some_iff] at h
        exact h.1
      rw [isL_get l hj] at h
      cases h
      have hadd : (⟨blk, off, none⟩ : Addr).add j = ⟨blk, off + j, none⟩ := by unfold Addr.add; split <;> simp_all
      rw [hadd]
      exact hcell j hj
    · intro g cap w' h1 h2 _ _
      exact h _ _ _ h1 ((Below.refl _ _).grown h2 hbase (fun z hz => owns_blockY hown hz))
/-- A row stays where its block stays. -/
theorem owns_at {w w' : World} {base : Nat} {e : TypeId} {size b n c : Nat} {xs : List Value} (h : w.ownsRow base e size (.slice (some ⟨b, 0, none⟩) n c) n xs) (hb : w'.heap[b]? = w.heap[b]?) : w'.ownsRow base e size (.slice (some ⟨b, 0, none⟩) n c) n xs := by
  refine ⟨h.1, ?_⟩
  rcases h.2 with ⟨h2, _⟩ | ⟨g, cap, cur, h1, h2, h3, h4⟩
  · cases h2
  · obtain ⟨rfl, rfl⟩ : b = g ∧ c = cap := by simpa using h1
    exact .inr ⟨b, c, cur, h1, h2, by rw [hb]; exact h3, h4⟩
theorem owns_cap {w : World} {base : Nat} {e : TypeId} {size b n c : Nat} {xs : List Value} (h : w.ownsRow base e size (.slice (some ⟨b, 0, none⟩) n c) n xs) : n ≤ c := by
  rcases h.2 with ⟨h2, _⟩ | ⟨g, cap, cur, h1, h2, h3, h4, _⟩
  · cases h2
  · obtain ⟨rfl, rfl⟩ : b = g ∧ c = cap := by simpa using h1
    exact h4
/-- Rows of A ints, each in a block of its own, made one after the other. -/
def NxR (base : Nat) (w : World) (v : Value) (k A : Nat) (R : Nat → List Int) : Prop :=
  ∃ ad cp : Nat → Nat, w.ownsRow base 33 1 v k ((List.range k).map fun i => .slice (some ⟨ad i, 0, none⟩) A (cp i)) ∧
    (∀ i, i < k → w.ownsRow base 3 1 (.slice (some ⟨ad i, 0, none⟩) A (cp i)) A (isL (R i)) ∧ (R i).length = A ∧ v.ownBlock ≠ some (ad i)) ∧ ∀ i j, i < j → j < k → ad i < ad j
theorem NxR.nil (base : Nat) (w : World) (A : Nat) (R : Nat → List Int) : NxR base w (.slice none 0 0) 0 A R :=
  ⟨fun _ => 0, fun _ => 0, ⟨rfl, .inl ⟨rfl, rfl⟩⟩, fun i hi => absurd hi (Nat.not_lt_zero _), fun i j _ hj => absurd hj (Nat.not_lt_zero _)⟩
theorem NxR.below {base : Nat} {w w' : World} {v : Value} {k A : Nat} {R : Nat → List Int} (h : NxR base w v k A R) (hb : Below w.heap.size w w') : NxR base w' v k A R := by
  obtain ⟨ad, cp, h1, h2, h3⟩ := h
  exact ⟨ad, cp, owns_below h1 hb, fun i hi => ⟨owns_below (h2 i hi).1 hb, (h2 i hi).2⟩, h3⟩
theorem NxR.congr {base : Nat} {w : World} {v : Value} {k A : Nat} {R R' : Nat → List Int} (h : NxR base w v k A R) (he : ∀ i, i < k → R i = R' i) : NxR base w v k A R' := by
  obtain ⟨ad, cp, h1, h2, h3⟩ := h
  exact ⟨ad, cp, h1, fun i hi => by rw [← he i hi]; exact h2 i hi, h3⟩
/-- append of a row that was made after all others. -/
theorem NxR.app {base : Nat} {W0 w w' : World} {v : Value} {k A : Nat} {R : Nat → List Int} {ad0 cp0 : Nat → Nat} {b c1 g c : Nat} (q1 : W0.ownsRow base 33 1 v k ((List.range k).map fun i => .slice (some ⟨ad0 i, 0, none⟩) A (cp0 i)))
    (q2 : ∀ i, i < k → W0.ownsRow base 3 1 (.slice (some ⟨ad0 i, 0, none⟩) A (cp0 i)) A (isL (R i)) ∧ (R i).length = A ∧ v.ownBlock ≠ some (ad0 i)) (q3 : ∀ i j, i < j → j < k → ad0 i < ad0 j) (h0 : Below W0.heap.size W0 w) (hb : W0.heap.size ≤ b)
    (hr : w.ownsRow base 3 1 (.slice (some ⟨b, 0, none⟩) A c1) A (isL (R k))) (hA : (R k).length = A)
    (ho : w'.ownsRow base 33 1 (.slice (some ⟨g, 0, none⟩) (k + 1) c) (k + 1) (((List.range k).map fun i => .slice (some ⟨ad0 i, 0, none⟩) A (cp0 i)) ++ [.slice (some ⟨b, 0, none⟩) A c1])) (hg : w.grownBy w' v.ownBlock) (hor : v.ownBlock = some g ∨ g = w.heap.size) :
    NxR base w' (.slice (some ⟨g, 0, none⟩) (k + 1) c) (k + 1) A R := by
  have hz : ∀ z, v.ownBlock = some z → z < W0.heap.size := fun z hz => (World.ownsRow.lt q1 z hz).2
  have hlt : ∀ {b c1 : Nat} {R : List Int}, w.ownsRow base 3 1 (.slice (some ⟨b, 0, none⟩) A c1) A (isL R) → b < w.heap.size := fun h => (World.ownsRow.lt h _ rfl).2
  have hlt0 : ∀ i, i < k → ad0 i < W0.heap.size := fun i hi => (World.ownsRow.lt (q2 i hi).1 _ rfl).2
  have turn : ∀ {b c1 : Nat} {R : List Int}, v.ownBlock ≠ some b → w.ownsRow base 3 1 (.slice (some ⟨b, 0, none⟩) A c1) A (isL R) → w'.ownsRow base 3 1 (.slice (some ⟨b, 0, none⟩) A c1) A (isL R) ∧ some g ≠ some b := fun {b c1 R} hne h => by
    refine ⟨owns_at h (hg.block b (hlt h) (fun e => hne e.symm)), fun e => ?_⟩
    cases e
    rcases hor with e | e
    · exact hne e
    · have := hlt h; omega
  have hvb : v.ownBlock ≠ some b := fun e => by have := hz b e; omega
  refine ⟨fun i => if i = k then b else ad0 i, fun i => if i = k then c1 else cp0 i, ?_, fun i hi => ?_, fun i j hij hj => ?_⟩
  · rw [List.range_succ, List.map_append]
    have e1 : ((List.range k).map fun i => Value.slice (some ⟨if i = k then b else ad0 i, 0, none⟩) A (if i = k then c1 else cp0 i)) = (List.range k).map fun i => Value.slice (some ⟨ad0 i, 0, none⟩) A (cp0 i) :=
      List.map_congr_left fun i hi => by have := List.mem_range.1 hi; rw [if_neg (by omega), if_neg (by omega)]
    rw [e1]
    simpa using ho
  · by_cases e : i = k
    · subst e; simp only [if_pos]; exact ⟨(turn hvb hr).1, hA, (turn hvb hr).2⟩
    · simp only [if_neg e]
      have hq := q2 i (by omega)
      have ht := turn hq.2.2 (owns_below hq.1 h0)
      exact ⟨ht.1, hq.2.1, ht.2⟩
  · by_cases e : j = k
    · subst e; simp only [if_pos, if_neg (show ¬ i = j by omega)]
      have := hlt0 i hij; omega
    · simp only [if_neg e, if_neg (show ¬ i = k by omega)]
      exact q3 i j hij (by omega)
/-- The same as an operation. -/
theorem app_rowY {w : World} {ops : Array Oper} {rest : List Oper} {o : Oper} {a : Act} {Q : Exit → Act → World → Prop} (hgd : o.guard = none) (s x : Operand)
    (ho : o.op = .call { callee := .builtin .append, args := #[s, x], argTypes := #[74, 74] })
    (base k A : Nat) (v : Value) (R : Nat → List Int) (W0 : World) (hs : a.eval s = v) (h : NxR base W0 v k A R) (h0 : Below W0.heap.size W0 w) (b c1 : Nat) (hb : W0.heap.size ≤ b)
    (hr : w.ownsRow base 3 1 (.slice (some ⟨b, 0, none⟩) A c1) A (isL (R k))) (hA : (R k).length = A) (hk : k ≤ 1000) (hbase : base ≤ w.heap.size)
    (B : Nat) (hx : a.eval x = .slice (some ⟨B, 0, none⟩) 1 1) (hc : w.cell? ⟨B, 0, none⟩ = some (.slice (some ⟨b, 0, none⟩) A c1))
    (hn : ∀ g c' w', NxR base w' (.slice (some ⟨g, 0, none⟩) (k + 1) c') (k + 1) A R → Below base w w' → wpList Try.prog ops Q rest (a.put o.dst (.slice (some ⟨g, 0, none⟩) (k + 1) c')) w') : wpList Try.prog ops Q (o :: rest) a w := by
  obtain ⟨i0, hi, hz0, hz1, hz2⟩ := info_partsY infoRowY
  obtain ⟨ad, cp, q1, q2, q3⟩ := h
  have hown := owns_below q1 h0
  refine wpList_append_lies w hgd s x 74 ho base 33 i0 _ 1 24 undRowsY hi hz0 hz1 hz2 rfl (by decide) v k _ hs hown ⟨B, 0, none⟩ 1 1 [.slice (some ⟨b, 0, none⟩) A c1] hx rfl ?_ ?_ (by decide) (by unfold maxLen; omega) (by omega) hbase _ rfl ?_
  · intro j u hj
    match j, hj with
    | 0, hj => simp at hj; subst hj; exact hc
  · intro u hu; simp at hu; subst hu; rfl
  · intro g c' w' h1 h2 h3 h4
    exact hn g c' w' (NxR.app q1 q2 q3 h0 hb hr hA h1 h2 h3) ((Below.refl base w).grown h2 hbase (fun k hk => owns_blockY hown hk))
/-- What a walk needs of one row, and a store into it. -/
theorem NxR.at {base : Nat} {w : World} {g n c k A : Nat} {R : Nat → List Int} (h : NxR base w (.slice (some ⟨g, 0, none⟩) n c) k A R) {i : Nat} (hi : i < k) :
    ∃ b cp, w.cell? ⟨g, i, none⟩ = some (.slice (some ⟨b, 0, none⟩) A cp) ∧ A ≤ cp ∧ base ≤ b ∧ (∀ x, x < A → w.cell? ⟨b, x, none⟩ = some (.int .i64 (gi (R i) x))) ∧ (∀ x, w.frozen? ⟨b, x, none⟩ = false) ∧ g ≠ b ∧
      ∀ w2, Below w.heap.size w w2 → ∀ x y, x < A → NxR base (w2.setCell ⟨b, x, none⟩ (.int .i64 y)) (.slice (some ⟨g, 0, none⟩) n c) k A (fun j => if j = i then (R i).set x y else R j) := by
  obtain ⟨ad, cp, q1, q2, q3⟩ := h
  obtain ⟨r1, r2, r3⟩ := q2 i hi
  obtain rfl : n = k := by
    have := q1.1
    rcases q1.2 with ⟨h, _⟩ | ⟨g2, c2, cur, h1, _⟩
    · cases h
    · simp at h1; exact h1.2.1
  have hne : g ≠ ad i := fun e => r3 (by rw [e]; rfl)
  refine ⟨ad i, cp i, ?_, owns_cap r1, owns_blockY r1 rfl, fun x hx => ?_, fun x => World.ownsRow.frozenAt r1 x, hne, fun w2 hb2 x y hx => ?_⟩
  · rw [World.ownsRow.cellAt q1 i (by omega)]; simp [hi]
  · rw [World.ownsRow.cellAt r1 x (by omega)]; exact isL_get _ (by omega)
  · have q1 := owns_below q1 hb2
    have r1 := owns_below r1 hb2
    have hs : ∀ z, z < w2.heap.size → z ≠ ad i → (w2.setCell ⟨ad i, x, none⟩ (.int .i64 y)).heap[z]? = w2.heap[z]? := fun z hlt hz => (World.ownsRow.stored r1 x (.int .i64 y)).2.block z hlt (fun e => hz (by simpa using e))
    refine ⟨ad, cp, owns_at q1 (hs g (World.ownsRow.lt q1 _ rfl).2 hne), fun j hj => ?_, q3⟩
    by_cases e : j = i
    · subst e
      simp only [if_pos]
      refine ⟨?_, by simpa using r2, r3⟩
      have := (World.ownsRow.stored r1 x (.int .i64 y)).1
      rwa [show (isL (R j)).set x (.int .i64 y) = isL ((R j).set x y) from by unfold isL; rw [List.map_set]] at this
    · simp only [if_neg e]
      have hj2 : ad j ≠ ad i := by
        rcases Nat.lt_or_gt_of_ne e with h | h
        · have := q3 j i h hi; omega
        · have := q3 i j h hj; omega
      have r2 := owns_below (q2 j hj).1 hb2
      exact ⟨owns_at r2 (hs _ (World.ownsRow.lt r2 _ rfl).2 hj2), (q2 j hj).2⟩
/-- Such rows read as a slice of slices. -/
theorem NxR.rows {base : Nat} {w : World} {g n c A : Nat} {C : List (List Int)} (h : NxR base w (.slice (some ⟨g, 0, none⟩) n c) n A (gr C)) (hC : C.length = n) (hn : n ≤ 1000) (hA : A ≤ 1000) (h64 : ∀ i, i < n → ∀ j, j < A → I64 (gi (gr C i) j)) : RowsS w (some ⟨g, 0, none⟩) C := by
  obtain ⟨ad, cp, q1, q2, q3⟩ := h
  refine ⟨by omega, g, 0, fun i => some ⟨ad i, 0, none⟩, cp, fun _ => rfl, fun i hi => ?_⟩
  obtain ⟨r1, r2, r3⟩ := q2 i (by omega)
  refine ⟨?_, ⟨by omega, fun j hj => h64 i (by omega) j (by omega), ad i, 0, fun _ => rfl, fun j hj => ?_⟩, by rw [r2]; exact owns_cap r1⟩
  · rw [Nat.zero_add, World.ownsRow.cellAt q1 i (by omega), r2]; simp [show i < n by omega]
  · rw [Nat.zero_add, World.ownsRow.cellAt r1 j (by omega)]; exact isL_get _ hj
theorem NxR.shape {base : Nat} {w : World} {v : Value} {k A : Nat} {R : Nat → List Int} (h : NxR base w v k A R) (hk : 0 < k) : ∃ g c, v = .slice (some ⟨g, 0, none⟩) k c := by
  obtain ⟨ad, cp, q1, q2, q3⟩ := h
  rcases q1.2 with ⟨_, h2⟩ | ⟨g, cap, cur, h1, _⟩
  · omega
  · exact ⟨g, cap, h1⟩
theorem NxR.len {base : Nat} {w : World} {v : Value} {k A : Nat} {R : Nat → List Int} (h : NxR base w v k A R) {i : Nat} (hi : i < k) : (R i).length = A := by
  obtain ⟨ad, cp, q1, q2, q3⟩ := h
  exact (q2 i hi).2.1
end Go.Proofs.Ytmeoekcajmgiaaa
