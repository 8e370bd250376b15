/-
  Ints at a block of one's own; slices.Clone of ints; append to an empty literal; rows of ints that grow. By an AI agent.
-/
import Derived.Test.YtelehohffcncaaaLightA
import Derived.Deep.AppendLies
import Derived.Lib.SliceRun
namespace Go.Proofs.Ytelehohffcncaaa
set_option linter.unusedVariables false
set_option linter.unusedSimpArgs false
open Go.RowKit

def clD (l : List Int) : List Value := l.map fun x => .int .i64 x
theorem clD_len (l : List Int) : (clD l).length = l.length := by simp [clD]
theorem clD_get (l : List Int) {i : Nat} (hi : i < l.length) : (clD l)[i]? = some (.int .i64 (gi l i)) := by simp [clD, gi, hi]
theorem clD_one (l : List Int) : ∀ u ∈ clD l, u.oneCell' = true := by
  intro u hu
  obtain ⟨x, _, rfl⟩ := List.mem_map.1 hu
  rfl
theorem infoIntD : (Try.prog.info? 3).map (fun i => (i.zero, i.size, i.bytes)) = some (some (.int .i64 0), 1, 8) := by kernel_rfl
theorem infoRowD : (Try.prog.info? 22).map (fun i => (i.zero, i.size, i.bytes)) = some (some (.slice none 0 0), 1, 24) := by kernel_rfl
theorem undRowD : Try.prog.underlying 22 = some (.slice 3) := by kernel_rfl
theorem undRowsD : Try.prog.underlying 23 = some (.slice 22) := by kernel_rfl
theorem info_partsD {t : TypeId} {z : Value} {s b : Nat} (h : (Try.prog.info? t).map (fun i => (i.zero, i.size, i.bytes)) = some (some z, s, b)) : ∃ i, Try.prog.info? t = some i ∧ i.zero = some z ∧ i.size = s ∧ i.bytes = b := by
  cases e : Try.prog.info? t with
  | none => rw [e] at h; cases h
  | some i => rw [e] at h; simp at h; exact ⟨i, rfl, h.1, h.2.1, h.2.2⟩
/-- Ints from the head of a block on. -/
def Lie (w : World) (g : Nat) (l : List Int) : Prop := ∀ i, i < l.length → w.cell? ⟨g, i, none⟩ = some (.int .i64 (gi l i))
theorem Lie.below {w w' : World} {g : Nat} {l : List Int} (h : Lie w g l) (hb : Below w.heap.size w w') : Lie w' g l := fun i hi => cell_below (h i hi) hb
theorem Lie.same {w w' : World} {g : Nat} {l : List Int} (h : Lie w g l) (hb : w'.heap[g]? = w.heap[g]?) : Lie w' g l := fun i hi => (World.cell?_of_block (w := w) (w' := w') (a := ⟨g, i, none⟩) hb).trans (h i hi)
theorem Lie.drew {w : World} {g : Nat} {l : List Int} (h : Lie w g l) : Lie w.drew g l := h
theorem Lie.alloc {w : World} {g : Nat} {l : List Int} (h : Lie w g l) (o : Obj) : Lie (w.alloc o) g l := h.below ((Below.refl _ _).alloc (Nat.le_refl _) _)
theorem Lie.set {w : World} {g : Nat} {l : List Int} (h : Lie w g l) {B i : Nat} {v : Value} (hne : g ≠ B) : Lie (w.setCell ⟨B, i, none⟩ v) g l := h.same (Below.heap_setCell _ _ _ _ hne)
theorem Lie.ints {w : World} {g : Nat} {l : List Int} (h : Lie w g l) (hn : l.length ≤ 9223372036854775807) (hf : ∀ i, i < l.length → I64 (gi l i)) : IntsS w (some ⟨g, 0, none⟩) l := ⟨hn, hf, g, 0, fun _ => rfl, fun i hi => by rw [Nat.zero_add]; exact h i hi⟩
theorem owns_belowD {w w' : World} {base : Nat} {e : TypeId} {size : Nat} {v : Value} {n : Nat} {xs : List Value} (h : w.ownsRow base e size v n xs) (hb : Below w.heap.size w w') : w'.ownsRow base e size v n xs := by
  refine ⟨h.1, ?_⟩
  rcases h.2 with h2 | ⟨g, cap, cur, h1, h2, h3, h4⟩
  · exact .inl h2
  · have hg : g < w.heap.size := by
      apply Nat.lt_of_not_le
      intro hle
      rw [Array.getElem?_eq_none hle] at h3
      cases h3
    exact .inr ⟨g, cap, cur, h1, h2, by rw [hb.block g hg]; exact h3, h4⟩
theorem owns_farD {w w' : World} {base : Nat} {e : TypeId} {size : Nat} {v : Value} {n : Nat} {xs : List Value} (h : w.ownsRow base e size v n xs) (hb : ∀ g, base ≤ g → g < w.heap.size → w'.heap[g]? = w.heap[g]?) : w'.ownsRow base e size v n xs := by
  refine ⟨h.1, ?_⟩
  rcases h.2 with h2 | ⟨g, cap, cur, h1, h2, h3, h4⟩
  · exact .inl h2
  · have hg : g < w.heap.size := by
      apply Nat.lt_of_not_le
      intro hle
      rw [Array.getElem?_eq_none hle] at h3
      cases h3
    exact .inr ⟨g, cap, cur, h1, h2, by rw [hb g h2 hg]; exact h3, h4⟩
theorem owns_capD {w : World} {base : Nat} {e : TypeId} {size b n c : Nat} {xs : List Value} (h : w.ownsRow base e size (.slice (some ⟨b, 0, none⟩) n c) n xs) : n ≤ c := by
  rcases h.2 with ⟨h2, _⟩ | ⟨g, cap, cur, h1, h2, h3, h4, _⟩
  · cases h2
  · obtain ⟨rfl, rfl⟩ : b = g ∧ c = cap := by simpa using h1
    exact h4
theorem owns_lie {w : World} {base b n c : Nat} {l : List Int} (h : w.ownsRow base 3 1 (.slice (some ⟨b, 0, none⟩) n c) n (clD l)) (hn : l.length = n) : Lie w b l := fun i hi => by
  rw [World.ownsRow.cellAt h i (by omega)]; exact clD_get l hi
theorem ints_at {w : World} {a : Option Addr} {l : List Int} (h : IntsS w a l) (hl : 0 < l.length) : ∃ blk off, a = some ⟨blk, off, none⟩ ∧ (∀ i, i < l.length → w.cell? ⟨blk, off + i, none⟩ = some (.int .i64 (gi l i))) ∧ ∀ j u, (clD l)[j]? = some u → w.cell? ((⟨blk, off, none⟩ : Addr).add j) = some u := by
  obtain ⟨-, -, blk, off, hadr, hc⟩ := h
  refine ⟨blk, off, hadr (List.ne_nil_of_length_pos hl), hc, fun j u hu => ?_⟩
  have hj : j < l.length := by
    rw [← clD_len]
    rw [List.getElem?_eq_some_iff] at hu
    exact hu.1
  rw [clD_get l hj] at hu
  cases hu
  have hadd : (⟨blk, off, none⟩ : Addr).add j = ⟨blk, off + j, none⟩ := by unfold Addr.add; split <;> simp_all
  rw [hadd]
  exact hc j hj
theorem loadNoneD (P : Program) (w : World) (a : Addr) : (loadCells a 0).run P w = .ok #[] w := rfl
/-- append to a slice without cells: where it lies plays no part. -/
theorem run_append_from0 {P : Program} {w : World} (t ty e : TypeId) (i : TypeInfo) (ht : P.underlying t = some (.slice e)) (hi : P.info? e = some i) (hb : i.bytes = 8) (p ad : Addr) (m c : Nat) (hm : 0 < m) (hmx : m ≤ 1000000) :
    (Builtin.append_ #[t, t] ty #[.slice (some p) 0 0, .slice (some ad) m c]).run P w = (Builtin.append_ #[t, t] ty #[.slice none 0 0, .slice (some ad) m c]).run P w := by
  have hn : Builtin.nextslicecap (0 + m) 0 = m := by unfold Builtin.nextslicecap; simp; omega
  have hc : ¬ (Builtin.nextslicecap (0 + m) 0 * i.bytes > 2 ^ 48) := by rw [hn, hb]; omega
  have hc2 : ¬ ((0 + m) ≤ 0) := by omega
  have hc3 : ¬ (2 ^ 48 < Builtin.nextslicecap m 0 * 8) := by rw [show m = 0 + m by omega, hn]; omega
  simp [Builtin.append_, run_underlying ht, sizeOf, typeInfo, hi, hb, Builtin.lenOf, Builtin.firstCells, loadNoneD, Result.andThen, hm, hc3, show ¬ m = 0 by omega]
/-- append(empty literal, list...) at a step of a region that draws its order. -/
theorem step0 {ops : Array Oper} {o : Oper} {a : Act} {K : Act → World → Prop} {Q : Exit → Act → World → Prop} {E : Prop} {w : World} (hgd : o.guard = none) (s x : Operand)
    (ho : o.op = .call { callee := .builtin .append, args := #[s, x], argTypes := #[22, 22] })
    (p : Addr) (hs : a.eval s = .slice (some p) 0 0) (ad : Addr) (l : List Int) (cx : Nat) (hx : a.eval x = .slice (some ad) l.length cx) (hc : ∀ j u, (clD l)[j]? = some u → w.cell? (ad.add j) = some u) (h0 : 0 < l.length) (hl : l.length ≤ 1000000)
    (h : ∀ g c' w', g = w.heap.size → g < w'.heap.size → Lie w' g l → l.length ≤ c' → Below w.heap.size w w' → K (a.put o.dst (.slice (some ⟨g, 0, none⟩) l.length c')) w') : if Region.wanted o (yielded ops a.tmps) = true then Oper.wp Try.prog o a w K Q else E := by
  have hw : Region.wanted o (yielded ops a.tmps) = true := by simp [Region.wanted, hgd]
  rw [if_pos hw]
  obtain ⟨i0, hi, hz0, hz1, hz2⟩ := info_partsD infoIntD
  obtain ⟨g, cap, w', hr, h2, h3, h4, h5⟩ := run_append_lies (P := Try.prog) w 22 o.type w.heap.size 3 i0 _ 1 8 undRowD hi hz0 hz1 hz2 rfl (by decide) (.slice none 0 0) 0 [] ⟨rfl, .inl ⟨rfl, rfl⟩⟩ ad l.length cx (clD l) (by rw [clD_len]; omega) hc (clD_one l) h0 (by unfold maxLen; omega) (by omega) (Nat.le_refl _) _ rfl
  rw [← run_append_from0 22 o.type 3 i0 undRowD hi hz2 p ad l.length cx h0 hl] at hr
  have hg : g = w.heap.size := by
    rcases h4 with h | h
    · cases h
    · exact h
  rw [Nat.zero_add, List.nil_append] at h2
  rw [Nat.zero_add] at hr
  unfold Oper.wp execOp
  simp only [ho, resolve, invoke, builtin, Sem.run_bind, Sem.run_pure, Result.andThen_ok, List.map_toArray, List.map_cons, List.map_nil, hs, hx, hr]
  exact h g cap w' hg h5 (owns_lie h2 rfl) (owns_capD h2) ((Below.refl _ _).grown h3 (Nat.le_refl _) (fun z hz => by cases hz))
/-- A copy of a list, in a new block. -/
def CloE (w : World) (l : List Int) (e : Ending) (w' : World) : Prop := ∃ g c', e = .returned (.slice (some ⟨g, 0, none⟩) l.length c') ∧ w.heap.size ≤ g ∧ g < w'.heap.size ∧ w'.ownsRow w.heap.size 3 1 (.slice (some ⟨g, 0, none⟩) l.length c') l.length (clD l) ∧ Below w.heap.size w w'
set_option maxRecDepth 100000 in
theorem clone_d (a : Option Addr) (l : List Int) (c : Nat) (w : World) (hA : IntsS w a l) (h0 : 0 < l.length) (hn : l.length ≤ 1000000) :
    Calls Try.prog 20 #[.slice a l.length c] w (CloE w l) := by
  obtain ⟨i0, hi, hz0, hz1, hz2⟩ := info_partsD infoIntD
  obtain ⟨blk, off, rfl, hc, hnews⟩ := ints_at hA h0
  have q22 : ∀ (w : World) (a : Option Addr) (n c n' c' : Nat), (binOp .eql 22 (.slice a n c) (.slice none n' c')).run Try.prog w = .ok (.bool a.isNone) w := fun w a n c n' c' => Lib.run_eql_slice_nil w _ _ a n c n' c' Try.underlying22
  have hown : Hid ((w.alloc (.cells #[] 3)).ownsRow w.heap.size 3 1 (.slice (some ⟨w.heap.size, 0, none⟩) 0 0) 0 []) := Lib.hid (World.ownsRow_made w #[] 0 (Nat.le_refl _) (Nat.zero_le _) (by simp))
  have hb0 : Below w.heap.size w (w.alloc (.cells #[] 3)) := (Below.refl _ _).alloc (Nat.le_refl _) _
  have HN : Hid (∀ j u, (clD l)[j]? = some u → (w.alloc (.cells #[] 3)).cell? ((⟨blk, off, none⟩ : Addr).add j) = some u) := Lib.hid fun j u hu => (World.cell?_alloc_lt _ _ _ (World.block_lt_of_cell? w _ (hnews j u hu))).trans (hnews j u hu)
  have hlen : (clD l).length = l.length := clD_len l
  have HL := Lib.hid hlen
  have HB := Lib.hid hb0
  clear hnews hc hA hlen hb0
  go_enter Try.func20, Try.ntmps20
  go_wp2_with (first | (at_builtin; go_loud (refine wpList_append_lies _ rfl _ _ 22 (by rfl) w.heap.size 3 i0 _ 1 8 Try.underlying22 hi hz0 hz1 hz2 rfl (by decide) (.slice (some ⟨w.heap.size, 0, none⟩) 0 0) 0 [] (by rfl) hown.out ⟨blk, off, none⟩ l.length c (clD l) (by rfl) (by rw [HL.out]; omega) HN.out (clD_one l) (by omega) (by unfold maxLen; omega) (by omega) (by simp) _ rfl ?_); intro g cap w1 hown1 hgrow hat hlt))
  have HO := Lib.hid hown1
  have HG : Hid (Below w.heap.size w w1) := Lib.hid (HB.out.grown hgrow (by simp) (fun z hz => by simp [Value.ownBlock] at hz; omega))
  have HA : Hid (w.heap.size ≤ g) := Lib.hid (by rcases hat with h | h <;> simp [Value.ownBlock] at h <;> omega)
  clear hown1 hgrow hat
  go_wp2_with fail
  go_ret
  refine ⟨g, cap, by simp, HA.out, hlt, by simpa using HO.out, HG.out⟩
/-- Rows of A ints, each in a block of its own. -/
def Rws (base : Nat) (w : World) (v : Value) (k A : Nat) (R : Nat → List Int) : Prop :=
  ∃ ad cp : Nat → Nat, w.ownsRow base 22 1 v k ((List.range k).map fun i => .slice (some ⟨ad i, 0, none⟩) A (cp i)) ∧
    ∀ i, i < k → Lie w (ad i) (R i) ∧ (R i).length = A ∧ base ≤ ad i ∧ ad i < w.heap.size ∧ v.ownBlock ≠ some (ad i) ∧ A ≤ cp i
theorem Rws.nil (base : Nat) (w : World) (A : Nat) (R : Nat → List Int) : Rws base w (.slice none 0 0) 0 A R :=
  ⟨fun _ => 0, fun _ => 0, ⟨rfl, .inl ⟨rfl, rfl⟩⟩, fun i hi => absurd hi (Nat.not_lt_zero _)⟩
theorem Rws.far {base : Nat} {w w' : World} {v : Value} {k A : Nat} {R : Nat → List Int} (h : Rws base w v k A R) (hs : w.heap.size ≤ w'.heap.size) (hb : ∀ g, base ≤ g → g < w.heap.size → w'.heap[g]? = w.heap[g]?) : Rws base w' v k A R := by
  obtain ⟨ad, cp, h1, h2⟩ := h
  refine ⟨ad, cp, owns_farD h1 hb, fun i hi => ?_⟩
  obtain ⟨q1, q2, q3, q4, q5, q6⟩ := h2 i hi
  exact ⟨q1.same (hb _ q3 q4), q2, q3, Nat.lt_of_lt_of_le q4 hs, q5, q6⟩
theorem Rws.below {base : Nat} {w w' : World} {v : Value} {k A : Nat} {R : Nat → List Int} (h : Rws base w v k A R) (hb : Below w.heap.size w w') : Rws base w' v k A R := h.far hb.size fun g _ hg => hb.block g hg
theorem Rws.set {base : Nat} {w : World} {v : Value} {k A : Nat} {R : Nat → List Int} (h : Rws base w v k A R) {B i : Nat} {x : Value} (hB : B < base) : Rws base (w.setCell ⟨B, i, none⟩ x) v k A R := h.far (by simp) fun g hg _ => Below.heap_setCell _ _ _ _ (by simp; omega)
theorem Rws.own {base : Nat} {w : World} {v : Value} {k A : Nat} {R : Nat → List Int} (h : Rws base w v k A R) {z : Nat} (hz : v.ownBlock = some z) : base ≤ z ∧ z < w.heap.size := by
  obtain ⟨ad, cp, h1, h2⟩ := h
  exact ⟨(World.ownsRow.lt h1 z hz).1, (World.ownsRow.lt h1 z hz).2⟩
theorem Rws.app {base : Nat} {w w' : World} {v : Value} {k A : Nat} {R : Nat → List Int} {ad cp : Nat → Nat} (h2 : ∀ i, i < k → Lie w (ad i) (R i) ∧ (R i).length = A ∧ base ≤ ad i ∧ ad i < w.heap.size ∧ v.ownBlock ≠ some (ad i) ∧ A ≤ cp i)
    {b c1 g c : Nat} (hr : Lie w b (R k) ∧ (R k).length = A ∧ base ≤ b ∧ b < w.heap.size ∧ v.ownBlock ≠ some b ∧ A ≤ c1)
    (ho : w'.ownsRow base 22 1 (.slice (some ⟨g, 0, none⟩) (k + 1) c) (k + 1) (((List.range k).map fun i => .slice (some ⟨ad i, 0, none⟩) A (cp i)) ++ [.slice (some ⟨b, 0, none⟩) A c1])) (hg : w.grownBy w' v.ownBlock) (hor : v.ownBlock = some g ∨ g = w.heap.size) (hgl : g < w'.heap.size) :
    Rws base w' (.slice (some ⟨g, 0, none⟩) (k + 1) c) (k + 1) A R := by
  have hs : w.heap.size ≤ w'.heap.size := ((Below.refl 0 w).grown hg (Nat.zero_le _) (fun _ _ => Nat.zero_le _)).size
  have turn : ∀ b, b < w.heap.size → v.ownBlock ≠ some b → w'.heap[b]? = w.heap[b]? ∧ some g ≠ some b := fun b hb hne => by
    refine ⟨hg.block b hb (fun e => hne e.symm), fun e => ?_⟩
    cases e
    rcases hor with e | e
    · exact hne e
    · omega
  refine ⟨fun i => if i = k then b else ad i, fun i => if i = k then c1 else cp i, ?_, fun i hi => ?_⟩
  · rw [List.range_succ, List.map_append]
    have e1 : ((List.range k).map fun i => Value.slice (some ⟨if i = k then b else ad i, 0, none⟩) A (if i = k then c1 else cp i)) = (List.range k).map fun i => Value.slice (some ⟨ad i, 0, none⟩) A (cp i) :=
      List.map_congr_left fun i hi => by have := List.mem_range.1 hi; rw [if_neg (by omega), if_neg (by omega)]
    rw [e1]
    simpa using ho
  · by_cases e : i = k
    · subst e
      simp only [if_pos]
      obtain ⟨q1, q2, q3, q4, q5, q6⟩ := hr
      obtain ⟨t1, t2⟩ := turn _ q4 q5
      exact ⟨q1.same t1, q2, q3, by omega, t2, q6⟩
    · simp only [if_neg e]
      obtain ⟨q1, q2, q3, q4, q5, q6⟩ := h2 i (by omega)
      obtain ⟨t1, t2⟩ := turn _ q4 q5
      exact ⟨q1.same t1, q2, q3, by omega, t2, q6⟩
/-- append of one row. -/
theorem app_rws {w : World} {ops : Array Oper} {rest : List Oper} {o : Oper} {a : Act} {Q : Exit → Act → World → Prop} (hgd : o.guard = none) (s x : Operand)
    (ho : o.op = .call { callee := .builtin .append, args := #[s, x], argTypes := #[23, 23] })
    (base k A : Nat) (v : Value) (R : Nat → List Int) (hs : a.eval s = v) (h : Rws base w v k A R) (b c1 : Nat) (hr : Lie w b (R k) ∧ (R k).length = A ∧ base ≤ b ∧ b < w.heap.size ∧ v.ownBlock ≠ some b ∧ A ≤ c1) (hk : k ≤ 1000) (hbase : base ≤ w.heap.size)
    (B : Nat) (hx : a.eval x = .slice (some ⟨B, 0, none⟩) 1 1) (hc : w.cell? ⟨B, 0, none⟩ = some (.slice (some ⟨b, 0, none⟩) A c1))
    (hn : ∀ g c' w', Rws base w' (.slice (some ⟨g, 0, none⟩) (k + 1) c') (k + 1) A R → Below base w w' → wpList Try.prog ops Q rest (a.put o.dst (.slice (some ⟨g, 0, none⟩) (k + 1) c')) w') : wpList Try.prog ops Q (o :: rest) a w := by
  obtain ⟨i0, hi, hz0, hz1, hz2⟩ := info_partsD infoRowD
  obtain ⟨ad, cp, q1, q2⟩ := h
  refine wpList_append_lies w hgd s x 23 ho base 22 i0 _ 1 24 undRowsD hi hz0 hz1 hz2 rfl (by decide) v k _ hs q1 ⟨B, 0, none⟩ 1 1 [.slice (some ⟨b, 0, none⟩) A c1] hx rfl ?_ ?_ (by decide) (by unfold maxLen; omega) (by omega) hbase _ rfl ?_
  · intro j u hj
    match j, hj with
    | 0, hj => simp at hj; subst hj; exact hc
  · intro u hu; simp at hu; subst hu; rfl
  · intro g c' w' h1 h2 h3 h4
    exact hn g c' w' (Rws.app q2 hr h1 h2 h3 h4) ((Below.refl base w).grown h2 hbase (fun k hk => (World.ownsRow.lt q1 k hk).1))
theorem Rws.form {base : Nat} {w : World} {v : Value} {k A : Nat} {R : Nat → List Int} (h : Rws base w v k A R) (hk : 0 < k) : ∃ g c, v = .slice (some ⟨g, 0, none⟩) k c := by
  obtain ⟨ad, cp, h1, h2⟩ := h
  obtain ⟨g, c, e, _⟩ := World.ownsRow.form h1 hk
  exact ⟨g, c, e⟩
theorem Rws.len {base : Nat} {w : World} {v : Value} {k A : Nat} {R : Nat → List Int} (h : Rws base w v k A R) : ∃ a c, v = .slice a k c := by
  obtain ⟨ad, cp, h1, h2⟩ := h
  rcases h1.2 with ⟨e1, e2⟩ | ⟨g, cap, cur, e1, _⟩
  · exact ⟨none, 0, by rw [e1, e2]⟩
  · exact ⟨_, _, e1⟩
theorem Rws.rows {base : Nat} {w : World} {a : Option Addr} {n c A : Nat} {R : Nat → List Int} {C : List (List Int)} (h : Rws base w (.slice a n c) n A R) (hC : C.length = n) (hg : ∀ i, i < n → gr C i = R i) (hn : n ≤ 1000) (hA : A ≤ 1000) (h64 : ∀ i, i < n → ∀ j, j < A → I64 (gi (R i) j)) : RowsS w a C := by
  obtain ⟨ad, cp, q1, q2⟩ := h
  refine ⟨by omega, ?_⟩
  rcases q1.2 with ⟨e1, e2⟩ | ⟨g2, c2, cur, e1, _⟩
  · exact ⟨0, 0, fun i => some ⟨ad i, 0, none⟩, cp, fun hne => absurd (List.eq_nil_of_length_eq_zero (by omega)) hne, fun i hi => by omega⟩
  · obtain ⟨rfl, rfl⟩ : a = some ⟨g2, 0, none⟩ ∧ c = c2 := by simpa using e1
    refine ⟨g2, 0, fun i => some ⟨ad i, 0, none⟩, cp, fun _ => rfl, fun i hi => ?_⟩
    obtain ⟨r1, r2, r3, r4, r5, r6⟩ := q2 i (by omega)
    rw [hg i (by omega), r2]
    refine ⟨?_, r1.ints (by omega) (fun j hj => h64 i (by omega) j (by omega)), r6⟩
    rw [Nat.zero_add, World.ownsRow.cellAt q1 i (by omega)]; simp [show i < n by omega]
/-- A row, each number turned. -/
def agL (f : Int → Int) (l : List Int) : List Int := (List.range l.length).map fun i => f (gi l i)
def mixL (f : Int → Int) (l : List Int) (j : Nat) : List Int := (List.range l.length).map fun i => if i < j then f (gi l i) else gi l i
theorem agL_len (f : Int → Int) (l : List Int) : (agL f l).length = l.length := by simp [agL]
theorem mixL_len (f : Int → Int) (l : List Int) (j : Nat) : (mixL f l j).length = l.length := by simp [mixL]
theorem gi_agL (f : Int → Int) (l : List Int) {i : Nat} (hi : i < l.length) : gi (agL f l) i = f (gi l i) := by
  unfold agL
  show List.getD _ i 0 = _
  rw [List.getD_eq_getElem?_getD]; simp [hi]
theorem gi_mixL (f : Int → Int) (l : List Int) (j : Nat) {i : Nat} (hi : i < l.length) : gi (mixL f l j) i = if i < j then f (gi l i) else gi l i := by
  unfold mixL
  show List.getD _ i 0 = _
  rw [List.getD_eq_getElem?_getD]; simp [hi]
theorem mixL_0 (f : Int → Int) (l : List Int) : mixL f l 0 = l := by
  apply List.ext_getElem
  · simp [mixL]
  · intro i h1 h2
    have := gi_mixL f l 0 h2
    simp at this
    unfold gi at this
    rw [List.getD_eq_getElem?_getD, List.getD_eq_getElem?_getD, List.getElem?_eq_getElem h1, List.getElem?_eq_getElem h2] at this
    simpa using this
theorem mixL_all (f : Int → Int) (l : List Int) : mixL f l l.length = agL f l := by
  unfold mixL agL
  exact List.map_congr_left fun i hi => by rw [if_pos (List.mem_range.1 hi)]
theorem mixL_set (f : Int → Int) (l : List Int) {j : Nat} (hj : j < l.length) : (clD (mixL f l j)).set j (.int .i64 (f (gi l j))) = clD (mixL f l (j + 1)) := by
  apply List.ext_getElem
  · simp [clD, mixL]
  · intro i h1 h2
    rw [List.getElem_set]
    simp [clD, mixL]
    by_cases e : j = i
    · subst e; simp
    · rw [if_neg e]
      by_cases h : i < j
      · rw [if_pos h, if_pos (by omega)]
      · rw [if_neg h, if_neg (by omega)]
def agR (f : Int → Int) (r : List (List Int)) : List (List Int) := r.map (agL f)
theorem gr_agR (f : Int → Int) (r : List (List Int)) {i : Nat} (hi : i < r.length) : gr (agR f r) i = agL f (gr r i) := by
  unfold agR gr
  rw [List.getD_eq_getElem?_getD, List.getD_eq_getElem?_getD, List.getElem?_map, List.getElem?_eq_getElem hi]; rfl
theorem agR_len (f : Int → Int) (r : List (List Int)) : (agR f r).length = r.length := by simp [agR]
end Go.Proofs.Ytelehohffcncaaa
