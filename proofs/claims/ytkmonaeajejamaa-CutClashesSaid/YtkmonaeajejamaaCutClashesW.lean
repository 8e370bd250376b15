/-
  The walk of the law CutClashes: it answers true. By an AI agent.
-/
import Derived.Test.YtkmonaeajejamaaCutN
import Derived.Test.YtkmonaeajejamaaCutH
import Derived.Deep.AppendLies
namespace Go.Proofs.Ytkmonaeajejamaa
set_option linter.unusedVariables false
set_option linter.unusedSimpArgs false
open Go.RowKit

theorem placeInfo : (Try.prog.info? 65).map (fun i => (i.zero, i.size, i.bytes)) = some (some (.agg #[.int .u8 0, .int .i64 0, .int .i64 0, .int .i64 0, .int .i64 0]), 5, 40) := by kernel_rfl
def encP (p : Plc) : List Value := [.int .u8 p.1, .int .i64 p.2.1, .int .i64 p.2.2.1, .int .i64 p.2.2.2.1, .int .i64 p.2.2.2.2]
def cellsP (l : List Plc) : List Value := l.flatMap encP
theorem cellsP_at : ∀ (l : List Plc) (i j : Nat), i < l.length → j < 5 → (cellsP l)[i * 5 + j]? = (encP (gq l i))[j]?
  | [], i, j, hi, hj => by simp at hi
  | p :: l, 0, j, hi, hj => by
    unfold cellsP
    rw [List.flatMap_cons, Nat.zero_mul, Nat.zero_add, List.getElem?_append_left (by simp [encP]; omega)]
    rfl
  | p :: l, i + 1, j, hi, hj => by
    have ih := cellsP_at l i j (by simpa using hi) hj
    unfold cellsP at ih ⊢
    rw [List.flatMap_cons, List.getElem?_append_right (by simp [encP]; omega)]
    rw [show (i + 1) * 5 + j - (encP p).length = i * 5 + j from by simp [encP]; omega, ih]
    rfl
theorem PlaceAt.of_cells {w : World} {g o : Nat} {p : Plc} (h : ∀ j, j < 5 → w.cell? ⟨g, o + j, none⟩ = (encP p)[j]?) : PlaceAt w g o p :=
  ⟨by have := h 0 (by omega); simpa [encP] using this, by have := h 1 (by omega); simpa [encP] using this, by have := h 2 (by omega); simpa [encP] using this, by have := h 3 (by omega); simpa [encP] using this, by have := h 4 (by omega); simpa [encP] using this⟩
theorem places_own {w : World} {base g c : Nat} {l : List Plc} (h : w.ownsRow base 65 5 (.slice (some ⟨g, 0, none⟩) l.length c) l.length (cellsP l)) (hl : l.length ≤ 9223372036854775807) : PlacesS w (some ⟨g, 0, none⟩) l := by
  refine ⟨hl, g, 0, fun _ => rfl, fun i hi => PlaceAt.of_cells fun j hj => ?_⟩
  rw [Nat.zero_add, World.ownsRow.cellAt h (i * 5 + j) (by omega)]
  exact cellsP_at l i j hi hj
/-- The last m places, the last one in front. -/
def revL (l : List Plc) (m : Nat) : List Plc := (List.range m).map fun i => gq l (l.length - 1 - i)
theorem revL_len (l : List Plc) (m : Nat) : (revL l m).length = m := by simp [revL]
theorem revL_next (l : List Plc) (m : Nat) : cellsP (revL l (m + 1)) = cellsP (revL l m) ++ encP (gq l (l.length - 1 - m)) := by
  unfold cellsP revL
  rw [List.range_succ, List.map_append, List.flatMap_append]
  simp
theorem revL_at (l : List Plc) {m i : Nat} (hi : i < m) : gq (revL l m) i = gq l (l.length - 1 - i) := by
  unfold gq revL
  rw [List.getD_eq_getElem?_getD, List.getElem?_map, List.getElem?_range hi]
  rfl
theorem apQ_comm (p q : Plc) (k : Int) : apQ p q k = apQ q p k := apB_comm _ _ _ _ _ _ _ _ _
theorem revArg {l : List Plc} {a b k : Int} (h : ArgOk l a b k) : ArgOk (revL l l.length) a b k := by
  refine ⟨h.1, by rw [revL_len]; exact h.2.1, fun i hi => ?_⟩
  rw [revL_len] at hi
  rw [revL_at l hi]
  exact h.2.2 _ (by omega)
theorem revArg2 {l : List Plc} {a b k : Int} (h : ArgOk (revL l l.length) a b k) : ArgOk l a b k := by
  have hl := h.2.1
  rw [revL_len] at hl
  refine ⟨h.1, hl, fun i hi => ?_⟩
  have := h.2.2 (l.length - 1 - i) (by rw [revL_len]; omega)
  rw [revL_at l (by omega), show l.length - 1 - (l.length - 1 - i) = i from by omega] at this
  exact this
theorem revBad {l : List Plc} {a b k : Int} (h : ∃ i, i < l.length ∧ badAt l a b k i) : ∃ i, i < (revL l l.length).length ∧ badAt (revL l l.length) a b k i := by
  obtain ⟨i, hi, hb⟩ := h
  rcases hb with hb | ⟨j, hj, hb⟩
  · refine ⟨l.length - 1 - i, by rw [revL_len]; omega, .inl ?_⟩
    rw [revL_at l (by omega), show l.length - 1 - (l.length - 1 - i) = i from by omega]
    exact hb
  · refine ⟨l.length - 1 - j, by rw [revL_len]; omega, .inr ⟨l.length - 1 - i, by omega, ?_⟩⟩
    rw [revL_at l (by omega), revL_at l (by omega), show l.length - 1 - (l.length - 1 - i) = i from by omega, show l.length - 1 - (l.length - 1 - j) = j from by omega, apQ_comm]
    exact hb
theorem revBad2 {l : List Plc} {a b k : Int} (h : ∃ i, i < (revL l l.length).length ∧ badAt (revL l l.length) a b k i) : ∃ i, i < l.length ∧ badAt l a b k i := by
  obtain ⟨i, hi, hb⟩ := h
  rw [revL_len] at hi
  rcases hb with hb | ⟨j, hj, hb⟩
  · rw [revL_at l hi] at hb
    exact ⟨l.length - 1 - i, by omega, .inl hb⟩
  · rw [revL_at l hi, revL_at l (by omega), apQ_comm] at hb
    exact ⟨l.length - 1 - j, by omega, .inr ⟨l.length - 1 - i, by omega, hb⟩⟩
theorem cl_rev (l : List Plc) (a b k : Int) : clV (revL l l.length) a b k = clV l a b k ∧ clE (revL l l.length) a b k = clE l a b k := by
  by_cases h : ArgOk l a b k
  · by_cases g : ∃ i, i < l.length ∧ badAt l a b k i
    · obtain ⟨i, hi, hb⟩ := revBad g
      obtain ⟨i2, hi2, hb2⟩ := g
      obtain ⟨e1, e2⟩ := cl_bad (revArg h) hi hb
      obtain ⟨f1, f2⟩ := cl_bad h hi2 hb2
      rw [e1, e2, f1, f2]; exact ⟨rfl, rfl⟩
    · obtain ⟨f1, f2⟩ := cl_good h fun i hi hb => g ⟨i, hi, hb⟩
      obtain ⟨e1, e2⟩ := cl_good (revArg h) fun i hi hb => g (revBad2 ⟨i, hi, hb⟩)
      rw [e1, e2, f1, f2]; exact ⟨rfl, rfl⟩
  · obtain ⟨e1, e2⟩ := cl_no h
    obtain ⟨f1, f2⟩ := cl_no fun g => h (revArg2 g)
    rw [e1, e2, f1, f2]; exact ⟨rfl, rfl⟩

set_option maxRecDepth 100000 in
set_option maxHeartbeats 4000000 in
theorem cutClashes_any (ad : Option Addr) (l : List Plc) (ca : Nat) (a b k : Int) (w : World) (hA : PlacesS w ad l) (hca : l.length ≤ ca) :
    Calls Try.prog 13 #[.slice ad l.length ca, .agg #[.int .i64 a, .int .i64 b, .int .i64 k]] w fun e w' => e = .returned (.bool true) ∧ Below w.heap.size w w' := by
  have HC := Lib.hid (fun W (hW : Below w.heap.size w W) => Clash_any ad l ca a b k W (hA.below hW) hca)
  have HR := Lib.hid (fun W (hW : Below w.heap.size w W) => refClash_any ad l ca a b k W (hA.below hW))
  have HB : Hid (∀ W g c, W.ownsRow (w.heap.size) 65 5 (.slice g l.length c) l.length (cellsP (revL l l.length)) → l.length ≤ 60 → Calls Try.prog 38 #[.slice g l.length c, .int .i64 a, .int .i64 b, .int .i64 k] W fun e w' => e = .returned (.tuple #[.bool (clV l a b k), .int .i64 (clE l a b k)]) ∧ Below W.heap.size W w') := Lib.hid fun W g c ho h60 => by
    have hlen := revL_len l l.length
    have hr := cl_rev l a b k
    have hx : PlacesS W g (revL l l.length) ∧ (revL l l.length).length ≤ c := by
      rcases ho.2 with ⟨h1, h2⟩ | ⟨g2, c2, cur, h1, _, _, h4, _⟩
      · obtain ⟨rfl, _, rfl⟩ : g = none ∧ l.length = 0 ∧ c = 0 := by simpa using h1
        refine ⟨⟨by omega, 0, 0, fun h => absurd (List.eq_nil_of_length_eq_zero (hlen.trans h2)) h, fun i hi => by omega⟩, by omega⟩
      · obtain ⟨rfl, rfl⟩ : g = some ⟨g2, 0, none⟩ ∧ c = c2 := by simpa using h1
        refine ⟨places_own (base := w.heap.size) (c := c) (by rw [hlen]; exact ho) (by omega), by omega⟩
    have := Clash_any g (revL l l.length) c a b k W hx.1 hx.2
    rw [hr.1, hr.2, hlen] at this
    exact this
  have H1 := Lib.hid awake_any
  have hlen := hA.1
  obtain ⟨-, blk, off, hadr, hc⟩ := hA
  have HP := Lib.hid hc
  have HL : Hid (0 < l.length → ad = some ⟨blk, off, none⟩) := Lib.hid fun h => hadr (pos_ne (n := 0) h)
  have HN := Lib.hid (revL_next l)
  generalize clV l a b k = cv at *
  generalize clE l a b k = ce at *
  have hcv : (cv == cv) = true := by simp
  clear hc hadr
  by_cases h60 : (60 : Int) < l.length
  · go_enter Try.func13, Try.ntmps13
    go_wp2_with fail
    refine (H1.out _).mono ?_
    rintro E w2 ⟨rfl, hb2⟩
    go_wp2_with fail
    go_ret
    exact ⟨rfl, box_below hb2⟩
  · obtain ⟨i0, hi, hz0, hz1, hz2⟩ := info_parts placeInfo
    go_enter Try.func13, Try.ntmps13
    go_wp2_with fail
    obtain ⟨wo, hwo⟩ : ∃ wo, w.alloc (.cells #[.int .i64 a, .int .i64 b, .int .i64 k] 70) = wo := ⟨_, rfl⟩
    have hbo : Below w.heap.size w wo := by rw [← hwo]; exact (Below.refl _ _).alloc (Nat.le_refl _) _
    have t0 : wo.cell? ⟨w.heap.size, 0, none⟩ = some (.int .i64 a) := by rw [← hwo]; simp [go_sem]
    have t1 : wo.cell? ⟨w.heap.size, 1, none⟩ = some (.int .i64 b) := by rw [← hwo]; simp [go_sem]
    have t2 : wo.cell? ⟨w.heap.size, 2, none⟩ = some (.int .i64 k) := by rw [← hwo]; simp [go_sem]
    rw [hwo]
    clear hwo
    go_loopw [5, 6] (fun v i wr => ∃ m : Nat, m ≤ l.length ∧ i = .int .i64 ((l.length : Int) - 1 - m) ∧ (∃ a c, v = .slice a m c) ∧ Hid (wr.ownsRow wo.heap.size 65 5 v m (cellsP (revL l m))) ∧ Below wo.heap.size wo wr) (fun _ i _ => (intOf i + 1).toNat)
    case atStart => exact ⟨0, Nat.zero_le _, by simp, ⟨none, 0, rfl⟩, Lib.hid ⟨rfl, .inl ⟨rfl, rfl⟩⟩, Below.refl _ _⟩
    case round =>
      obtain ⟨m, hm, rfl, ⟨ar, cr, rfl⟩, HRow, hbr⟩ := hrel
      have hbw := hbo.trans (hbr.mono hbo.size)
      have hbs := hbr.size
      by_cases hlt : m < l.length
      · obtain ⟨t, ht⟩ : ∃ t : Nat, (l.length : Int) - 1 - (m : Int) = (t : Int) := ⟨l.length - 1 - m, by omega⟩
        have ht2 : l.length - 1 - m = t := by omega
        rw [ht]
        obtain rfl := HL.out (by omega)
        obtain ⟨c0, c1, c2, c3, c4⟩ := (HP.out t (by omega)).below hbw
        have HNm := Lib.hid (HN.out m)
        rw [ht2] at HNm
        unfold encP at HNm
        have htl : (t : Int) < (l.length : Int) := by omega
        have ht0 : (0 : Int) ≤ (t : Int) := by omega
        clear HP HN HL ht2
        generalize (gq l t).1 = x0 at *
        generalize (gq l t).2.1 = x1 at *
        generalize (gq l t).2.2.1 = x2 at *
        generalize (gq l t).2.2.2.1 = x3 at *
        generalize (gq l t).2.2.2.2 = x4 at *
        have ht := Lib.hid ht
        have hown := Lib.hid (HRow.out.alloc (.cells #[.int .u8 x0, .int .i64 x1, .int .i64 x2, .int .i64 x3, .int .i64 x4] 65))
        go_wp2_with (first | (at_builtin; go_loud (refine wpList_append_lies _ rfl _ _ 56 rfl wo.heap.size 65 i0 _ 5 40 Try.underlying56 hi hz0 hz1 hz2 rfl (by decide) (.slice ar m cr) m _ (by rfl) hown.out ⟨wr.heap.size, 0, none⟩ 1 1 [.int .u8 x0, .int .i64 x1, .int .i64 x2, .int .i64 x3, .int .i64 x4] (by rfl) (by rfl) ?d1 ?d2 (by decide) ?d3 ?d4 ?d5 _ rfl ?_)))
        case d1 =>
          refine World.news_of_block (cs := #[.int .u8 x0, .int .i64 x1, .int .i64 x2, .int .i64 x3, .int .i64 x4]) (t := 65) (fr := (0, 0)) ?_
          exact heap_alloc_new _ _
        case d2 => simp [Value.oneCell']
        case d3 => unfold maxLen; omega
        case d4 => omega
        case d5 => first | (simp; omega) | simp
        intro g c2 w5 hown5 hgrow5 hat5 hlt5
        have hb5 : Below wo.heap.size wo w5 := (hbr.alloc hbr.size _).grown hgrow5 (by first | (simp; omega) | simp) (fun z hz => by
          rcases hown.out.2 with ⟨h, _⟩ | ⟨g2, c3, cur, h1, h2, _⟩
          · rw [h] at hz; simp [Value.ownBlock] at hz
          · rw [h1] at hz; simp [Value.ownBlock] at hz; omega)
        have htm := ht.out
        go_wp2_with fail
        go_roundw
        case rel => exact ⟨m + 1, by omega, by congr 1; omega, ⟨_, c2, rfl⟩, Lib.hid (by rw [HNm.out]; exact hown5), hb5⟩
        case measure => first | (simp [intOf]; omega) | simp [intOf]
      · obtain rfl : m = l.length := by omega
        have hneg : ¬ (0 : Int) ≤ (l.length : Int) - 1 - (l.length : Int) := by omega
        have HBk : Hid (∀ W, Below wr.heap.size wr W → Calls Try.prog 38 #[.slice ar l.length cr, .int .i64 a, .int .i64 b, .int .i64 k] W fun e w' => e = .returned (.tuple #[.bool cv, .int .i64 ce]) ∧ Below W.heap.size W w') := Lib.hid fun W hW => by
          have ho := owns_below HRow.out hW
          refine HB.out W ar cr ⟨ho.1, ?_⟩ (by omega)
          rcases ho.2 with h | ⟨g2, c3, cur, h1, h2, h3⟩
          · exact .inl h
          · exact .inr ⟨g2, c3, cur, h1, Nat.le_trans hbo.size h2, h3⟩
        have t0 := cell_below t0 hbr
        have t1 := cell_below t1 hbr
        have t2 := cell_below t2 hbr
        clear HRow HB HN HP HL
        go_wp2_with fail
        refine (HC.out _ hbw).mono ?_
        rintro E w2 ⟨rfl, hb2⟩
        have t0 := cell_below t0 hb2
        have t1 := cell_below t1 hb2
        have t2 := cell_below t2 hb2
        have hbw2 := hbw.trans (hb2.mono hbw.size)
        go_wp2_with fail
        refine (HR.out _ hbw2).mono ?_
        rintro E w3 ⟨rfl, hb3⟩
        have t0 := cell_below t0 hb3
        have t1 := cell_below t1 hb3
        have t2 := cell_below t2 hb3
        have hbw3 := hbw2.trans (hb3.mono hbw2.size)
        have hbk := hb2.trans (hb3.mono hb2.size)
        go_wp2_with fail
        refine (HBk.out _ hbk).mono ?_
        rintro E w4 ⟨rfl, hb4⟩
        have hbw4 := hbw3.trans (hb4.mono hbw3.size)
        go_wp2_with fail
        refine (H1.out _).mono ?_
        rintro E w5 ⟨rfl, hb5⟩
        go_wp2_with fail
        go_ret
        exact ⟨rfl, hbw4.trans (hb5.mono hbw4.size)⟩
end Go.Proofs.Ytkmonaeajejamaa
