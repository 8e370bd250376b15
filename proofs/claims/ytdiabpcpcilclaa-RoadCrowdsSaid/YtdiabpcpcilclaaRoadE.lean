/-
  swaps, carry and Carry of package road. By an AI agent.
-/
import Derived.Test.YtdiabpcpcilclaaRoadC
import Derived.Test.YtdiabpcpcilclaaRoadR
import Derived.Deep.RegionHeld3
namespace Go.Proofs.Ytdiabpcpcilclaa
set_option linter.unusedVariables false
set_option linter.unusedSimpArgs false
open Go.RowKit

def encW (x : Sw) : List Value := [.int .i64 x.1, .int .i64 x.2.1, .int .i64 x.2.2]
theorem clW_len (s : List Sw) : (clW s).length = s.length * 3 := by
  induction s with
  | nil => rfl
  | cons p s ih => unfold clW at *; rw [List.flatMap_cons, List.length_append, ih]; simp; omega
theorem gw_arr (d : Array Sw) {i : Nat} (h : i < d.size) : gw d.toList i = d[i]! := by
  unfold gw
  rw [List.getD_eq_getElem?_getD, getElem!_pos d i h, List.getElem?_eq_getElem (by simpa using h)]
  simp
theorem arr_gw (l : List Sw) {i : Nat} (h : i < l.length) : l.toArray[i]! = gw l i := by
  have := gw_arr l.toArray (i := i) (by simpa using h)
  simpa using this.symm
theorem holdsW_own {w : World} {base g c : Nat} {l : List Sw} (h : w.ownsRow base 90 3 (.slice (some ⟨g, 0, none⟩) l.length c) l.length (clW l)) : Sort.HoldsK encW 3 w g 0 l.toArray := by
  intro j hj
  rw [Sort.size_flatK] at hj
  have hj2 : j < l.length * 3 := by simpa using hj
  rw [Sort.get_flatK _ _ _ _ hj, Nat.zero_add, World.ownsRow.cellAt h j (by omega)]
  refine ⟨?_, World.ownsRow.frozenAt h j⟩
  have hc := clW_c l (j / 3) (by omega)
  obtain ⟨i, hi⟩ : ∃ i, j / 3 = i := ⟨_, rfl⟩
  have h3 : j = i * 3 ∨ j = i * 3 + 1 ∨ j = i * 3 + 2 := by omega
  rw [hi] at hc ⊢
  rw [arr_gw l (by omega)]
  rcases h3 with e | e | e
  · rw [show j % 3 = 0 by omega]; rw [e]; exact hc.1
  · rw [show j % 3 = 1 by omega]; rw [e]; exact hc.2.1
  · rw [show j % 3 = 2 by omega]; rw [e]; exact hc.2.2
theorem rev_any (base g c : Nat) (l : List Sw) (w : World) (h : w.ownsRow base 90 3 (.slice (some ⟨g, 0, none⟩) l.length c) l.length (clW l)) (hn : l.length ≤ 100000000) (hf : ∀ j, j < l.length → I64 (gw l j).1 ∧ I64 (gw l j).2.1 ∧ I64 (gw l j).2.2) :
    Calls Try.prog 56 #[.slice (some ⟨g, 0, none⟩) l.length c] w fun e w' => e = .returned (.tuple #[]) ∧ TripS w' (some ⟨g, 0, none⟩) l.reverse ∧ Below base w w' := by
  have hg1 : base ≤ g := by
    rcases h.2 with ⟨h1, h2⟩ | ⟨g2, c2, cur, h1, h2, h3, h4⟩
    · cases h1
    · have e : g = g2 := by simpa using (Value.slice.inj h1).1
      omega
  have hcon := AnyQ.slices_Reverse Try.laysRev 3 Try.isAgg90 Try.sizeOf90 encW (fun _ => rfl) (fun x v hv => by simp [encW] at hv; rcases hv with rfl | rfl | rfl <;> rfl) g 0 c l.toArray w (holdsW_own h) (by simp; omega)
  change Calls Try.prog 56 _ _ _ at hcon
  rw [show l.toArray.size = l.length by simp] at hcon
  refine hcon.mono ?_
  rintro e w' ⟨he, n, rfl⟩
  have hH := Sort.holdsK_putRowK encW 3 (Sort.ahead w n) g 0 l.toArray l.toArray.reverse (Sort.holdsK_ahead encW 3 w n g 0 _ (holdsW_own h)) (by simp)
  refine ⟨he, ⟨by simp; omega, fun i hi => ?_, g, 0, fun _ => rfl, fun i hi => ?_⟩, Lib.below_putRow (Below.refl _ _) hg1⟩
  · have hi : i < l.length := by simpa using hi
    have e : gw l.reverse i = gw l (l.length - 1 - i) := by
      unfold gw
      rw [List.getD_eq_getElem?_getD, List.getD_eq_getElem?_getD, List.getElem?_reverse hi]
    rw [e]
    exact hf _ (by omega)
  · have hi2 : i < l.toArray.reverse.size := by simpa using hi
    have c0 := (hH.cell hi2 (c := 0) (by omega)).1
    have c1 := (hH.cell hi2 (c := 1) (by omega)).1
    have c2 := (hH.cell hi2 (c := 2) (by omega)).1
    rw [← gw_arr _ hi2, show l.toArray.reverse.toList = l.reverse by simp, Nat.zero_add] at c0 c1 c2
    rw [Nat.zero_add]
    exact ⟨c0, c1, c2⟩

theorem sw_bd {len len' : Int} {s : Sw} (h : swOk len len' s) : (0 ≤ s.1 ∧ s.1 ≤ 10000000) ∧ (0 ≤ s.2.1 ∧ s.2.1 ≤ 10000000) ∧ 0 ≤ s.2.2 ∧ s.2.2 ≤ 10000000 := by
  obtain ⟨⟨a, b, c⟩, ⟨d, e⟩, f, ⟨g, h⟩, i, j⟩ := h
  refine ⟨⟨a, ?_⟩, ⟨b, ?_⟩, d, e⟩ <;> omega
theorem sw_64 {len len' : Int} {s : Sw} (h : swOk len len' s) : I64 s.1 ∧ I64 s.2.1 ∧ I64 s.2.2 := by
  have := sw_bd h
  unfold I64; omega
/-- What swaps returns. -/
def SwE (w : World) (l : List Chg) (u v : Nat) (e : Ending) (w' : World) : Prop := ∃ b c, e = .returned (.slice b (dst u v) c) ∧ TripS w' b (wayL l u v) ∧ Below w.heap.size w w'
theorem SwE.mk {w w' : World} {l : List Chg} {u v n : Nat} {b : Option Addr} {c : Nat} (hn : n = dst u v) (hT : TripS w' b (wayL l u v)) (hb : Below w.heap.size w w') : SwE w l u v (.returned (.slice b n c)) w' := ⟨b, c, by rw [hn], hT, hb⟩
def mapK (f : Nat → Sw) (k : Nat) : List Sw := (List.range k).map f
theorem mapK_len (f : Nat → Sw) (k : Nat) : (mapK f k).length = k := by simp [mapK]
theorem mapK_succ (f : Nat → Sw) (k : Nat) : mapK f (k + 1) = mapK f k ++ [f k] := by simp [mapK, List.range_succ]
theorem mapK_rev (f h : Nat → Sw) (n : Nat) (e : ∀ j, j < n → h j = f (n - 1 - j)) : (mapK f n).reverse = mapK h n := by
  apply List.ext_getElem
  · simp [mapK]
  · intro i h1 h2
    have hi : i < n := by simpa [mapK] using h2
    rw [List.getElem_reverse]
    simp [mapK, e i hi]
theorem carK_congr {f g : Nat → Sw} {c : Int} : ∀ k, (∀ j, j < k → f j = g j) → carK f c k = carK g c k
  | 0, _ => rfl
  | k + 1, h => by rw [carK, carK, carK_congr k (fun j hj => h j (by omega)), h k (by omega)]

set_option maxRecDepth 100000 in
set_option maxHeartbeats 2000000 in
theorem swaps_up (N L : Int) (a : Option Addr) (l : List Chg) (ca : Nat) (u v : Nat) (w : World) (hA : QuadS w a l) (hca : l.length ≤ ca) (hR : RoadOk N L l) (huv : u < v) (hv : v ≤ l.length) :
    Calls Try.prog 35 #[.agg #[.int .i64 N, .int .i64 L, .slice a l.length ca], .int .i64 u, .int .i64 v] w (SwE w l u v) := by
  obtain ⟨n0, hi, hz0, hz1, hz2⟩ := info_parts swapInfo
  obtain ⟨hlen, -, blk, off, hadr, hc⟩ := hA
  obtain rfl := hadr (pos_ne (n := 0) (i := 0) (by omega))
  have HC : Hid (∀ k, k < v - u → w.cell? ⟨blk, off + u * 4 + k * 4, none⟩ = some (.int .i64 (gc l (u + k)).1) ∧ w.cell? ⟨blk, off + u * 4 + k * 4 + 1, none⟩ = some (.int .i64 (gc l (u + k)).2.1) ∧ w.cell? ⟨blk, off + u * 4 + k * 4 + 2, none⟩ = some (.int .i64 (gc l (u + k)).2.2.1) ∧ w.cell? ⟨blk, off + u * 4 + k * 4 + 3, none⟩ = some (.int .i64 (gc l (u + k)).2.2.2)) := Lib.hid fun k hk => by
    have := hc (u + k) (by omega)
    rw [Nat.add_mul, ← Nat.add_assoc] at this
    exact this
  have HK : Hid (∀ k, k < v - u → (0 ≤ (gc l (u + k)).2.1 ∧ (gc l (u + k)).2.1 ≤ 10000000) ∧ (0 ≤ (gc l (u + k)).2.2.1 ∧ (gc l (u + k)).2.2.1 ≤ 10000000) ∧ (gc l (u + k)).2.1 ≤ (gc l (u + k)).2.2.1 ∧ 0 ≤ (gc l (u + k)).2.2.2 ∧ (gc l (u + k)).2.2.2 ≤ 10000000) := Lib.hid fun k hk => by
    have h1 := len_bd hR (u + k) (by omega)
    obtain ⟨⟨-, ⟨f0, f1⟩, ⟨t0, t1⟩, ft, n0, n1⟩, -⟩ := hR.2.2.2 (u + k) (by omega)
    exact ⟨⟨f0, by omega⟩, ⟨t0, by omega⟩, ft, n0, n1⟩
  have hd40 : l.length ≤ 40 := hR.2.2.1
  have HEnd : Hid (∀ b c W, W.ownsRow (w.alloc (.cells #[.int .i64 N, .int .i64 L, .slice (some ⟨blk, off, none⟩) l.length ca] 24)).heap.size 90 3 (.slice b (v - u) c) (v - u) (clW (mapK (fun j => upSw (gc l (u + j))) (v - u))) → TripS W b (wayL l u v)) := Lib.hid fun b c W h => by
    have e : wayL l u v = mapK (fun j => upSw (gc l (u + j))) (v - u) := by
      unfold wayL mapK swK dst
      rw [show v - u + (u - v) = v - u by omega]
      apply List.map_congr_left
      intro j hj
      rw [if_pos huv]
    rw [e]
    have hl := mapK_len (fun j => upSw (gc l (u + j))) (v - u)
    refine trips_own (c := c) (by rw [hl]; exact h) (by rw [hl]; omega) fun j hj => ?_
    rw [hl] at hj
    have hs := sw_ok hR (v := u) (w := v) (j := j) (by omega) (by omega) (by unfold dst; omega)
    have e2 : gw (mapK (fun j => upSw (gc l (u + j))) (v - u)) j = swK l u v j := by
      unfold mapK
      rw [gw_map _ hj]
      unfold swK
      rw [if_pos huv]
    rw [e2]
    exact sw_64 hs

  have hca' : (l.length : Int) ≤ (ca : Int) := by omega
  have huv' : (u : Int) < (v : Int) := by omega
  have hu0 : (0 : Int) ≤ (u : Int) := by omega
  have hv0 : (0 : Int) ≤ (v : Int) := by omega
  have hun : u < ca := by omega
  have e1 := Lib.hid (show min (u : Int) (v : Int) = u by omega)
  have e2 := Lib.hid (show max (u : Int) (v : Int) = v by omega)
  clear hc hadr hR
  go_enter Try.func35, Try.ntmps35
  go_wp2_with fail
  simp only [e1.out, e2.out, Int.toNat_natCast]
  obtain ⟨wo, hwo⟩ : ∃ wo, w.alloc (.cells #[.int .i64 N, .int .i64 L, .slice (some ⟨blk, off, none⟩) l.length ca] 24) = wo := ⟨_, rfl⟩
  have hbo : w.heap.size ≤ wo.heap.size := by rw [← hwo]; simp
  have hB := RdBox.start w N L (some ⟨blk, off, none⟩) l ca 24
  rw [show w.alloc (.cells #[.int .i64 N, .int .i64 L, .slice (some ⟨blk, off, none⟩) l.length ca] 24) = wo from hwo] at hB HEnd ⊢
  clear hwo
  have hb := hB.1
  clear hB
  go_loopw [7, 21] (fun x i wr => ∃ m : Nat, m ≤ v - u ∧ i = .int .i64 m ∧ (∃ a c, x = .slice a m c) ∧ Hid (wr.ownsRow wo.heap.size 90 3 x m (clW (mapK (fun j => upSw (gc l (u + j))) m))) ∧ Below wo.heap.size wo wr) (fun _ i _ => (v - u) - (intOf i).toNat)
  case atStart => exact ⟨0, Nat.zero_le _, rfl, ⟨none, 0, rfl⟩, Lib.hid ⟨rfl, .inl ⟨rfl, rfl⟩⟩, Below.refl _ _⟩
  case round =>
    obtain ⟨m, hm, rfl, ⟨aw, cw, rfl⟩, HRow, hbr⟩ := hrel
    by_cases hlt : m < v - u
    · have HX := Lib.hid (mapK_succ (fun j => upSw (gc l (u + j))) m)
      obtain ⟨M, hM⟩ : ∃ M, mapK (fun j => upSw (gc l (u + j))) m = M := ⟨_, rfl⟩
      rw [hM] at HRow HX
      clear hM
      obtain ⟨c0, c1, c2, c3⟩ := HC.out m hlt
      obtain ⟨⟨f0, f1⟩, ⟨t0, t1⟩, ft, n0', n1⟩ := HK.out m hlt
      have c0 := cell_below c0 (below_on hb hbr)
      have c1 := cell_below c1 (below_on hb hbr)
      have c2 := cell_below c2 (below_on hb hbr)
      have c3 := cell_below c3 (below_on hb hbr)
      have HXC : Hid (clW M ++ [.int .i64 (gc l (u + m)).2.1, .int .i64 ((gc l (u + m)).2.2.1 - (gc l (u + m)).2.1), .int .i64 (gc l (u + m)).2.2.2] = clW (mapK (fun j => upSw (gc l (u + j))) (m + 1))) := Lib.hid (by rw [HX.out, clW_app]; rfl)
      clear HC HK HX HEnd
      generalize (gc l (u + m)).1 = d at *
      generalize (gc l (u + m)).2.1 = f at *
      generalize (gc l (u + m)).2.2.1 = t at *
      generalize (gc l (u + m)).2.2.2 = n at *
      have hml2 : (m : Int) < ((v - u : Nat) : Int) := by omega
      have hxv : (u : Int) < (v : Int) := by omega
      have hbq := hbr.alloc hbr.size (.cells #[.int .i64 d, .int .i64 f, .int .i64 t, .int .i64 n] 61)
      have HRow := Lib.hid (HRow.out.alloc (.cells #[.int .i64 d, .int .i64 f, .int .i64 t, .int .i64 n] 61))
      have hown := Lib.hid (HRow.out.alloc (.cells #[.int .i64 f, .int .i64 (t - f), .int .i64 n] 90))
      have hbs := hbq.size
      have hbs2 := hbr.size
      go_wp2_with (first | (at_builtin; go_loud (refine wpList_append_lies _ rfl _ _ 66 rfl wo.heap.size 90 n0 _ 3 24 Try.underlying66 hi hz0 hz1 hz2 rfl (by decide) (.slice aw m cw) m _ (by rfl) hown.out ⟨wr.heap.size + 1, 0, none⟩ 1 1 [.int .i64 f, .int .i64 (t - f), .int .i64 n] (by rfl) (by rfl) ?d1 ?d2 (by decide) ?d3 ?d4 ?d5 _ rfl ?_)))
      case d1 =>
        refine World.news_of_block (cs := #[.int .i64 f, .int .i64 (t - f), .int .i64 n]) (t := 90) (fr := (0, 0)) ?_
        have h := heap_alloc_new (wr.alloc (.cells #[.int .i64 d, .int .i64 f, .int .i64 t, .int .i64 n] 61)) (.cells #[.int .i64 f, .int .i64 (t - f), .int .i64 n] 90)
        rw [show (wr.alloc (.cells #[.int .i64 d, .int .i64 f, .int .i64 t, .int .i64 n] 61)).heap.size = wr.heap.size + 1 by simp] at h
        exact h
      case d2 => simp [Value.oneCell']
      case d3 => unfold maxLen; omega
      case d4 => omega
      case d5 => first | (simp; omega) | simp | omega
      intro g6 c6 w6 hown6 hgrow6 hat6 hlt6
      have hb6 : Below wo.heap.size wo w6 := ((hbq.alloc hbs _).grown hgrow6 (by first | (simp; omega) | simp | omega) (fun z hz => owns_block hown.out hz))

      go_wp2_with fail
      go_roundw
      case rel => exact ⟨m + 1, by omega, by go_num, ⟨_, c6, rfl⟩, Lib.hid (by rw [← HXC.out]; exact hown6), hb6⟩
      case measure => simp [intOf]; omega
    · obtain rfl : m = v - u := by omega
      have HT : Hid (TripS wr aw (wayL l u v)) := Lib.hid (HEnd.out aw cw wr HRow.out)
      have hlL : Hid (v - u = dst u v) := Lib.hid (by unfold dst; omega)
      have hbw := below_on hb hbr
      have hnu : ¬ (v : Int) < (u : Int) := by omega
      clear HC HK HEnd HRow
      go_wp2_with fail
      go_ret
      exact SwE.mk hlL.out HT.out hbw


set_option maxRecDepth 100000 in
set_option maxHeartbeats 2000000 in
theorem swaps_dn (N L : Int) (a : Option Addr) (l : List Chg) (ca : Nat) (u v : Nat) (w : World) (hA : QuadS w a l) (hca : l.length ≤ ca) (hR : RoadOk N L l) (huv : v < u) (hv : u ≤ l.length) :
    Calls Try.prog 35 #[.agg #[.int .i64 N, .int .i64 L, .slice a l.length ca], .int .i64 u, .int .i64 v] w (SwE w l u v) := by
  obtain ⟨n0, hi, hz0, hz1, hz2⟩ := info_parts swapInfo
  obtain ⟨hlen, -, blk, off, hadr, hc⟩ := hA
  obtain rfl := hadr (pos_ne (n := 0) (i := 0) (by omega))
  have HC : Hid (∀ k, k < u - v → w.cell? ⟨blk, off + v * 4 + k * 4, none⟩ = some (.int .i64 (gc l (v + k)).1) ∧ w.cell? ⟨blk, off + v * 4 + k * 4 + 1, none⟩ = some (.int .i64 (gc l (v + k)).2.1) ∧ w.cell? ⟨blk, off + v * 4 + k * 4 + 2, none⟩ = some (.int .i64 (gc l (v + k)).2.2.1) ∧ w.cell? ⟨blk, off + v * 4 + k * 4 + 3, none⟩ = some (.int .i64 (gc l (v + k)).2.2.2)) := Lib.hid fun k hk => by
    have := hc (v + k) (by omega)
    rw [Nat.add_mul, ← Nat.add_assoc] at this
    exact this
  have HK : Hid (∀ k, k < u - v → (0 ≤ (gc l (v + k)).2.1 ∧ (gc l (v + k)).2.1 ≤ 10000000) ∧ (0 ≤ (gc l (v + k)).2.2.1 ∧ (gc l (v + k)).2.2.1 ≤ 10000000) ∧ (gc l (v + k)).2.1 ≤ (gc l (v + k)).2.2.1 ∧ 0 ≤ (gc l (v + k)).2.2.2 ∧ (gc l (v + k)).2.2.2 ≤ 10000000) := Lib.hid fun k hk => by
    have h1 := len_bd hR (v + k) (by omega)
    obtain ⟨⟨-, ⟨f0, f1⟩, ⟨t0, t1⟩, ft, n0, n1⟩, -⟩ := hR.2.2.2 (v + k) (by omega)
    exact ⟨⟨f0, by omega⟩, ⟨t0, by omega⟩, ft, n0, n1⟩
  have hd40 : l.length ≤ 40 := hR.2.2.1
  have HEnd : Hid (∀ g c W, W.ownsRow (w.alloc (.cells #[.int .i64 N, .int .i64 L, .slice (some ⟨blk, off, none⟩) l.length ca] 24)).heap.size 90 3 (.slice (some ⟨g, 0, none⟩) (u - v) c) (u - v) (clW (mapK (fun j => dnSw (gc l (v + j))) (u - v))) → Calls Try.prog 56 #[.slice (some ⟨g, 0, none⟩) (u - v) c] W fun e w' => e = .returned (.tuple #[]) ∧ TripS w' (some ⟨g, 0, none⟩) (wayL l u v) ∧ Below w.heap.size W w') := Lib.hid fun g c W h => by
    have e : wayL l u v = (mapK (fun j => dnSw (gc l (v + j))) (u - v)).reverse := by
      rw [mapK_rev _ (swK l u v) (u - v) fun j hj => ?_]
      · unfold wayL mapK dst
        rw [show v - u + (u - v) = u - v by omega]
      · unfold swK
        rw [if_neg (by omega)]
        show _ = dnSw (gc l (v + (u - v - 1 - j)))
        rw [show v + (u - v - 1 - j) = u - 1 - j by omega]
    have hl := mapK_len (fun j => dnSw (gc l (v + j))) (u - v)
    have hr := rev_any _ g c (mapK (fun j => dnSw (gc l (v + j))) (u - v)) W (by rw [hl]; exact h) (by rw [hl]; omega) fun j hj => by
      rw [hl] at hj
      have hs := sw_ok hR (v := u) (w := v) (j := u - v - 1 - j) (by omega) (by omega) (by unfold dst; omega)
      have e2 : gw (mapK (fun j => dnSw (gc l (v + j))) (u - v)) j = swK l u v (u - v - 1 - j) := by
        unfold mapK
        rw [gw_map _ hj]
        unfold swK
        rw [if_neg (by omega), show u - 1 - (u - v - 1 - j) = v + j by omega]
      rw [e2]
      exact sw_64 hs
    rw [hl] at hr
    rw [e]
    refine hr.mono ?_
    rintro e w' ⟨h1, h2, h3⟩
    exact ⟨h1, h2, h3.mono (by simp)⟩

  have hca' : (l.length : Int) ≤ (ca : Int) := by omega
  have huv' : (v : Int) < (u : Int) := by omega
  have hu0 : (0 : Int) ≤ (u : Int) := by omega
  have hv0 : (0 : Int) ≤ (v : Int) := by omega
  have hun : v < ca := by omega
  have e1 := Lib.hid (show min (u : Int) (v : Int) = v by omega)
  have e2 := Lib.hid (show max (u : Int) (v : Int) = u by omega)
  clear hc hadr hR
  go_enter Try.func35, Try.ntmps35
  go_wp2_with fail
  simp only [e1.out, e2.out, Int.toNat_natCast]
  obtain ⟨wo, hwo⟩ : ∃ wo, w.alloc (.cells #[.int .i64 N, .int .i64 L, .slice (some ⟨blk, off, none⟩) l.length ca] 24) = wo := ⟨_, rfl⟩
  have hbo : w.heap.size ≤ wo.heap.size := by rw [← hwo]; simp
  have hB := RdBox.start w N L (some ⟨blk, off, none⟩) l ca 24
  rw [show w.alloc (.cells #[.int .i64 N, .int .i64 L, .slice (some ⟨blk, off, none⟩) l.length ca] 24) = wo from hwo] at hB HEnd ⊢
  clear hwo
  have hb := hB.1
  clear hB
  go_loopw [7, 21] (fun x i wr => ∃ m : Nat, m ≤ u - v ∧ i = .int .i64 m ∧ (∃ a c, x = .slice a m c) ∧ Hid (wr.ownsRow wo.heap.size 90 3 x m (clW (mapK (fun j => dnSw (gc l (v + j))) m))) ∧ Below wo.heap.size wo wr) (fun _ i _ => (u - v) - (intOf i).toNat)
  case atStart => exact ⟨0, Nat.zero_le _, rfl, ⟨none, 0, rfl⟩, Lib.hid ⟨rfl, .inl ⟨rfl, rfl⟩⟩, Below.refl _ _⟩
  case round =>
    obtain ⟨m, hm, rfl, ⟨aw, cw, rfl⟩, HRow, hbr⟩ := hrel
    by_cases hlt : m < u - v
    · have HX := Lib.hid (mapK_succ (fun j => dnSw (gc l (v + j))) m)
      obtain ⟨M, hM⟩ : ∃ M, mapK (fun j => dnSw (gc l (v + j))) m = M := ⟨_, rfl⟩
      rw [hM] at HRow HX
      clear hM
      obtain ⟨c0, c1, c2, c3⟩ := HC.out m hlt
      obtain ⟨⟨f0, f1⟩, ⟨t0, t1⟩, ft, n0', n1⟩ := HK.out m hlt
      have c0 := cell_below c0 (below_on hb hbr)
      have c1 := cell_below c1 (below_on hb hbr)
      have c2 := cell_below c2 (below_on hb hbr)
      have c3 := cell_below c3 (below_on hb hbr)
      have HXC : Hid (clW M ++ [.int .i64 (gc l (v + m)).2.1, .int .i64 (gc l (v + m)).2.2.2, .int .i64 ((gc l (v + m)).2.2.1 - (gc l (v + m)).2.1)] = clW (mapK (fun j => dnSw (gc l (v + j))) (m + 1))) := Lib.hid (by rw [HX.out, clW_app]; rfl)
      clear HC HK HX HEnd
      generalize (gc l (v + m)).1 = d at *
      generalize (gc l (v + m)).2.1 = f at *
      generalize (gc l (v + m)).2.2.1 = t at *
      generalize (gc l (v + m)).2.2.2 = n at *
      have hml2 : (m : Int) < ((u - v : Nat) : Int) := by omega
      have hxv : ¬ (u : Int) < (v : Int) := by omega
      have hbq := hbr.alloc hbr.size (.cells #[.int .i64 d, .int .i64 f, .int .i64 t, .int .i64 n] 61)
      have HRow := Lib.hid (HRow.out.alloc (.cells #[.int .i64 d, .int .i64 f, .int .i64 t, .int .i64 n] 61))
      have hown := Lib.hid (HRow.out.alloc (.cells #[.int .i64 f, .int .i64 n, .int .i64 (t - f)] 90))
      have hbs := hbq.size
      have hbs2 := hbr.size
      go_wp2_with (first | (at_builtin; go_loud (refine wpList_append_lies _ rfl _ _ 66 rfl wo.heap.size 90 n0 _ 3 24 Try.underlying66 hi hz0 hz1 hz2 rfl (by decide) (.slice aw m cw) m _ (by rfl) hown.out ⟨wr.heap.size + 1, 0, none⟩ 1 1 [.int .i64 f, .int .i64 n, .int .i64 (t - f)] (by rfl) (by rfl) ?d1 ?d2 (by decide) ?d3 ?d4 ?d5 _ rfl ?_)))
      first
        | (case d1 =>
             refine World.news_of_block (cs := #[.int .i64 f, .int .i64 n, .int .i64 (t - f)]) (t := 90) (fr := (0, 0)) ?_
             have h := heap_alloc_new (wr.alloc (.cells #[.int .i64 d, .int .i64 f, .int .i64 t, .int .i64 n] 61)) (.cells #[.int .i64 f, .int .i64 n, .int .i64 (t - f)] 90)
             rw [show (wr.alloc (.cells #[.int .i64 d, .int .i64 f, .int .i64 t, .int .i64 n] 61)).heap.size = wr.heap.size + 1 by simp] at h
             exact h)
        | skip
      case d2 => simp [Value.oneCell']
      case d3 => unfold maxLen; omega
      case d4 => omega
      case d5 => first | (simp; omega) | simp | omega
      intro g6 c6 w6 hown6 hgrow6 hat6 hlt6
      have hb6 : Below wo.heap.size wo w6 := ((hbq.alloc hbs _).grown hgrow6 (by first | (simp; omega) | simp | omega) (fun z hz => owns_block hown.out hz))

      go_wp2_with fail
      go_roundw
      case rel => exact ⟨m + 1, by omega, by go_num, ⟨_, c6, rfl⟩, Lib.hid (by rw [← HXC.out]; exact hown6), hb6⟩
      case measure => simp [intOf]; omega
    · obtain rfl : m = u - v := by omega
      obtain ⟨g, hg⟩ : ∃ g, aw = some ⟨g, 0, none⟩ := by
        rcases HRow.out.2 with ⟨h1, h2⟩ | ⟨g2, c2, cur, h1, _⟩
        · omega
        · exact ⟨g2, by simpa using (Value.slice.inj h1).1⟩
      subst hg
      have hbw := below_on hb hbr
      have HRev := Lib.hid (HEnd.out g cw wr HRow.out)
      have hlL : Hid (u - v = dst u v) := Lib.hid (by unfold dst; omega)
      clear HC HK HEnd HRow
      go_wp2_with fail
      refine HRev.out.mono ?_
      rintro e w3 ⟨rfl, hT, hb3⟩
      have hT := Lib.hid hT
      go_wp2_with fail
      go_ret
      exact SwE.mk hlL.out hT.out (hbw.trans hb3)


end Go.Proofs.Ytdiabpcpcilclaa
