/-
  The law TopCarried: it answers true. By an AI agent.
-/
import Derived.Test.YtdiabpcpcilclaaRoadTp
import Derived.Test.YtdiabpcpcilclaaRoadAw
import Derived.Test.YtdiabpcpcilclaaRoadPm
import Derived.Test.YtdiabpcpcilclaaRoadJ
import Derived.Deep.RegionHeld3
import Derived.BigQuiet
namespace Go.Proofs.Ytdiabpcpcilclaa
set_option linter.unusedVariables false
set_option linter.unusedSimpArgs false
open Go.RowKit

theorem alloc_d0 (w : World) (B : Nat) (hB : w.heap.size = B) (c d : Value) (T : TypeId) : (w.alloc (.cells #[c, d] T)).cell? ⟨B, 0, none⟩ = some c := by subst hB; simp [go_sem]
theorem alloc_d1 (w : World) (B : Nat) (hB : w.heap.size = B) (c d : Value) (T : TypeId) : (w.alloc (.cells #[c, d] T)).cell? ⟨B, 1, none⟩ = some d := by subst hB; simp [go_sem]
theorem pairs1t {w : World} {b : Nat} {p : Spn} (h0 : w.cell? ⟨b, 0, none⟩ = some (.int .i64 p.1)) (h1 : w.cell? ⟨b, 1, none⟩ = some (.int .i64 p.2)) (hp : I64 p.1 ∧ I64 p.2) : PairsS w (some ⟨b, 0, none⟩) [p] := ⟨by simp, fun i hi => by
  obtain rfl : i = 0 := by simpa using hi
  exact hp, b, 0, fun _ => rfl, fun i hi => by
  obtain rfl : i = 0 := by simpa using hi
  exact ⟨h0, h1⟩⟩
theorem ints3 {w : World} {b : Nat} {x y z : Int} (h0 : w.cell? ⟨b, 0, none⟩ = some (.int .i64 x)) (h1 : w.cell? ⟨b, 1, none⟩ = some (.int .i64 y)) (h2 : w.cell? ⟨b, 2, none⟩ = some (.int .i64 z)) : ∀ i, i < 3 → w.cell? ⟨b, i, none⟩ = some (.int .i64 (gi [x, y, z] i)) := fun i hi => by
  match i, hi with
  | 0, _ => exact h0
  | 1, _ => exact h1
  | 2, _ => exact h2
/-- The boxes of the law: the road and the stretch. -/
def TBox (w W : World) (N L : Int) (a : Option Addr) (l : List Chg) (ca : Nat) (x y : Int) : Prop :=
  Below w.heap.size w W ∧ W.cell? ⟨w.heap.size + 1, 0, none⟩ = some (.int .i64 N) ∧ W.cell? ⟨w.heap.size + 1, 1, none⟩ = some (.int .i64 L) ∧ W.cell? ⟨w.heap.size + 1, 2, none⟩ = some (.slice a l.length ca) ∧ W.cell? ⟨w.heap.size, 3, none⟩ = some (.int .i64 x) ∧ W.cell? ⟨w.heap.size, 4, none⟩ = some (.int .i64 y)
theorem TBox.on {w W W' : World} {N L : Int} {a : Option Addr} {l : List Chg} {ca : Nat} {x y : Int} (h : TBox w W N L a l ca x y) (hb : Below W.heap.size W W') : TBox w W' N L a l ca x y := by
  obtain ⟨h0, h1, h2, h3, h4, h5⟩ := h
  exact ⟨below_on h0 hb, cell_below h1 hb, cell_below h2 hb, cell_below h3 hb, cell_below h4 hb, cell_below h5 hb⟩
/-- What carrying a place gives: by steps and at once. -/
theorem car_two {N L : Int} {l : List Chg} (hr : RoadOk N L l) {i j k : Nat} (hi : i ≤ l.length) (hj : j ≤ l.length) (hk : k ≤ l.length) (hb : (i ≤ j ∧ j ≤ k) ∨ (k ≤ j ∧ j ≤ i)) {c : Int} (h0 : 0 ≤ c) (h1 : c ≤ lenK L l i) :
    (carE N L l c i j = 62 ∧ carE N L l c i k = 62) ∨ ∃ X, carE N L l c i j = 0 ∧ carV N L l c i j = X ∧ carV N L l c i k = carV N L l X j k ∧ carE N L l c i k = carE N L l X j k ∧ (carE N L l X j k = 0 ∨ carE N L l X j k = 62) := by
  have e : ∀ u v : Nat, u ≤ l.length → v ≤ l.length → errL N L l [(u : Int), (v : Int)] = 0 := fun u v hu hv => errL_ok hr (by rw [win2, btw_t (by omega) (by omega), btw_t (by omega) (by omega)]; rfl)
  have E : ∀ (u v : Nat) (z : Int), u ≤ l.length → v ≤ l.length → 0 ≤ z → z ≤ lenK L l u → carE N L l z u v = (match carP l z u v with | some _ => 0 | none => 62) := fun u v z hu hv z0 z1 => by
    unfold carE; rw [if_pos (e u v hu hv), Int.toNat_natCast, Int.toNat_natCast, btw_t z0 z1, if_pos rfl]; cases carP l z u v <;> rfl
  have hs : carP l c i k = (carP l c i j).bind fun X => carP l X j k := car_split l hb c
  cases hc : carP l c i j with
  | none =>
    rw [hc] at hs
    have hs : carP l c i k = none := hs
    exact .inl ⟨by rw [E i j c hi hj h0 h1, hc], by rw [E i k c hi hk h0 h1, hs]⟩
  | some X =>
    rw [hc] at hs
    have hs : carP l c i k = carP l X j k := hs
    have hX := carK_bd (len := fun m => lenK L l (posK i j m)) (f := swK l i j) (n := dst i j) (fun m hm => sw_ok hr hi hj hm) h0 (by rw [pos_0]; exact h1) (dst i j) (Nat.le_refl _) X hc
    rw [pos_end] at hX
    have e0 : carE N L l c i j = 0 := by rw [E i j c hi hj h0 h1, hc]
    have e1 : carE N L l c i k = carE N L l X j k := by rw [E i k c hi hk h0 h1, E j k X hj hk hX.1 hX.2, hs]
    refine .inr ⟨X, e0, ?_, ?_, e1, ?_⟩
    · unfold carV; rw [if_pos e0, Int.toNat_natCast, Int.toNat_natCast, hc]; rfl
    · unfold carV; rw [e1, Int.toNat_natCast, Int.toNat_natCast, Int.toNat_natCast, hs]
    · rw [E j k X hj hk hX.1 hX.2]
      cases carP l X j k with
      | none => exact .inr rfl
      | some _ => exact .inl rfl
/-- The facts of the stretches. -/
theorem top_facts {N L : Int} {l : List Chg} (hr : RoadOk N L l) (h12 : l.length ≤ 12) {i j k : Nat} (hi : i ≤ l.length) (hj : j ≤ l.length) (hk : k ≤ l.length) (hb : (i ≤ j ∧ j ≤ k) ∨ (k ≤ j ∧ j ≤ i)) {x y : Int} (hx : 0 ≤ x) (hxy : x < y) (hy : y ≤ lenK L l i) :
    (AllV [(x, y)] ∧ InV (lenK L l i) [(x, y)] ∧ (allQ l [(x, y)] i j).length ≤ 1000 ∧ canL (allQ l [(x, y)] i j) = canL (wayQ l [(x, y)] i j)) ∧
    (AllV (canL (wayQ l [(x, y)] i j)) ∧ InV (lenK L l j) (canL (wayQ l [(x, y)] i j)) ∧ (allQ l (canL (wayQ l [(x, y)] i j)) j k).length ≤ 1000 ∧ canL (allQ l (canL (wayQ l [(x, y)] i j)) j k) = canL (wayQ l [(x, y)] i k)) ∧
    (Canon (canL (wayQ l [(x, y)] i k)) ∧ InV 10000000 (canL (wayQ l [(x, y)] i k)) ∧ InV (lenK L l k) (canL (wayQ l [(x, y)] i k)) ∧ (allQ l (canL (wayQ l [(x, y)] i k)) k i).length ≤ 1000) ∧
    (Canon (canL (allQ l (canL (wayQ l [(x, y)] i k)) k i)) ∧ InV 10000000 (canL (allQ l (canL (wayQ l [(x, y)] i k)) k i)) ∧ miL (canL (allQ l (canL (wayQ l [(x, y)] i k)) k i)) [(x, y)] = [] ∧ miE (canL (allQ l (canL (wayQ l [(x, y)] i k)) k i)) [(x, y)] = 0 ∧
      sumL (canL (allQ l (canL (wayQ l [(x, y)] i k)) k i)) = sumL (canL (wayQ l [(x, y)] i k)) ∧ 0 ≤ sumL (canL (wayQ l [(x, y)] i k)) ∧ sumL (canL (wayQ l [(x, y)] i k)) ≤ y - x) := by
  have V1 : AllV [(x, y)] := fun p hp => by simp at hp; subst hp; exact hxy
  have I1 : InV (lenK L l i) [(x, y)] := fun p hp => by simp at hp; subst hp; simp only []; omega
  have di : ∀ u v : Nat, u ≤ l.length → v ≤ l.length → dst u v ≤ 12 := fun u v hu hv => by unfold dst; omega
  have one : ∀ v : Nat, v ≤ l.length → AllV (canL (wayQ l [(x, y)] i v)) ∧ InV (lenK L l v) (canL (wayQ l [(x, y)] i v)) ∧ (canL (wayQ l [(x, y)] i v)).length ≤ 13 ∧ Canon (canL (wayQ l [(x, y)] i v)) := fun v hv => by
    have h1 := way_asc hr hi hv (asc_one (p := (x, y)) hxy)
    have h2 := canL_ok h1.1.2
    have h3 := di i v hi hv
    have h4 := h1.2
    simp only [List.length_cons, List.length_nil] at h4
    exact ⟨h2.1.2, inV_canL (way_in hr hi hv I1) h1.1.2, by omega, h2.1⟩
  have all : ∀ (q : List Spn) (u v : Nat), u ≤ l.length → v ≤ l.length → AllV q → InV (lenK L l u) q → q.length ≤ 13 → (allQ l q u v).length ≤ 1000 := fun q u v hu hv h1 h2 h3 => by
    have h4 := (allQ_ok hr hu hv h1 h2).2.2.2
    have h5 := di u v hu hv
    have h6 : q.length * (dst u v + 1) ≤ 13 * 13 := Nat.mul_le_mul h3 (by omega)
    omega
  obtain ⟨a1, a2, a3, a4⟩ := one j hj
  obtain ⟨b1, b2, b3, b4⟩ := one k hk
  have A1 := all _ k i hk hi b1 b2 b3
  obtain ⟨q1, q2, q3, q4⟩ := allQ_ok hr hk hi b1 b2
  obtain ⟨c1, c2, c3⟩ := canL_ok q1
  obtain ⟨t1, t2, t3, t4⟩ := there_back hr hi hk (s := (x, y)) hxy ⟨hx, hy⟩
  have i1 := (len_bd hr i hi).2
  have i3 := (len_bd hr k hk).2
  have ib : InV 10000000 (canL (allQ l (canL (wayQ l [(x, y)] i k)) k i)) := inV_mono i1 (inV_canL q2 q1)
  have okB : okL (canL (allQ l (canL (wayQ l [(x, y)] i k)) k i)) = true := (okL_iff _).2 ⟨by omega, c1.2, ib⟩
  have okS : okL [(x, y)] = true := (okL_iff _).2 ⟨by simp, V1, inV_mono i1 I1⟩
  have hm : minusL 10000000 (canL (allQ l (canL (wayQ l [(x, y)] i k)) k i)) [(x, y)] = [] := by
    obtain ⟨m1, m2, m3, -, -⟩ := minus_ok ib c1.2 (inV_mono i1 I1) V1 (M := 10000000) (by decide)
    refine empty_of m1.2 fun m hm => ?_
    rw [m3, inL_one] at hm
    exact hm.2 (t1 m hm.1)
  refine ⟨⟨V1, I1, all _ i j hi hj V1 I1 (by simp), ?_⟩, ⟨a1, a2, all _ j k hj hk a1 a2 a3, by_steps hr hi hj hk hb (s := (x, y)) hxy ⟨hx, hy⟩⟩, ⟨b4, inV_mono i3 b2, b2, A1⟩, ⟨c1, ib, ?_, ?_, t2, t3, t4⟩⟩
  · rw [show allQ l [(x, y)] i j = canL (wayQ l [(x, y)] i j) by simp [allQ]]
    exact canL_self a4
  · unfold miL; rw [okB, okS]; exact hm
  · unfold miE; rw [okB, okS]; rfl

set_option maxRecDepth 100000 in
set_option maxHeartbeats 4000000 in
theorem topCarried_any (N L : Int) (a : Option Addr) (l : List Chg) (ca : Nat) (x y t0 t1 t2 : Int) (w : World) (hQ : QuadS w a l) (hca : l.length ≤ ca) (hx : I64 x) (hy : I64 y) (h0 : 0 ≤ t0 ∧ t0 ≤ 255) (h1 : 0 ≤ t1 ∧ t1 ≤ 255) (h2 : 0 ≤ t2 ∧ t2 ≤ 255) :
    Calls Try.prog 7 #[.agg #[.int .i64 N, .int .i64 L, .slice a l.length ca, .int .i64 x, .int .i64 y, .int .u8 t0, .int .u8 t1, .int .u8 t2]] w fun e w' => e = .returned (.bool true) ∧ Below w.heap.size w w' := by
  have HA := Lib.hid awake_any
  have HVd := Lib.hid (fun W (hW : Below w.heap.size w W) => refValid_any N L a l ca W (hQ.below hW))
  by_cases h12 : l.length ≤ 12
  · have b12 : decide (12 < l.length) = false := decide_eq_false (by omega)
    have b12' : decide (12 < (l.length : Int)) = false := decide_eq_false (by omega)
    by_cases hr : RoadOk N L l
    · rw [roadB_t hr] at HVd
      -- the three versions
      obtain ⟨i, R0, hi⟩ : ∃ i : Nat, t0.tmod ((l.length : Int) + 1) = (i : Int) ∧ i ≤ l.length := ⟨(t0.tmod ((l.length : Int) + 1)).toNat, by have := Int.tmod_nonneg ((l.length : Int) + 1) h0.1; omega, by have := Int.tmod_lt_of_pos t0 (show (0 : Int) < (l.length : Int) + 1 by omega); have := Int.tmod_nonneg ((l.length : Int) + 1) h0.1; omega⟩
      obtain ⟨k, R2, hk⟩ : ∃ i : Nat, t2.tmod ((l.length : Int) + 1) = (i : Int) ∧ i ≤ l.length := ⟨(t2.tmod ((l.length : Int) + 1)).toNat, by have := Int.tmod_nonneg ((l.length : Int) + 1) h2.1; omega, by have := Int.tmod_lt_of_pos t2 (show (0 : Int) < (l.length : Int) + 1 by omega); have := Int.tmod_nonneg ((l.length : Int) + 1) h2.1; omega⟩
      obtain ⟨mn, hmn⟩ : ∃ mn, min (i : Int) (k : Int) = mn := ⟨_, rfl⟩
      obtain ⟨mx, hmx⟩ : ∃ mx, max (i : Int) (k : Int) = mx := ⟨_, rfl⟩
      have hd0 : (0 : Int) < mx - mn + 1 := by omega
      obtain ⟨r, R1, hr2, hr3⟩ : ∃ r : Int, t1.tmod (mx - mn + 1) = r ∧ 0 ≤ r ∧ r < mx - mn + 1 := ⟨_, rfl, Int.tmod_nonneg _ h1.1, Int.tmod_lt_of_pos _ hd0⟩
      obtain ⟨j, hjj⟩ : ∃ j : Nat, mn + r = (j : Int) := ⟨(mn + r).toNat, by omega⟩
      have hj : j ≤ l.length := by omega
      have hbt : (i ≤ j ∧ j ≤ k) ∨ (k ≤ j ∧ j ≤ i) := by omega
      have h40 := hr.2.2.1
      obtain ⟨A0, A1⟩ := len_bd hr i hi
      obtain ⟨B0, B1⟩ := len_bd hr k hk
      have e1 : ∀ u : Nat, u ≤ l.length → errL N L l [(u : Int)] = 0 := fun u hu => errL_ok hr (by rw [win1]; exact btw_t (by omega) (by omega))
      have e2 : ∀ u v : Nat, u ≤ l.length → v ≤ l.length → errL N L l [(u : Int), (v : Int)] = 0 := fun u v hu hv => errL_ok hr (by rw [win2, btw_t (by omega) (by omega), btw_t (by omega) (by omega)]; rfl)
      have HL : Hid (∀ u : Nat, u ≤ l.length → ∀ W, Below w.heap.size w W → Calls Try.prog 27 #[.agg #[.int .i64 N, .int .i64 L, .slice a l.length ca], .int .i64 u] W fun e w' => e = .returned (.tuple #[.int .i64 (lenK L l u), .int .i64 0]) ∧ Below W.heap.size W w') := Lib.hid fun u hu W hW => by
        have := Length_any N L a l ca u W (hQ.below hW) hca
        unfold lenV at this
        rw [e1 u hu, if_pos rfl, Int.toNat_natCast] at this
        exact this
      have HG : Hid (∀ u v : Nat, u ≤ l.length → v ≤ l.length → ∀ W, Below w.heap.size w W → Calls Try.prog 12 #[.agg #[.int .i64 N, .int .i64 L, .slice a l.length ca], .int .i64 u, .int .i64 v] W fun e w' => e = .returned (.tuple #[.int .i64 (lenK L l u - gS L l u v), .int .i64 0]) ∧ Below W.heap.size W w') := Lib.hid fun u v hu hv W hW => by
        have := Gone_any N L a l ca u v W (hQ.below hW) hca
        have eg : goV N L l u v = lenK L l u - gS L l u v := by
          unfold goV gS keptP wayQ; rw [if_pos (e2 u v hu hv), Int.toNat_natCast, Int.toNat_natCast, keptK_Q]
        rw [eg, e2 u v hu hv] at this
        exact this
      have hg := gS_eq hr hi hk
      obtain ⟨g0, g1⟩ := gS_bd hr hi hk
      have g2 := (gS_bd hr hk hi).2
      rw [← hg] at g2
      have HLu := Lib.hid (HL.out i hi)
      have HLw := Lib.hid (HL.out k hk)
      have HGu := Lib.hid (HG.out i k hi hk)
      have HGw := Lib.hid (HG.out k i hk hi)
      rw [← hg] at HGw
      have HKe := Lib.hid (fun W (hW : Below w.heap.size w W) => Kept_any N L a l ca x y i k W (hQ.below hW) hca)
      have wn : IntKind.i64.wrap ((l.length : Int) + 1) = (l.length : Int) + 1 := IntWalk.i64_in _ (by omega)
      have nz : (((l.length : Int) + 1) == 0) = false := by simp; omega
      have wt0 : IntKind.i64.wrap t0 = t0 := IntWalk.i64_in _ (by omega)
      have wt1 : IntKind.i64.wrap t1 = t1 := IntWalk.i64_in _ (by omega)
      have wt2 : IntKind.i64.wrap t2 = t2 := IntWalk.i64_in _ (by omega)
      have wi : IntKind.i64.wrap (i : Int) = (i : Int) := IntWalk.i64_in _ (by omega)
      have wk : IntKind.i64.wrap (k : Int) = (k : Int) := IntWalk.i64_in _ (by omega)
      have wd : IntKind.i64.wrap (mx - mn) = mx - mn := IntWalk.i64_in _ (by omega)
      have wd1 : IntKind.i64.wrap (mx - mn + 1) = mx - mn + 1 := IntWalk.i64_in _ (by omega)
      have nz2 : ((mx - mn + 1) == 0) = false := by simp; omega
      have wr : IntKind.i64.wrap r = r := IntWalk.i64_in _ (by omega)
      have wj : IntKind.i64.wrap (mn + r) = (j : Int) := by rw [hjj]; exact IntWalk.i64_in _ (by omega)
      have HFk : Hid (¬ (0 ≤ x ∧ x < y ∧ y ≤ lenK L l i) → ∀ W, Below w.heap.size w W → Calls Try.prog 10 #[.agg #[.int .i64 N, .int .i64 L, .slice a l.length ca], .agg #[.int .i64 x, .int .i64 y], .int .i64 i, .int .i64 k] W (LstE W [] 2)) := Lib.hid fun hc W hW => by
        have := HKe.out W hW
        have e : kpE N L l x y i k = 2 := by unfold kpE; rw [if_pos (e2 i k hi hk), Int.toNat_natCast, strB_f hc]; rfl
        have e' : kpL N L l x y i k = [] := by unfold kpL; rw [e]; rfl
        rw [e, e'] at this
        exact this
      have HFg : Hid (0 ≤ x ∧ x < y ∧ y ≤ lenK L l i → ∀ W, Below w.heap.size w W → Calls Try.prog 10 #[.agg #[.int .i64 N, .int .i64 L, .slice a l.length ca], .agg #[.int .i64 x, .int .i64 y], .int .i64 i, .int .i64 k] W (LstE W (canL (wayQ l [(x, y)] i k)) 0)) := Lib.hid fun hc W hW => by
        have := HKe.out W hW
        have e : kpE N L l x y i k = 0 := by unfold kpE; rw [if_pos (e2 i k hi hk), Int.toNat_natCast, strB_t hc, if_pos rfl]
        have e' : kpL N L l x y i k = canL (wayQ l [(x, y)] i k) := by unfold kpL keptP wayQ; rw [if_pos e, Int.toNat_natCast, Int.toNat_natCast, keptK_Q]
        rw [e, e'] at this
        exact this
      have HKal : Hid (∀ (u v : Nat), u ≤ l.length → v ≤ l.length → ∀ q, AllV q → InV (lenK L l u) q → (allQ l q u v).length ≤ 1000 → ∀ b c W, Below w.heap.size w W → PairsS W b q → Calls Try.prog 28 #[.agg #[.int .i64 N, .int .i64 L, .slice a l.length ca], .slice b q.length c, .int .i64 u, .int .i64 v] W (KalE W (canL (allQ l q u v)))) := Lib.hid fun u v hu hv q h1 h2 h3 b c W hW hP =>
        keptAll_any N L a l ca b q c u v W (hQ.below hW) hca hP hr hu hv h1 h2 h3
      have HFa : Hid (0 ≤ x ∧ x < y ∧ y ≤ lenK L l i → _) := Lib.hid fun hc => top_facts hr h12 hi hj hk hbt hc.1 hc.2.1 hc.2.2
      have HCr : Hid (∀ (u v : Nat) (c : Int) W, Below w.heap.size w W → Calls Try.prog 30 #[.agg #[.int .i64 N, .int .i64 L, .slice a l.length ca], .int .i64 c, .int .i64 u, .int .i64 v] W fun e w' => e = .returned (.tuple #[.int .i64 (carV N L l c u v), .int .i64 (carE N L l c u v)]) ∧ Below W.heap.size W w') := Lib.hid fun u v c W hW => Carry_any N L a l ca c u v W (hQ.below hW) hca
      have HC2 : Hid (∀ c : Int, 0 ≤ c → c ≤ lenK L l i → _) := Lib.hid fun c c0 c1 => car_two hr hi hj hk hbt c0 c1
      have HIn := Lib.hid (And.intro hi (And.intro hj hk))
      obtain ⟨Bk, hBk⟩ : ∃ Bk, lenK L l k = Bk := ⟨_, rfl⟩
      have HBe := Lib.hid hBk
      rw [hBk] at B0 B1 g2 HLw HGw
      clear hBk
      obtain ⟨A, hA⟩ : ∃ A, lenK L l i = A := ⟨_, rfl⟩
      have HAe := Lib.hid hA
      rw [hA] at A0 A1 g1 HLu HGu HFk HFg HC2
      clear hA
      generalize gS L l i k = g at *
      obtain ⟨G1, hG1⟩ : ∃ G1, A - g = G1 := ⟨_, rfl⟩
      obtain ⟨G2, hG2⟩ : ∃ G2, Bk - g = G2 := ⟨_, rfl⟩
      rw [hG1] at HGu
      rw [hG2] at HGw
      have dg0 : decide (G1 < 0) = false := decide_eq_false (by omega)
      have dg1 : decide (A < G1) = false := decide_eq_false (by omega)
      have wg1 : IntKind.i64.wrap (A - G1) = g := by rw [show A - G1 = g by omega]; exact IntWalk.i64_in _ (by omega)
      have wg2 : IntKind.i64.wrap (g + G2) = Bk := by rw [show g + G2 = Bk by omega]; exact IntWalk.i64_in _ (by omega)
      clear HL HG HKe e1 e2 hg hG1 hG2 g0 g1 g2 hQ hca hr hbt h0 h1 h2 hjj hr2 hr3 hd0 B0 B1 hx hy h40
      go_enter Try.func7, Try.ntmps7
      go_wp2_with fail
      obtain ⟨wB, hwB⟩ : ∃ wB, (w.alloc (.cells #[.int .i64 N, .int .i64 L, .slice a l.length ca, .int .i64 x, .int .i64 y, .int .u8 t0, .int .u8 t1, .int .u8 t2] 53)).alloc (.cells #[.int .i64 N, .int .i64 L, .slice a l.length ca] 24) = wB := ⟨_, rfl⟩
      have HB : Hid (TBox w wB N L a l ca x y) := Lib.hid (by rw [← hwB]; exact ⟨((Below.refl _ _).alloc (Nat.le_refl _) _).alloc (by simp) _, by simp [go_sem], by simp [go_sem], by simp [go_sem], by simp [go_sem], by simp [go_sem]⟩)
      have r5 : wB.cell? ⟨w.heap.size, 5, none⟩ = some (.int .u8 t0) := by rw [← hwB]; simp [go_sem]
      have r6 : wB.cell? ⟨w.heap.size, 6, none⟩ = some (.int .u8 t1) := by rw [← hwB]; simp [go_sem]
      have r7 : wB.cell? ⟨w.heap.size, 7, none⟩ = some (.int .u8 t2) := by rw [← hwB]; simp [go_sem]
      rw [hwB]
      clear hwB
      obtain ⟨hb, p0, p1, p2, q3, q4⟩ := HB.out
      refine (HVd.out _ hb).mono ?_
      rintro e w1 ⟨rfl, hb1⟩
      have HB := Lib.hid (HB.out.on hb1)
      obtain ⟨hb, p0, p1, p2, q3, q4⟩ := HB.out
      have r5 := cell_below r5 hb1
      have r6 := cell_below r6 hb1
      have r7 := cell_below r7 hb1
      clear hb1
      clear HVd
      go_wp2_with fail
      go_quiet (fail)
      have HB := Lib.hid (HB.out.on (below_drewN (Below.refl w1.heap.size w1) nq))
      have r6 := cell_below r6 (below_drewN (Below.refl w1.heap.size w1) nq)
      clear hb p0 p1 p2 q3 q4 r5 r7
      generalize w1.drewN nq = w2 at HB r6 ⊢
      obtain ⟨hb, p0, p1, p2, q3, q4⟩ := HB.out
      go_wp2_with fail
      clear r6 R0 R1 R2 wn nz wt0 wt1 wt2 wi wk wd wd1 nz2 wr wj hmn hmx
      refine (HLu.out _ hb).mono ?_
      rintro e w3 ⟨rfl, hb1⟩
      have HB := Lib.hid (HB.out.on hb1)
      obtain ⟨hb, p0, p1, p2, q3, q4⟩ := HB.out
      clear hb1
      clear HLu
      go_wp2_with fail
      refine (HLw.out _ hb).mono ?_
      rintro e w4 ⟨rfl, hb1⟩
      have HB := Lib.hid (HB.out.on hb1)
      obtain ⟨hb, p0, p1, p2, q3, q4⟩ := HB.out
      clear hb1
      clear HLw
      go_wp2_with fail
      refine (HGu.out _ hb).mono ?_
      rintro e w5 ⟨rfl, hb1⟩
      have HB := Lib.hid (HB.out.on hb1)
      obtain ⟨hb, p0, p1, p2, q3, q4⟩ := HB.out
      clear hb1
      clear HGu
      go_wp2_with fail
      refine (HGw.out _ hb).mono ?_
      rintro e w6 ⟨rfl, hb1⟩
      have HB := Lib.hid (HB.out.on hb1)
      obtain ⟨hb, p0, p1, p2, q3, q4⟩ := HB.out
      clear hb1
      clear HGw
      go_wp2_with fail
      clear dg0 dg1 wg1 wg2
      by_cases hc : 0 ≤ x ∧ x < y ∧ y ≤ A
      · have HKg := Lib.hid (HFg.out hc)
        obtain ⟨⟨f1, f2, f3, f4⟩, ⟨f5, f6, f7, f8⟩, ⟨f9, f10, f11, f12⟩, f13, f14, f15, f16, f17, f18, f19⟩ := HFa.out (by rw [HAe.out]; exact hc)
        obtain ⟨hi, hj, hk⟩ := HIn.out
        have HK1 := Lib.hid (HKal.out i j hi hj _ f1 f2 f3)
        have HK2 := Lib.hid (HKal.out j k hj hk _ f5 f6 f7)
        have HK3 := Lib.hid (HKal.out k i hk hi _ f9.2 f11 f12)
        rw [f4] at HK1
        rw [f8] at HK2
        have HMi := Lib.hid (fun b c b2 W hP hS => Minus_any b (canL (allQ l (canL (wayQ l [(x, y)] i k)) k i)) c b2 [(x, y)] 1 W hP hS)
        rw [f15, f16] at HMi
        have HW1 := Lib.hid (fun b c W hP => whole_any b (canL (wayQ l [(x, y)] i k)) c W hP f9 f10)
        have HW3 := Lib.hid (fun b c W hP => whole_any b (canL (allQ l (canL (wayQ l [(x, y)] i k)) k i)) c W hP f13 f14)
        rw [f17] at HW3
        clear f1 f2 f3 f4 f5 f6 f7 f8 f9 f10 f11 f12 f13 f14 f15 f16 f17 HFa HFg HFk HKal hi hj hk
        generalize canL (wayQ l [(x, y)] i j) = H at *
        generalize canL (allQ l (canL (wayQ l [(x, y)] i k)) k i) = Q3 at *
        generalize canL (wayQ l [(x, y)] i k) = O at *
        generalize sumL O = sO at *
        obtain ⟨c0, c1, c2⟩ := hc
        have ds0 : decide (sO < 0) = false := decide_eq_false (by omega)
        have ds1 : decide (y - x < sO) = false := decide_eq_false (by omega)
        have wyx : IntKind.i64.wrap (y - x) = y - x := IntWalk.i64_in _ (by omega)
        refine (HKg.out _ hb).mono ?_
        rintro e w7 ⟨b1, k1, rfl, hp1, hb1, -⟩
        have HP1 := Lib.hid hp1
        have HB := Lib.hid (HB.out.on hb1)
        obtain ⟨hb, p0, p1, p2, q3, q4⟩ := HB.out
        clear hb1
        clear HKg hp1
        go_wp2_with fail
        refine Calls.mono (HK1.out _ _ _ ?m1 ?m2) ?_
        case m1 => exact hb.alloc hb.size _
        case m2 => exact pairs1t (p := (x, y)) (alloc_d0 _ _ (by first | rfl | simp) _ _ _) (alloc_d1 _ _ (by first | rfl | simp) _ _ _) (by unfold I64; (try simp only []); omega)
        rintro e w8 ⟨b2, k2, rfl, hp2, hb1⟩
        have hb1 := box_below hb1
        have HP2 := Lib.hid hp2
        have HP1 := Lib.hid (HP1.out.below hb1)
        have HB := Lib.hid (HB.out.on hb1)
        obtain ⟨hb, p0, p1, p2, q3, q4⟩ := HB.out
        clear hb1
        clear HK1 hp2
        go_wp2_with fail
        refine (HK2.out b2 k2 _ hb HP2.out).mono ?_
        rintro e w9 ⟨b3, k3, rfl, hp3, hb1⟩
        have HP3 := Lib.hid hp3
        have HP1 := Lib.hid (HP1.out.below hb1)
        have HB := Lib.hid (HB.out.on hb1)
        obtain ⟨hb, p0, p1, p2, q3, q4⟩ := HB.out
        clear hb1
        clear HK2 hp3 HP2
        go_wp2_with fail
        refine (HK3.out b1 k1 _ hb HP1.out).mono ?_
        rintro e w10 ⟨b4, k4, rfl, hp4, hb1⟩
        have HP4 := Lib.hid hp4
        have HP1 := Lib.hid (HP1.out.below hb1)
        have HP3 := Lib.hid (HP3.out.below hb1)
        have HB := Lib.hid (HB.out.on hb1)
        obtain ⟨hb, p0, p1, p2, q3, q4⟩ := HB.out
        clear hb1
        clear HK3 hp4
        go_wp2_with fail
        refine Calls.mono (HMi.out b4 k4 _ _ ?m3 ?m4) ?_
        case m3 => exact HP4.out.below ((Below.refl _ _).alloc (Nat.le_refl _) _)
        case m4 => exact pairs1t (p := (x, y)) (alloc_d0 _ _ (by first | rfl | simp) _ _ _) (alloc_d1 _ _ (by first | rfl | simp) _ _ _) (by unfold I64; (try simp only []); omega)
        rintro e w11 ⟨b5, k5, rfl, hp5, hb1, -⟩
        have hb1 := box_below hb1
        have HP1 := Lib.hid (HP1.out.below hb1)
        have HP3 := Lib.hid (HP3.out.below hb1)
        have HP4 := Lib.hid (HP4.out.below hb1)
        have HB := Lib.hid (HB.out.on hb1)
        obtain ⟨hb, p0, p1, p2, q3, q4⟩ := HB.out
        clear hb1
        clear HMi hp5
        go_wp2_with fail
        have HSS := Lib.hid (fun W (hW : Below w11.heap.size w11 W) => sameSpans_any b1 b3 O k1 k3 W (HP1.out.below hW) (HP3.out.below hW))
        have HWa := Lib.hid (fun W (hW : Below w11.heap.size w11 W) => HW1.out b1 k1 W (HP1.out.below hW))
        have HWb := Lib.hid (fun W (hW : Below w11.heap.size w11 W) => HW3.out b4 k4 W (HP4.out.below hW))
        have hN : Below w11.heap.size w11 w11 := Below.refl _ _
        have hz := block_lt q3
        clear HW1 HW3 HP1 HP3 HP4
        go_region_held3 (fun w' => w'.cell? ⟨w.heap.size, 3, none⟩ = some (.int .i64 x) ∧ w'.cell? ⟨w.heap.size, 4, none⟩ = some (.int .i64 y)) (go_keep)
          (first
            | (go_at_call_of 14 (Value.slice b1 O.length k1)
               refine (HSS.out _ (by first | exact hN | exact hN.drew | exact below_drewN hN _)).mono ?_
               rintro E v9 ⟨rfl, hb9⟩
               have q3 := (hb9.cell (p := ⟨w.heap.size, 3, none⟩) hz).trans q3
               have q4 := (hb9.cell (p := ⟨w.heap.size, 4, none⟩) hz).trans q4
               have hN : Below w11.heap.size w11 v9 := by first | exact (hN.drew).trans (hb9.mono hN.size) | exact hN.trans (hb9.mono hN.size)
               have hz := Nat.lt_of_lt_of_le hz hb9.size)
            | (go_at_call_of 29 (Value.slice b1 O.length k1)
               refine (HWa.out _ (by first | exact hN | exact hN.drew | exact below_drewN hN _)).mono ?_
               rintro E v9 ⟨rfl, hb9⟩
               have q3 := (hb9.cell (p := ⟨w.heap.size, 3, none⟩) hz).trans q3
               have q4 := (hb9.cell (p := ⟨w.heap.size, 4, none⟩) hz).trans q4
               have hN : Below w11.heap.size w11 v9 := by first | exact (hN.drew).trans (hb9.mono hN.size) | exact hN.trans (hb9.mono hN.size)
               have hz := Nat.lt_of_lt_of_le hz hb9.size)
            | (go_at_call_of 29 (Value.slice b4 Q3.length k4)
               refine (HWb.out _ (by first | exact hN | exact hN.drew | exact below_drewN hN _)).mono ?_
               rintro E v9 ⟨rfl, hb9⟩
               have q3 := (hb9.cell (p := ⟨w.heap.size, 3, none⟩) hz).trans q3
               have q4 := (hb9.cell (p := ⟨w.heap.size, 4, none⟩) hz).trans q4
               have hN : Below w11.heap.size w11 v9 := by first | exact (hN.drew).trans (hb9.mono hN.size) | exact hN.trans (hb9.mono hN.size)
               have hz := Nat.lt_of_lt_of_le hz hb9.size))
        all_goals
          have HB := Lib.hid (HB.out.on hN)
          obtain ⟨hb, p0, p1, p2, q3, q4⟩ := HB.out
          clear hN hz HSS HWa HWb ds0 ds1 wyx f18 f19
          obtain ⟨m, hm, hm0, hm1⟩ : ∃ m, (x + y).tdiv 2 = m ∧ x ≤ m ∧ m ≤ y := ⟨_, rfl, by rw [Int.tdiv_eq_ediv_of_nonneg (by omega)]; omega, by rw [Int.tdiv_eq_ediv_of_nonneg (by omega)]; omega⟩
          have wxy : IntKind.i64.wrap (x + y) = x + y := IntWalk.i64_in _ (by omega)
          have wm : IntKind.i64.wrap m = m := IntWalk.i64_in _ (by omega)
          have HEn : Hid (∀ n, n < 3 → 0 ≤ gi [x, y, m] n ∧ gi [x, y, m] n ≤ A) := Lib.hid fun n hn => by
            match n, hn with
            | 0, _ => exact ⟨c0, by show x ≤ A; omega⟩
            | 1, _ => exact ⟨by show 0 ≤ y; omega, c2⟩
            | 2, _ => exact ⟨by show 0 ≤ m; omega, by show m ≤ A; omega⟩
          go_wp2_with fail
          clear hm wxy wm
          obtain ⟨g0, hg0⟩ : ∃ g0, v9.heap.size = g0 := ⟨_, rfl⟩
          obtain ⟨wo, hwo⟩ : ∃ wo, v9.alloc (.cells #[.int .i64 x, .int .i64 y, .int .i64 m] 3) = wo := ⟨_, rfl⟩
          have HE3 : Hid (∀ n, n < 3 → wo.cell? ⟨g0, n, none⟩ = some (.int .i64 (gi [x, y, m] n))) := Lib.hid (by
            rw [← hwo, ← hg0]
            exact ints3 (by simp [go_sem]) (by simp [go_sem]) (by simp [go_sem]))
          have hbo : Below v9.heap.size v9 wo := by rw [← hwo]; exact (Below.refl _ _).alloc (Nat.le_refl _) _
          rw [hwo, hg0]
          clear hwo hg0
          have HB := Lib.hid (HB.out.on hbo)
          clear hb p0 p1 p2 q3 q4 hbo
          go_loopw [25] (fun i wr => ∃ n : Nat, n ≤ 3 ∧ i = .int .i64 n ∧ Below wo.heap.size wo wr) (fun i _ => 3 - (intOf i).toNat)
          case atStart => exact ⟨0, Nat.zero_le _, rfl, Below.refl _ _⟩
          case round =>
            obtain ⟨n, hn, rfl, hbr⟩ := hrel
            have HB := Lib.hid (HB.out.on hbr)
            obtain ⟨hb, p0, p1, p2, q3, q4⟩ := HB.out
            by_cases hlt : n < 3
            · have e0 := cell_below (HE3.out n hlt) hbr
              obtain ⟨z0, z1⟩ := HEn.out n hlt
              have hnl : (n : Int) < 3 := by omega
              have hn0 : (0 : Int) ≤ (n : Int) := by omega
              have hmeas : 3 - (n + 1) < 3 - n := by omega
              have hcc := HC2.out _ z0 z1
              generalize gi [x, y, m] n = c at *
              have hz := block_lt p0
              have hze := block_lt e0
              have hos := hbr.size
              clear HE3 HEn HC2 HB q3 q4 HA
              rcases hcc with ⟨k1, k2⟩ | ⟨X, k1, k2, k3, k4, k5⟩
              · have H1 := Lib.hid (HCr.out i j c)
                have H2 := Lib.hid (HCr.out i k c)
                rw [k1] at H1
                rw [k2] at H2
                generalize carV N L l c i j = V1 at *
                generalize carV N L l c i k = V2 at *
                clear HCr k1 k2
                go_wp2_with fail
                go_region_held3 (fun w' => w'.cell? ⟨w.heap.size + 1, 0, none⟩ = some (.int .i64 N) ∧ w'.cell? ⟨w.heap.size + 1, 1, none⟩ = some (.int .i64 L) ∧ w'.cell? ⟨w.heap.size + 1, 2, none⟩ = some (.slice a l.length ca) ∧ w'.cell? ⟨g0, n, none⟩ = some (.int .i64 c)) (go_keep)
                  (first
                    | (go_at_call 30
                       refine (H1.out _ (by first | exact hb | exact hb.drew | exact below_drewN hb _)).mono ?_
                       rintro E9 v8 ⟨rfl, hb8⟩
                       have p0 := (hb8.cell (p := ⟨w.heap.size + 1, 0, none⟩) hz).trans p0
                       have p1 := (hb8.cell (p := ⟨w.heap.size + 1, 1, none⟩) hz).trans p1
                       have p2 := (hb8.cell (p := ⟨w.heap.size + 1, 2, none⟩) hz).trans p2
                       have e0 := (hb8.cell (p := ⟨g0, n, none⟩) hze).trans e0
                       have hbr : Below wo.heap.size wo v8 := by first | exact hbr.trans (hb8.mono hbr.size) | exact (hbr.drew).trans (hb8.mono hbr.size)
                       have hb : Below w.heap.size w v8 := by first | exact hb.trans (hb8.mono hb.size) | exact (hb.drew).trans (hb8.mono hb.size)
                       have hz := Nat.lt_of_lt_of_le hz hb8.size
                       have hze := Nat.lt_of_lt_of_le hze hb8.size))
                all_goals
                  go_wp2_with fail
                  go_region_held3 (fun w' => w'.cell? ⟨w.heap.size + 1, 0, none⟩ = some (.int .i64 N) ∧ w'.cell? ⟨w.heap.size + 1, 1, none⟩ = some (.int .i64 L) ∧ w'.cell? ⟨w.heap.size + 1, 2, none⟩ = some (.slice a l.length ca) ∧ w'.cell? ⟨g0, n, none⟩ = some (.int .i64 c)) (go_keep)
                    (first
                      | (go_at_call 30
                         refine (H2.out _ (by first | exact hb | exact hb.drew | exact below_drewN hb _)).mono ?_
                         rintro E9 v8 ⟨rfl, hb8⟩
                         have p0 := (hb8.cell (p := ⟨w.heap.size + 1, 0, none⟩) hz).trans p0
                         have p1 := (hb8.cell (p := ⟨w.heap.size + 1, 1, none⟩) hz).trans p1
                         have p2 := (hb8.cell (p := ⟨w.heap.size + 1, 2, none⟩) hz).trans p2
                         have e0 := (hb8.cell (p := ⟨g0, n, none⟩) hze).trans e0
                         have hbr : Below wo.heap.size wo v8 := by first | exact hbr.trans (hb8.mono hbr.size) | exact (hbr.drew).trans (hb8.mono hbr.size)
                         have hb : Below w.heap.size w v8 := by first | exact hb.trans (hb8.mono hb.size) | exact (hb.drew).trans (hb8.mono hb.size)
                         have hz := Nat.lt_of_lt_of_le hz hb8.size
                         have hze := Nat.lt_of_lt_of_le hze hb8.size))
                  all_goals
                    go_wp2_with fail
                    go_roundw
                    case rel => exact ⟨n + 1, by omega, by go_num, by first | exact hbr | exact hbr.drew | exact below_drewN hbr _⟩
                    case measure => first | (simp [intOf]; exact hmeas) | simpa [intOf] using hmeas
              · have H1 := Lib.hid (HCr.out i j c)
                have H2 := Lib.hid (HCr.out i k c)
                have H3 := Lib.hid (HCr.out j k X)
                rw [k1, k2] at H1
                rw [k3, k4] at H2
                generalize carV N L l X j k = V at *
                generalize carE N L l X j k = E at *
                clear HCr k1 k2 k3 k4 k5
                go_wp2_with fail
                go_region_held3 (fun w' => w'.cell? ⟨w.heap.size + 1, 0, none⟩ = some (.int .i64 N) ∧ w'.cell? ⟨w.heap.size + 1, 1, none⟩ = some (.int .i64 L) ∧ w'.cell? ⟨w.heap.size + 1, 2, none⟩ = some (.slice a l.length ca) ∧ w'.cell? ⟨g0, n, none⟩ = some (.int .i64 c)) (go_keep)
                  (first
                    | (go_at_call 30
                       refine (H1.out _ (by first | exact hb | exact hb.drew | exact below_drewN hb _)).mono ?_
                       rintro E9 v8 ⟨rfl, hb8⟩
                       have p0 := (hb8.cell (p := ⟨w.heap.size + 1, 0, none⟩) hz).trans p0
                       have p1 := (hb8.cell (p := ⟨w.heap.size + 1, 1, none⟩) hz).trans p1
                       have p2 := (hb8.cell (p := ⟨w.heap.size + 1, 2, none⟩) hz).trans p2
                       have e0 := (hb8.cell (p := ⟨g0, n, none⟩) hze).trans e0
                       have hbr : Below wo.heap.size wo v8 := by first | exact hbr.trans (hb8.mono hbr.size) | exact (hbr.drew).trans (hb8.mono hbr.size)
                       have hb : Below w.heap.size w v8 := by first | exact hb.trans (hb8.mono hb.size) | exact (hb.drew).trans (hb8.mono hb.size)
                       have hz := Nat.lt_of_lt_of_le hz hb8.size
                       have hze := Nat.lt_of_lt_of_le hze hb8.size))
                all_goals
                  go_wp2_with fail
                  go_region_held3 (fun w' => w'.cell? ⟨w.heap.size + 1, 0, none⟩ = some (.int .i64 N) ∧ w'.cell? ⟨w.heap.size + 1, 1, none⟩ = some (.int .i64 L) ∧ w'.cell? ⟨w.heap.size + 1, 2, none⟩ = some (.slice a l.length ca) ∧ w'.cell? ⟨g0, n, none⟩ = some (.int .i64 c)) (go_keep)
                    (first
                      | (go_at_call 30
                         refine (H2.out _ (by first | exact hb | exact hb.drew | exact below_drewN hb _)).mono ?_
                         rintro E9 v8 ⟨rfl, hb8⟩
                         have p0 := (hb8.cell (p := ⟨w.heap.size + 1, 0, none⟩) hz).trans p0
                         have p1 := (hb8.cell (p := ⟨w.heap.size + 1, 1, none⟩) hz).trans p1
                         have p2 := (hb8.cell (p := ⟨w.heap.size + 1, 2, none⟩) hz).trans p2
                         have e0 := (hb8.cell (p := ⟨g0, n, none⟩) hze).trans e0
                         have hbr : Below wo.heap.size wo v8 := by first | exact hbr.trans (hb8.mono hbr.size) | exact (hbr.drew).trans (hb8.mono hbr.size)
                         have hb : Below w.heap.size w v8 := by first | exact hb.trans (hb8.mono hb.size) | exact (hb.drew).trans (hb8.mono hb.size)
                         have hz := Nat.lt_of_lt_of_le hz hb8.size
                         have hze := Nat.lt_of_lt_of_le hze hb8.size))
                  all_goals
                    go_wp2_with fail
                    refine (H3.out _ (by first | exact hb | exact hb.drew | exact below_drewN hb _)).mono ?_
                    rintro e v7 ⟨rfl, hb7⟩
                    have hbr : Below wo.heap.size wo v7 := by first | exact hbr.trans (hb7.mono hbr.size) | exact (hbr.drew).trans (hb7.mono hbr.size)
                    clear hb7
                    go_wp2_with fail
                    go_roundw
                    case rel => exact ⟨n + 1, by omega, by go_num, by first | exact hbr | exact hbr.drew | exact below_drewN hbr _⟩
                    case measure => first | (simp [intOf]; exact hmeas) | simpa [intOf] using hmeas
            · have hnl : ¬ ((n : Int) < 3) := by omega
              clear HE3 HEn HC2 HCr
              go_wp2_with fail
              refine (HA.out _).mono ?_
              rintro e v7 ⟨rfl, hb7⟩
              go_wp2_with fail
              go_ret
              exact ⟨rfl, below_on hb hb7⟩
      · have HKb := Lib.hid (HFk.out hc)
        clear HFk HFg HKal HFa HC2 HCr hc
        refine (HKb.out _ hb).mono ?_
        rintro e w7 ⟨b1, k1, rfl, -, hb1, -⟩
        have HB := Lib.hid (HB.out.on hb1)
        obtain ⟨hb, p0, p1, p2, q3, q4⟩ := HB.out
        clear hb1
        clear HKb
        go_wp2_with fail
        refine (HA.out _).mono ?_
        rintro e w9 ⟨rfl, hb9⟩
        go_wp2_with fail
        go_ret
        exact ⟨rfl, below_on hb hb9⟩

    · rw [roadB_f hr] at HVd
      clear hr hQ hca hx hy
      go_enter Try.func7, Try.ntmps7
      go_wp2_with fail
      obtain ⟨wB, hwB⟩ : ∃ wB, (w.alloc (.cells #[.int .i64 N, .int .i64 L, .slice a l.length ca, .int .i64 x, .int .i64 y, .int .u8 t0, .int .u8 t1, .int .u8 t2] 53)).alloc (.cells #[.int .i64 N, .int .i64 L, .slice a l.length ca] 24) = wB := ⟨_, rfl⟩
      have HB : Hid (TBox w wB N L a l ca x y) := Lib.hid (by rw [← hwB]; exact ⟨((Below.refl _ _).alloc (Nat.le_refl _) _).alloc (by simp) _, by simp [go_sem], by simp [go_sem], by simp [go_sem], by simp [go_sem], by simp [go_sem]⟩)
      have r5 : wB.cell? ⟨w.heap.size, 5, none⟩ = some (.int .u8 t0) := by rw [← hwB]; simp [go_sem]
      have r6 : wB.cell? ⟨w.heap.size, 6, none⟩ = some (.int .u8 t1) := by rw [← hwB]; simp [go_sem]
      have r7 : wB.cell? ⟨w.heap.size, 7, none⟩ = some (.int .u8 t2) := by rw [← hwB]; simp [go_sem]
      rw [hwB]
      clear hwB
      obtain ⟨hb, p0, p1, p2, q3, q4⟩ := HB.out
      refine (HVd.out _ hb).mono ?_
      rintro e w1 ⟨rfl, hb1⟩
      have HB := Lib.hid (HB.out.on hb1)
      obtain ⟨hb, p0, p1, p2, q3, q4⟩ := HB.out
      clear hb1
      go_wp2_with fail
      refine (HA.out _).mono ?_
      rintro e w9 ⟨rfl, hb9⟩
      go_wp2_with fail
      go_ret
      exact ⟨rfl, below_on hb hb9⟩

  · have b12 : decide (12 < l.length) = true := decide_eq_true (by omega)
    have b12' : decide (12 < (l.length : Int)) = true := decide_eq_true (by omega)
    clear HVd hQ hca hx hy
    go_enter Try.func7, Try.ntmps7
    go_wp2_with fail
    obtain ⟨wB, hwB⟩ : ∃ wB, (w.alloc (.cells #[.int .i64 N, .int .i64 L, .slice a l.length ca, .int .i64 x, .int .i64 y, .int .u8 t0, .int .u8 t1, .int .u8 t2] 53)).alloc (.cells #[.int .i64 N, .int .i64 L, .slice a l.length ca] 24) = wB := ⟨_, rfl⟩
    have HB : Hid (TBox w wB N L a l ca x y) := Lib.hid (by rw [← hwB]; exact ⟨((Below.refl _ _).alloc (Nat.le_refl _) _).alloc (by simp) _, by simp [go_sem], by simp [go_sem], by simp [go_sem], by simp [go_sem], by simp [go_sem]⟩)
    have r5 : wB.cell? ⟨w.heap.size, 5, none⟩ = some (.int .u8 t0) := by rw [← hwB]; simp [go_sem]
    have r6 : wB.cell? ⟨w.heap.size, 6, none⟩ = some (.int .u8 t1) := by rw [← hwB]; simp [go_sem]
    have r7 : wB.cell? ⟨w.heap.size, 7, none⟩ = some (.int .u8 t2) := by rw [← hwB]; simp [go_sem]
    rw [hwB]
    clear hwB
    obtain ⟨hb, p0, p1, p2, q3, q4⟩ := HB.out
    refine (HA.out _).mono ?_
    rintro e w9 ⟨rfl, hb9⟩
    go_wp2_with fail
    go_ret
    exact ⟨rfl, below_on hb hb9⟩

end Go.Proofs.Ytdiabpcpcilclaa
