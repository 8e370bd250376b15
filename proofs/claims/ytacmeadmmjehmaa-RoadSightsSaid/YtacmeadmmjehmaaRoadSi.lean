/-
  Sight of package road, whole. By an AI agent.
-/
import Derived.Test.YtacmeadmmjehmaaRoadSg
namespace Go.Proofs.Ytacmeadmmjehmaa
set_option linter.unusedVariables false
set_option linter.unusedSimpArgs false
open Go.RowKit

/-- From how far a post is seen where there is no wall. -/
def sg0 (c d far : Int) : Int := if d = 1 then min far c else far
/-- Does the wall hide the post? -/
def hidP (c d s : Int) (x : Sw) : Prop := x.1 = s ∧ 0 < frE c d x.2.1 x.2.2
instance (c d s : Int) (x : Sw) : Decidable (hidP c d s x) := by unfold hidP; infer_instance
/-- From how far a post is seen behind the first k walls. -/
def sgK (c d s far : Int) (l : List Sw) : Nat → Int
  | 0 => sg0 c d far
  | k + 1 => if hidP c d s (gw l k) then min (sgK c d s far l k) (max (frN c d (gw l k).2.1 (gw l k).2.2) 0) else sgK c d s far l k
theorem sgK_next (c d s far : Int) (l : List Sw) (k : Nat) : ((gw l k).1 = s ∧ 0 < frE c d (gw l k).2.1 (gw l k).2.2 → sgK c d s far l (k + 1) = min (sgK c d s far l k) (max (frN c d (gw l k).2.1 (gw l k).2.2) 0)) ∧ (¬ ((gw l k).1 = s ∧ 0 < frE c d (gw l k).2.1 (gw l k).2.2) → sgK c d s far l (k + 1) = sgK c d s far l k) := ⟨fun h => if_pos h, fun h => if_neg h⟩
/-- Some wall is wrong. -/
def wrB (l : List Sw) : Bool := anyK (fun j => !(wallB (gw l j))) l.length
theorem wrB_ok {l : List Sw} (h : wrB l = false) : ∀ j, j < l.length → (0 ≤ (gw l j).2.1 ∧ (gw l j).2.1 ≤ 10000000) ∧ (0 ≤ (gw l j).2.2 ∧ (gw l j).2.2 ≤ 10000000) ∧ (gw l j).2.1 ≤ (gw l j).2.2 := by
  intro j hj
  have := (anyK_iff _).1 h j hj
  simp only [Bool.not_eq_false', wallB, Bool.and_eq_true, btw_iff, decide_eq_true_eq] at this
  exact ⟨this.1.2.1, this.1.2.2, this.2⟩
theorem walls_any (aw : Option Addr) (l : List Sw) (cw : Nat) (w : World) (hT : TripS w aw l) :
    Calls Try.prog 78 #[.slice aw l.length cw, .func (.func 76) #[] #[]] w fun e w' => e = .returned (.bool (wrB l)) ∧ Below w.heap.size w w' :=
  containsWl_any aw l cw #[] (fun j => !(wallB (gw l j))) w hT fun j W _ _ => wrong_any _ _ _ W
set_option maxRecDepth 100000 in
set_option maxHeartbeats 1000000 in
theorem Sight_bad1 (n c s far : Int) (aw : Option Addr) (l : List Sw) (cw : Nat) (w : World) (hf : 0 ≤ far ∧ far ≤ 10000) (hl : l.length ≤ 200) (hT : TripS w aw l) (hp : postB c 1 s = true) (ha : wrB l = true) :
    Calls Try.prog 45 #[.agg #[.int .i64 n, .int .i64 c, .int .i64 1, .int .i64 s], .slice aw l.length cw, .int .i64 far] w fun e w' => e = .returned (.tuple #[.int .i64 (0), .int .i64 2]) ∧ Below w.heap.size w w' := by
  have H2 := Lib.hid (btw_t hf.1 hf.2)
  have HP := Lib.hid (fun W => hp ▸ postValid_any n c 1 s W)
  have HN := Lib.hid (fun W (hW : Below w.heap.size w W) => walls_any aw l cw W (hT.below hW))
  have HA := Lib.hid ha
  have hl2 : (l.length : Int) ≤ 200 := by omega
  generalize wrB l = B at *
  clear hp ha hT hf hl
  go_enter Try.func45, Try.ntmps45
  go_wp2_with fail
  obtain ⟨wB, hwB⟩ : ∃ wB, w.alloc (.cells #[.int .i64 n, .int .i64 c, .int .i64 1, .int .i64 s] 64) = wB := ⟨_, rfl⟩
  have hb : Below w.heap.size w wB := by rw [← hwB]; exact (Below.refl _ _).alloc (Nat.le_refl _) _
  have p0 : wB.cell? ⟨w.heap.size, 0, none⟩ = some (.int .i64 n) := by rw [← hwB]; simp [go_sem]
  have p1 : wB.cell? ⟨w.heap.size, 1, none⟩ = some (.int .i64 c) := by rw [← hwB]; simp [go_sem]
  have p2 : wB.cell? ⟨w.heap.size, 2, none⟩ = some (.int .i64 1) := by rw [← hwB]; simp [go_sem]
  have p3 : wB.cell? ⟨w.heap.size, 3, none⟩ = some (.int .i64 s) := by rw [← hwB]; simp [go_sem]
  rw [hwB]
  clear hwB
  refine (HP.out _).mono ?_
  rintro e w1 ⟨rfl, hb1⟩
  have p0 := cell_below p0 hb1
  have p1 := cell_below p1 hb1
  have p2 := cell_below p2 hb1
  have p3 := cell_below p3 hb1
  have hb := below_on hb hb1
  clear hb1
  go_wp2_with fail
  refine (within1_any _ _ far _ _ (by simp [go_sem])).mono ?_
  rintro e w2 ⟨rfl, hb2⟩
  rw [H2.out]
  have hx := below_on ((Below.refl w1.heap.size w1).alloc (Nat.le_refl _) (.cells #[.int .i64 far] 3)) hb2
  have p0 := cell_below p0 hx
  have p1 := cell_below p1 hx
  have p2 := cell_below p2 hx
  have p3 := cell_below p3 hx
  have hb := below_on hb hx
  clear hb2 hx
  go_wp2_with fail
  refine (HN.out _ hb).mono ?_
  rintro e w3 ⟨rfl, hb3⟩
  rw [HA.out]
  have p0 := cell_below p0 hb3
  have p1 := cell_below p1 hb3
  have p2 := cell_below p2 hb3
  have p3 := cell_below p3 hb3
  have hbo := below_on hb hb3
  clear hb3 hb HN HA

  go_wp2_with fail
  go_ret2
  exact ⟨rfl, hbo⟩
set_option maxRecDepth 100000 in
set_option maxHeartbeats 2000000 in
theorem Sight_1 (n c s far : Int) (aw : Option Addr) (l : List Sw) (cw : Nat) (w : World) (hf : 0 ≤ far ∧ far ≤ 10000) (hl : l.length ≤ 200) (hT : TripS w aw l) (hp : postB c 1 s = true) (ha : wrB l = false) :
    Calls Try.prog 45 #[.agg #[.int .i64 n, .int .i64 c, .int .i64 1, .int .i64 s], .slice aw l.length cw, .int .i64 far] w fun e w' => e = .returned (.tuple #[.int .i64 (sgK c 1 s far l l.length), .int .i64 0]) ∧ Below w.heap.size w w' := by
  have H2 := Lib.hid (btw_t hf.1 hf.2)
  have HP := Lib.hid (fun W => hp ▸ postValid_any n c 1 s W)
  have HN := Lib.hid (fun W (hW : Below w.heap.size w W) => walls_any aw l cw W (hT.below hW))
  have HA := Lib.hid ha
  have HWl := Lib.hid (wrB_ok ha)
  have hc : 0 ≤ c ∧ c ≤ 10000000 := by
    have := hp
    simp only [postB, Bool.and_eq_true, btw_iff] at this
    exact this.1.1
  have HI := Lib.hid (fun x a b W ha hb => inFront_1 n c s x a b W hc ha hb)
  have hl2 : (l.length : Int) ≤ 200 := by omega
  have HX := Lib.hid (sgK_next c 1 s far l)
  have HZ : Hid (sgK c 1 s far l 0 = min far c) := Lib.hid (by rw [sgK, sg0, if_pos rfl])
  obtain ⟨V, hV⟩ : ∃ V, sgK c 1 s far l l.length = V := ⟨_, rfl⟩
  rw [hV]
  have HV := Lib.hid hV
  obtain ⟨sg, hsg⟩ : ∃ sg : Nat → Int, sgK c 1 s far l = sg := ⟨_, rfl⟩
  rw [hsg] at HX HV HZ
  obtain ⟨M, hM⟩ : ∃ M, min far c = M := ⟨_, rfl⟩
  rw [hM] at HZ
  
  obtain ⟨hlen, -, blk, off, hadr, hcs⟩ := hT
  have HC := Lib.hid hcs
  have HL : Hid (0 < l.length → aw = some ⟨blk, off, none⟩) := Lib.hid fun h => hadr (pos_ne (n := 0) h)
  generalize wrB l = B at *
  obtain ⟨c0, c1⟩ := hc
  clear hp ha hf hl hV hsg hcs hadr hlen
  go_enter Try.func45, Try.ntmps45
  go_wp2_with fail
  obtain ⟨wB, hwB⟩ : ∃ wB, w.alloc (.cells #[.int .i64 n, .int .i64 c, .int .i64 1, .int .i64 s] 64) = wB := ⟨_, rfl⟩
  have hb : Below w.heap.size w wB := by rw [← hwB]; exact (Below.refl _ _).alloc (Nat.le_refl _) _
  have p0 : wB.cell? ⟨w.heap.size, 0, none⟩ = some (.int .i64 n) := by rw [← hwB]; simp [go_sem]
  have p1 : wB.cell? ⟨w.heap.size, 1, none⟩ = some (.int .i64 c) := by rw [← hwB]; simp [go_sem]
  have p2 : wB.cell? ⟨w.heap.size, 2, none⟩ = some (.int .i64 1) := by rw [← hwB]; simp [go_sem]
  have p3 : wB.cell? ⟨w.heap.size, 3, none⟩ = some (.int .i64 s) := by rw [← hwB]; simp [go_sem]
  rw [hwB]
  clear hwB
  refine (HP.out _).mono ?_
  rintro e w1 ⟨rfl, hb1⟩
  have p0 := cell_below p0 hb1
  have p1 := cell_below p1 hb1
  have p2 := cell_below p2 hb1
  have p3 := cell_below p3 hb1
  have hb := below_on hb hb1
  clear hb1
  go_wp2_with fail
  refine (within1_any _ _ far _ _ (by simp [go_sem])).mono ?_
  rintro e w2 ⟨rfl, hb2⟩
  rw [H2.out]
  have hx := below_on ((Below.refl w1.heap.size w1).alloc (Nat.le_refl _) (.cells #[.int .i64 far] 3)) hb2
  have p0 := cell_below p0 hx
  have p1 := cell_below p1 hx
  have p2 := cell_below p2 hx
  have p3 := cell_below p3 hx
  have hb := below_on hb hx
  clear hb2 hx
  go_wp2_with fail
  refine (HN.out _ hb).mono ?_
  rintro e w3 ⟨rfl, hb3⟩
  rw [HA.out]
  have p0 := cell_below p0 hb3
  have p1 := cell_below p1 hb3
  have p2 := cell_below p2 hb3
  have p3 := cell_below p3 hb3
  have hbo := below_on hb hb3
  clear hb3 hb HN HA

  go_wp2_with fail
  all_goals
    obtain ⟨wo, hwo⟩ : ∃ wo, w3 = wo := ⟨_, rfl⟩
    rw [hwo] at p0 p1 p2 p3 hbo ⊢
    clear hwo
    go_loopw [9, 43] (fun v i wr => ∃ k : Nat, k ≤ l.length ∧ i = .int .i64 k ∧ v = .int .i64 (sg k) ∧ Below wo.heap.size wo wr) (fun _ i _ => l.length - (intOf i).toNat)
    case atStart => exact ⟨0, Nat.zero_le _, rfl, by rw [HZ.out] <;> first | rfl | (congr 1; omega), Below.refl _ _⟩
    case round =>
      obtain ⟨k, hk, rfl, rfl, hbr⟩ := hrel
      by_cases hlt : k < l.length
      · obtain rfl := HL.out (by omega)
        obtain ⟨e0, e1, e2⟩ := HC.out k hlt
        have e0 := cell_below e0 (below_on hbo hbr)
        have e1 := cell_below e1 (below_on hbo hbr)
        have e2 := cell_below e2 (below_on hbo hbr)
        have p0 := cell_below p0 hbr
        have p1 := cell_below p1 hbr
        have p2 := cell_below p2 hbr
        have p3 := cell_below p3 hbr
        have hw := HWl.out k hlt
        have HF := Lib.hid (fun W => HI.out (gw l k).1 _ _ W hw.1 hw.2.1)
        have hn := HX.out k
        obtain ⟨v, hv⟩ : ∃ v, sg k = v := ⟨_, rfl⟩
        rw [hv] at hn ⊢
        have HN := Lib.hid hn
        clear hv hn hw HI HX HC HL HWl HV HZ
        generalize frN c 1 (gw l k).2.1 (gw l k).2.2 = f at *
        generalize frE c 1 (gw l k).2.1 (gw l k).2.2 = g at *
        generalize (gw l k).1 = x at *
        generalize (gw l k).2.1 = a at *
        generalize (gw l k).2.2 = b at *
        have hk1 : k + 1 ≤ l.length := by omega
        have hmeas : l.length - (k + 1) < l.length - k := by omega
        have z1 := block_lt p0
        have n1' : w.heap.size ≠ wr.heap.size := by omega
        have qb : ∀ c o, (wr.alloc (.cells c 69)).cell? ⟨w.heap.size, o, none⟩ = wr.cell? ⟨w.heap.size, o, none⟩ := fun c o => ((Below.refl _ _).alloc (Nat.le_refl _) _ : Below wr.heap.size wr (wr.alloc (.cells c 69))).cell (p := ⟨w.heap.size, o, none⟩) z1
        go_wp2_with fail
        obtain ⟨wX, hwX⟩ : ∃ wX, wr.alloc (.cells #[.int .i64 x, .int .i64 a, .int .i64 b] 69) = wX := ⟨_, rfl⟩
        have hbX : Below wr.heap.size wr wX := by rw [← hwX]; exact (Below.refl _ _).alloc (Nat.le_refl _) _
        have q0 : wX.cell? ⟨wr.heap.size, 0, none⟩ = some (.int .i64 x) := by rw [← hwX]; simp [go_sem]
        rw [hwX]
        have q1 : wX.cell? ⟨wr.heap.size, 1, none⟩ = some (.int .i64 a) := by rw [← hwX]; simp [go_sem]
        have q2 : wX.cell? ⟨wr.heap.size, 2, none⟩ = some (.int .i64 b) := by rw [← hwX]; simp [go_sem]
        clear hwX
        have p0 := cell_below p0 hbX
        have p1 := cell_below p1 hbX
        have p2 := cell_below p2 hbX
        have p3 := cell_below p3 hbX
        clear z1 n1' qb
        refine (HF.out _).mono ?_
        rintro e w4 ⟨rfl, hb4⟩
        have q0 := cell_below q0 hb4
        have p0 := cell_below p0 hb4
        have p1 := cell_below p1 hb4
        have p2 := cell_below p2 hb4
        have p3 := cell_below p3 hb4
        have hbr := below_on hbr (below_on hbX hb4)
        clear hb4 hbX e0 e1 e2 HF q1 q2
        by_cases hxs : x = s
        · by_cases hg : 0 < g
          · obtain ⟨m0, hm0⟩ : ∃ m0, max f 0 = m0 := ⟨_, rfl⟩
            obtain ⟨m1, hm1⟩ : ∃ m1, min v m0 = m1 := ⟨_, rfl⟩
            have HQ : Hid (sg (k + 1) = m1) := Lib.hid (by rw [HN.out.1 ⟨hxs, hg⟩, hm0, hm1])
            clear HN
            subst hxs
            go_wp2_with fail
            all_goals
              go_roundw
              case rel => exact ⟨k + 1, hk1, by go_num, by rw [HQ.out] <;> first | rfl | (congr 1; omega), hbr⟩
              case measure => first | (simp [intOf]; exact hmeas) | simpa [intOf] using hmeas
          · have HQ : Hid (sg (k + 1) = v) := Lib.hid (by rw [HN.out.2 (fun h => hg h.2)])
            clear HN
            subst hxs
            go_wp2_with fail
            go_roundw
            case rel => exact ⟨k + 1, hk1, by go_num, by rw [HQ.out], hbr⟩
            case measure => first | (simp [intOf]; exact hmeas) | simpa [intOf] using hmeas
        · have HQ : Hid (sg (k + 1) = v) := Lib.hid (by rw [HN.out.2 (fun h => hxs h.1)])
          have exs : (x == s) = false := by simpa using hxs
          clear HN hxs
          go_wp2_with fail
          go_roundw
          case rel => exact ⟨k + 1, hk1, by go_num, by rw [HQ.out], hbr⟩
          case measure => first | (simp [intOf]; exact hmeas) | simpa [intOf] using hmeas
      · obtain rfl : k = l.length := by omega
        rw [HV.out]
        clear HX HC HL HWl HI HZ
        go_wp2_with fail
        go_ret2
        exact ⟨rfl, below_on hbo hbr⟩
set_option maxRecDepth 100000 in
set_option maxHeartbeats 1000000 in
theorem Sight_badm (n c s far : Int) (aw : Option Addr) (l : List Sw) (cw : Nat) (w : World) (hf : 0 ≤ far ∧ far ≤ 10000) (hl : l.length ≤ 200) (hT : TripS w aw l) (hp : postB c (-1) s = true) (ha : wrB l = true) :
    Calls Try.prog 45 #[.agg #[.int .i64 n, .int .i64 c, .int .i64 (-1), .int .i64 s], .slice aw l.length cw, .int .i64 far] w fun e w' => e = .returned (.tuple #[.int .i64 (0), .int .i64 2]) ∧ Below w.heap.size w w' := by
  have H2 := Lib.hid (btw_t hf.1 hf.2)
  have HP := Lib.hid (fun W => hp ▸ postValid_any n c (-1) s W)
  have HN := Lib.hid (fun W (hW : Below w.heap.size w W) => walls_any aw l cw W (hT.below hW))
  have HA := Lib.hid ha
  have hl2 : (l.length : Int) ≤ 200 := by omega
  generalize wrB l = B at *
  clear hp ha hT hf hl
  go_enter Try.func45, Try.ntmps45
  go_wp2_with fail
  obtain ⟨wB, hwB⟩ : ∃ wB, w.alloc (.cells #[.int .i64 n, .int .i64 c, .int .i64 (-1), .int .i64 s] 64) = wB := ⟨_, rfl⟩
  have hb : Below w.heap.size w wB := by rw [← hwB]; exact (Below.refl _ _).alloc (Nat.le_refl _) _
  have p0 : wB.cell? ⟨w.heap.size, 0, none⟩ = some (.int .i64 n) := by rw [← hwB]; simp [go_sem]
  have p1 : wB.cell? ⟨w.heap.size, 1, none⟩ = some (.int .i64 c) := by rw [← hwB]; simp [go_sem]
  have p2 : wB.cell? ⟨w.heap.size, 2, none⟩ = some (.int .i64 (-1)) := by rw [← hwB]; simp [go_sem]
  have p3 : wB.cell? ⟨w.heap.size, 3, none⟩ = some (.int .i64 s) := by rw [← hwB]; simp [go_sem]
  rw [hwB]
  clear hwB
  refine (HP.out _).mono ?_
  rintro e w1 ⟨rfl, hb1⟩
  have p0 := cell_below p0 hb1
  have p1 := cell_below p1 hb1
  have p2 := cell_below p2 hb1
  have p3 := cell_below p3 hb1
  have hb := below_on hb hb1
  clear hb1
  go_wp2_with fail
  refine (within1_any _ _ far _ _ (by simp [go_sem])).mono ?_
  rintro e w2 ⟨rfl, hb2⟩
  rw [H2.out]
  have hx := below_on ((Below.refl w1.heap.size w1).alloc (Nat.le_refl _) (.cells #[.int .i64 far] 3)) hb2
  have p0 := cell_below p0 hx
  have p1 := cell_below p1 hx
  have p2 := cell_below p2 hx
  have p3 := cell_below p3 hx
  have hb := below_on hb hx
  clear hb2 hx
  go_wp2_with fail
  refine (HN.out _ hb).mono ?_
  rintro e w3 ⟨rfl, hb3⟩
  rw [HA.out]
  have p0 := cell_below p0 hb3
  have p1 := cell_below p1 hb3
  have p2 := cell_below p2 hb3
  have p3 := cell_below p3 hb3
  have hbo := below_on hb hb3
  clear hb3 hb HN HA

  go_wp2_with fail
  go_ret2
  exact ⟨rfl, hbo⟩
set_option maxRecDepth 100000 in
set_option maxHeartbeats 2000000 in
theorem Sight_m (n c s far : Int) (aw : Option Addr) (l : List Sw) (cw : Nat) (w : World) (hf : 0 ≤ far ∧ far ≤ 10000) (hl : l.length ≤ 200) (hT : TripS w aw l) (hp : postB c (-1) s = true) (ha : wrB l = false) :
    Calls Try.prog 45 #[.agg #[.int .i64 n, .int .i64 c, .int .i64 (-1), .int .i64 s], .slice aw l.length cw, .int .i64 far] w fun e w' => e = .returned (.tuple #[.int .i64 (sgK c (-1) s far l l.length), .int .i64 0]) ∧ Below w.heap.size w w' := by
  have H2 := Lib.hid (btw_t hf.1 hf.2)
  have HP := Lib.hid (fun W => hp ▸ postValid_any n c (-1) s W)
  have HN := Lib.hid (fun W (hW : Below w.heap.size w W) => walls_any aw l cw W (hT.below hW))
  have HA := Lib.hid ha
  have HWl := Lib.hid (wrB_ok ha)
  have hc : 0 ≤ c ∧ c ≤ 10000000 := by
    have := hp
    simp only [postB, Bool.and_eq_true, btw_iff] at this
    exact this.1.1
  have HI := Lib.hid (fun x a b W ha hb => inFront_m n c s x a b W hc ha hb)
  have hl2 : (l.length : Int) ≤ 200 := by omega
  have HX := Lib.hid (sgK_next c (-1) s far l)
  have HZ : Hid (sgK c (-1) s far l 0 = far) := Lib.hid (by rw [sgK, sg0, if_neg (by decide)])
  obtain ⟨V, hV⟩ : ∃ V, sgK c (-1) s far l l.length = V := ⟨_, rfl⟩
  rw [hV]
  have HV := Lib.hid hV
  obtain ⟨sg, hsg⟩ : ∃ sg : Nat → Int, sgK c (-1) s far l = sg := ⟨_, rfl⟩
  rw [hsg] at HX HV HZ
  obtain ⟨M, hM⟩ : ∃ M, far = M := ⟨_, rfl⟩
  rw [hM] at HZ
  subst hM
  obtain ⟨hlen, -, blk, off, hadr, hcs⟩ := hT
  have HC := Lib.hid hcs
  have HL : Hid (0 < l.length → aw = some ⟨blk, off, none⟩) := Lib.hid fun h => hadr (pos_ne (n := 0) h)
  generalize wrB l = B at *
  obtain ⟨c0, c1⟩ := hc
  clear hp ha hf hl hV hsg hcs hadr hlen
  go_enter Try.func45, Try.ntmps45
  go_wp2_with fail
  obtain ⟨wB, hwB⟩ : ∃ wB, w.alloc (.cells #[.int .i64 n, .int .i64 c, .int .i64 (-1), .int .i64 s] 64) = wB := ⟨_, rfl⟩
  have hb : Below w.heap.size w wB := by rw [← hwB]; exact (Below.refl _ _).alloc (Nat.le_refl _) _
  have p0 : wB.cell? ⟨w.heap.size, 0, none⟩ = some (.int .i64 n) := by rw [← hwB]; simp [go_sem]
  have p1 : wB.cell? ⟨w.heap.size, 1, none⟩ = some (.int .i64 c) := by rw [← hwB]; simp [go_sem]
  have p2 : wB.cell? ⟨w.heap.size, 2, none⟩ = some (.int .i64 (-1)) := by rw [← hwB]; simp [go_sem]
  have p3 : wB.cell? ⟨w.heap.size, 3, none⟩ = some (.int .i64 s) := by rw [← hwB]; simp [go_sem]
  rw [hwB]
  clear hwB
  refine (HP.out _).mono ?_
  rintro e w1 ⟨rfl, hb1⟩
  have p0 := cell_below p0 hb1
  have p1 := cell_below p1 hb1
  have p2 := cell_below p2 hb1
  have p3 := cell_below p3 hb1
  have hb := below_on hb hb1
  clear hb1
  go_wp2_with fail
  refine (within1_any _ _ far _ _ (by simp [go_sem])).mono ?_
  rintro e w2 ⟨rfl, hb2⟩
  rw [H2.out]
  have hx := below_on ((Below.refl w1.heap.size w1).alloc (Nat.le_refl _) (.cells #[.int .i64 far] 3)) hb2
  have p0 := cell_below p0 hx
  have p1 := cell_below p1 hx
  have p2 := cell_below p2 hx
  have p3 := cell_below p3 hx
  have hb := below_on hb hx
  clear hb2 hx
  go_wp2_with fail
  refine (HN.out _ hb).mono ?_
  rintro e w3 ⟨rfl, hb3⟩
  rw [HA.out]
  have p0 := cell_below p0 hb3
  have p1 := cell_below p1 hb3
  have p2 := cell_below p2 hb3
  have p3 := cell_below p3 hb3
  have hbo := below_on hb hb3
  clear hb3 hb HN HA

  go_wp2_with fail
  all_goals
    obtain ⟨wo, hwo⟩ : ∃ wo, w3 = wo := ⟨_, rfl⟩
    rw [hwo] at p0 p1 p2 p3 hbo ⊢
    clear hwo
    go_loopw [9, 43] (fun v i wr => ∃ k : Nat, k ≤ l.length ∧ i = .int .i64 k ∧ v = .int .i64 (sg k) ∧ Below wo.heap.size wo wr) (fun _ i _ => l.length - (intOf i).toNat)
    case atStart => exact ⟨0, Nat.zero_le _, rfl, by rw [HZ.out] <;> first | rfl | (congr 1; omega), Below.refl _ _⟩
    case round =>
      obtain ⟨k, hk, rfl, rfl, hbr⟩ := hrel
      by_cases hlt : k < l.length
      · obtain rfl := HL.out (by omega)
        obtain ⟨e0, e1, e2⟩ := HC.out k hlt
        have e0 := cell_below e0 (below_on hbo hbr)
        have e1 := cell_below e1 (below_on hbo hbr)
        have e2 := cell_below e2 (below_on hbo hbr)
        have p0 := cell_below p0 hbr
        have p1 := cell_below p1 hbr
        have p2 := cell_below p2 hbr
        have p3 := cell_below p3 hbr
        have hw := HWl.out k hlt
        have HF := Lib.hid (fun W => HI.out (gw l k).1 _ _ W hw.1 hw.2.1)
        have hn := HX.out k
        obtain ⟨v, hv⟩ : ∃ v, sg k = v := ⟨_, rfl⟩
        rw [hv] at hn ⊢
        have HN := Lib.hid hn
        clear hv hn hw HI HX HC HL HWl HV HZ
        generalize frN c (-1) (gw l k).2.1 (gw l k).2.2 = f at *
        generalize frE c (-1) (gw l k).2.1 (gw l k).2.2 = g at *
        generalize (gw l k).1 = x at *
        generalize (gw l k).2.1 = a at *
        generalize (gw l k).2.2 = b at *
        have hk1 : k + 1 ≤ l.length := by omega
        have hmeas : l.length - (k + 1) < l.length - k := by omega
        have z1 := block_lt p0
        have n1' : w.heap.size ≠ wr.heap.size := by omega
        have qb : ∀ c o, (wr.alloc (.cells c 69)).cell? ⟨w.heap.size, o, none⟩ = wr.cell? ⟨w.heap.size, o, none⟩ := fun c o => ((Below.refl _ _).alloc (Nat.le_refl _) _ : Below wr.heap.size wr (wr.alloc (.cells c 69))).cell (p := ⟨w.heap.size, o, none⟩) z1
        go_wp2_with fail
        obtain ⟨wX, hwX⟩ : ∃ wX, wr.alloc (.cells #[.int .i64 x, .int .i64 a, .int .i64 b] 69) = wX := ⟨_, rfl⟩
        have hbX : Below wr.heap.size wr wX := by rw [← hwX]; exact (Below.refl _ _).alloc (Nat.le_refl _) _
        have q0 : wX.cell? ⟨wr.heap.size, 0, none⟩ = some (.int .i64 x) := by rw [← hwX]; simp [go_sem]
        rw [hwX]
        have q1 : wX.cell? ⟨wr.heap.size, 1, none⟩ = some (.int .i64 a) := by rw [← hwX]; simp [go_sem]
        have q2 : wX.cell? ⟨wr.heap.size, 2, none⟩ = some (.int .i64 b) := by rw [← hwX]; simp [go_sem]
        clear hwX
        have p0 := cell_below p0 hbX
        have p1 := cell_below p1 hbX
        have p2 := cell_below p2 hbX
        have p3 := cell_below p3 hbX
        clear z1 n1' qb
        refine (HF.out _).mono ?_
        rintro e w4 ⟨rfl, hb4⟩
        have q0 := cell_below q0 hb4
        have p0 := cell_below p0 hb4
        have p1 := cell_below p1 hb4
        have p2 := cell_below p2 hb4
        have p3 := cell_below p3 hb4
        have hbr := below_on hbr (below_on hbX hb4)
        clear hb4 hbX e0 e1 e2 HF q1 q2
        by_cases hxs : x = s
        · by_cases hg : 0 < g
          · obtain ⟨m0, hm0⟩ : ∃ m0, max f 0 = m0 := ⟨_, rfl⟩
            obtain ⟨m1, hm1⟩ : ∃ m1, min v m0 = m1 := ⟨_, rfl⟩
            have HQ : Hid (sg (k + 1) = m1) := Lib.hid (by rw [HN.out.1 ⟨hxs, hg⟩, hm0, hm1])
            clear HN
            subst hxs
            go_wp2_with fail
            all_goals
              go_roundw
              case rel => exact ⟨k + 1, hk1, by go_num, by rw [HQ.out] <;> first | rfl | (congr 1; omega), hbr⟩
              case measure => first | (simp [intOf]; exact hmeas) | simpa [intOf] using hmeas
          · have HQ : Hid (sg (k + 1) = v) := Lib.hid (by rw [HN.out.2 (fun h => hg h.2)])
            clear HN
            subst hxs
            go_wp2_with fail
            go_roundw
            case rel => exact ⟨k + 1, hk1, by go_num, by rw [HQ.out], hbr⟩
            case measure => first | (simp [intOf]; exact hmeas) | simpa [intOf] using hmeas
        · have HQ : Hid (sg (k + 1) = v) := Lib.hid (by rw [HN.out.2 (fun h => hxs h.1)])
          have exs : (x == s) = false := by simpa using hxs
          clear HN hxs
          go_wp2_with fail
          go_roundw
          case rel => exact ⟨k + 1, hk1, by go_num, by rw [HQ.out], hbr⟩
          case measure => first | (simp [intOf]; exact hmeas) | simpa [intOf] using hmeas
      · obtain rfl : k = l.length := by omega
        rw [HV.out]
        clear HX HC HL HWl HI HZ
        go_wp2_with fail
        go_ret2
        exact ⟨rfl, below_on hbo hbr⟩
set_option maxRecDepth 100000 in
theorem Sight_no (n c d s far : Int) (aw : Option Addr) (l : List Sw) (cw : Nat) (w : World) (hp : postB c d s = false) :
    Calls Try.prog 45 #[.agg #[.int .i64 n, .int .i64 c, .int .i64 d, .int .i64 s], .slice aw l.length cw, .int .i64 far] w fun e w' => e = .returned (.tuple #[.int .i64 0, .int .i64 2]) ∧ Below w.heap.size w w' := by
  have HP := Lib.hid (fun W => hp ▸ postValid_any n c d s W)
  clear hp
  go_enter Try.func45, Try.ntmps45
  go_wp2_with fail
  obtain ⟨wB, hwB⟩ : ∃ wB, w.alloc (.cells #[.int .i64 n, .int .i64 c, .int .i64 d, .int .i64 s] 64) = wB := ⟨_, rfl⟩
  have hb : Below w.heap.size w wB := by rw [← hwB]; exact (Below.refl _ _).alloc (Nat.le_refl _) _
  have p0 : wB.cell? ⟨w.heap.size, 0, none⟩ = some (.int .i64 n) := by rw [← hwB]; simp [go_sem]
  have p1 : wB.cell? ⟨w.heap.size, 1, none⟩ = some (.int .i64 c) := by rw [← hwB]; simp [go_sem]
  have p2 : wB.cell? ⟨w.heap.size, 2, none⟩ = some (.int .i64 d) := by rw [← hwB]; simp [go_sem]
  have p3 : wB.cell? ⟨w.heap.size, 3, none⟩ = some (.int .i64 s) := by rw [← hwB]; simp [go_sem]
  rw [hwB]
  clear hwB

  refine (HP.out _).mono ?_
  rintro e w1 ⟨rfl, hb1⟩
  have hb := below_on hb hb1
  clear hb1
  go_wp2_with fail
  go_ret2
  exact ⟨rfl, hb⟩
end Go.Proofs.Ytacmeadmmjehmaa
