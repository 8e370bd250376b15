/-
  Sight of the reference. By an AI agent.
-/
import Derived.Test.YtacmeadmmjehmaaRoadSi
import Derived.Deep.RegionHeld3
namespace Go.Proofs.Ytacmeadmmjehmaa
set_option linter.unusedVariables false
set_option linter.unusedSimpArgs false
open Go.RowKit

theorem dirn_any {d : Int} {v : Bool} (h : dirB d = v) (w : World) : Calls Try.prog 70 #[.int .i64 d] w fun e w' => e = .returned (.bool v) ∧ w = w' := by
  subst h
  by_cases h1 : d = 1
  · subst h1; exact dirn_1 w
  · by_cases h2 : d = -1
    · subst h2; exact dirn_m w
    · have e : dirB d = false := by simp [dirB, h1, h2]
      rw [e]; exact dirn_no d h1 h2 w
theorem sd_btw (s : Int) : btw s 0 1 = sdB s := by
  rw [Bool.eq_iff_iff, btw_iff]; simp only [sdB, Bool.or_eq_true, beq_iff_eq]; omega
theorem refPost_a (n c d s : Int) (w : World) (h : btw c 0 10000000 = false) :
    Calls Try.prog 75 #[.agg #[.int .i64 n, .int .i64 c, .int .i64 d, .int .i64 s]] w fun e w' => e = .returned (.bool false) ∧ Below w.heap.size w w' := by
  have H1 := Lib.hid h
  have H3 := H1
  clear h
  have hb := (Below.refl w.heap.size w).alloc (Nat.le_refl _) (.cells #[.int .i64 n, .int .i64 c, .int .i64 d, .int .i64 s] 64)
  go_enter Try.func75, Try.ntmps75
  go_wp2_with ((go_at_call 53; refine (from_any _ _ _ _).mono ?_; rintro e w' ⟨rfl, rfl⟩; first | rw [H1.out] | rw [H3.out]))
  go_ret
  exact ⟨rfl, hb⟩
theorem refPost_b (n c d s : Int) (w : World) (h : btw c 0 10000000 = true) (h2 : dirB d = false) :
    Calls Try.prog 75 #[.agg #[.int .i64 n, .int .i64 c, .int .i64 d, .int .i64 s]] w fun e w' => e = .returned (.bool false) ∧ Below w.heap.size w w' := by
  have H1 := Lib.hid h
  have H3 := H1
  have HD := Lib.hid (fun W => dirn_any h2 W)
  clear h h2
  have hb := (Below.refl w.heap.size w).alloc (Nat.le_refl _) (.cells #[.int .i64 n, .int .i64 c, .int .i64 d, .int .i64 s] 64)
  go_enter Try.func75, Try.ntmps75
  go_wp2_with (first | (go_at_call 53; refine (from_any _ _ _ _).mono ?_; rintro e w' ⟨rfl, rfl⟩; first | rw [H1.out] | rw [H3.out]) | (go_at_call 70; refine (HD.out _).mono ?_; rintro e w' ⟨rfl, rfl⟩))
  go_ret
  exact ⟨rfl, hb⟩
theorem refPost_c (n c d s : Int) (w : World) (h : btw c 0 10000000 = true) (h2 : dirB d = true) :
    Calls Try.prog 75 #[.agg #[.int .i64 n, .int .i64 c, .int .i64 d, .int .i64 s]] w fun e w' => e = .returned (.bool (sdB s)) ∧ Below w.heap.size w w' := by
  have H1 := Lib.hid h
  have H3 := Lib.hid (sd_btw s)
  have HD := Lib.hid (fun W => dirn_any h2 W)
  generalize sdB s = b at *
  clear h h2
  have hb := (Below.refl w.heap.size w).alloc (Nat.le_refl _) (.cells #[.int .i64 n, .int .i64 c, .int .i64 d, .int .i64 s] 64)
  go_enter Try.func75, Try.ntmps75
  go_wp2_with (first | (go_at_call 53; refine (from_any _ _ _ _).mono ?_; rintro e w' ⟨rfl, rfl⟩; first | rw [H1.out] | rw [H3.out]) | (go_at_call 70; refine (HD.out _).mono ?_; rintro e w' ⟨rfl, rfl⟩))
  go_ret
  exact ⟨rfl, hb⟩
theorem refPost_any (n c d s : Int) (w : World) :
    Calls Try.prog 75 #[.agg #[.int .i64 n, .int .i64 c, .int .i64 d, .int .i64 s]] w fun e w' => e = .returned (.bool (postB c d s)) ∧ Below w.heap.size w w' := by
  unfold postB
  cases h : btw c 0 10000000 with
  | false => exact refPost_a n c d s w h
  | true =>
    cases h2 : dirB d with
    | false => exact refPost_b n c d s w h h2
    | true => exact refPost_c n c d s w h h2
/-- Does a wall hide one place from another one? -/
def hdB (a b lo hi : Int) : Bool := decide (lo < hi) && decide (a < hi) && decide (lo < b)
theorem hides_any (x a b lo hi : Int) (w : World) :
    Calls Try.prog 80 #[.agg #[.int .i64 x, .int .i64 a, .int .i64 b], .int .i64 lo, .int .i64 hi] w fun e w' => e = .returned (.bool (hdB a b lo hi)) ∧ Below w.heap.size w w' := by
  have hb := (Below.refl w.heap.size w).alloc (Nat.le_refl _) (.cells #[.int .i64 x, .int .i64 a, .int .i64 b] 69)
  unfold hdB
  by_cases h1 : lo < hi
  · by_cases h2 : a < hi
    · go_enter Try.func80, Try.ntmps80
      go_wp2_with fail
      go_ret
      exact ⟨by first | (simp [h1, h2]; done) | (simp; omega), hb⟩
    · go_enter Try.func80, Try.ntmps80
      go_wp2_with fail
      go_ret
      exact ⟨by first | (simp [h1, h2]; done) | (simp; omega), hb⟩
  · go_enter Try.func80, Try.ntmps80
    go_wp2_with fail
    go_ret
    exact ⟨by first | (simp [h1]; done) | (simp; omega), hb⟩
/-- Is a post hidden at x metres? -/
def hidX (c d s x : Int) (z : Sw) : Prop := z.1 = s ∧ z.2.1 < max (c - d * x) c ∧ min (c - d * x) c < z.2.2
theorem hidX_iff {c d s x : Int} {z : Sw} (hd : d = 1 ∨ d = -1) (hx : 1 ≤ x) (hz : z.2.1 ≤ z.2.2) : hidX c d s x z ↔ hidP c d s z ∧ max (frN c d z.2.1 z.2.2) 0 < x := by
  unfold hidX hidP frN frE
  rcases hd with rfl | rfl <;> constructor <;> intro h <;> refine ⟨?_, ?_⟩ <;> (try refine ⟨h.1, ?_⟩) <;> (try exact h.1.1) <;> omega
theorem sgK_iff {c d s far : Int} {l : List Sw} (hd : d = 1 ∨ d = -1) {x : Int} (hx : 1 ≤ x) (hz : ∀ j, j < l.length → (gw l j).2.1 ≤ (gw l j).2.2) : ∀ k, k ≤ l.length → (x ≤ sgK c d s far l k ↔ x ≤ sg0 c d far ∧ ∀ j, j < k → ¬ hidX c d s x (gw l j))
  | 0, _ => by rw [sgK]; exact ⟨fun h => ⟨h, fun j hj => absurd hj (Nat.not_lt_zero _)⟩, fun h => h.1⟩
  | k + 1, hk => by
    have h0 := sgK_iff (c := c) (s := s) (far := far) hd hx hz k (by omega)
    have h1 := hidX_iff (c := c) (s := s) hd hx (hz k (by omega))
    have h2 : (x ≤ sgK c d s far l (k + 1)) ↔ x ≤ sgK c d s far l k ∧ ¬ hidX c d s x (gw l k) := by
      rw [h1]
      by_cases h : (gw l k).1 = s ∧ 0 < frE c d (gw l k).2.1 (gw l k).2.2
      · rw [(sgK_next c d s far l k).1 h]
        have hp : hidP c d s (gw l k) := h
        constructor
        · intro g; exact ⟨by omega, fun e => by omega⟩
        · intro g
          have : ¬ max (frN c d (gw l k).2.1 (gw l k).2.2) 0 < x := fun e => g.2 ⟨hp, e⟩
          omega
      · rw [(sgK_next c d s far l k).2 h]
        exact ⟨fun g => ⟨g, fun e => h e.1⟩, fun g => g.1⟩
    rw [h2, h0]
    constructor
    · rintro ⟨⟨g1, g2⟩, g3⟩
      refine ⟨g1, fun j hj => ?_⟩
      by_cases e : j = k
      · subst e; exact g3
      · exact g2 j (by omega)
    · rintro ⟨g1, g2⟩
      exact ⟨⟨g1, fun j hj => g2 j (by omega)⟩, g2 k (by omega)⟩
theorem refSight_no (n c d s far : Int) (aw : Option Addr) (l : List Sw) (cw : Nat) (w : World) (hp : postB c d s = false) :
    Calls Try.prog 46 #[.agg #[.int .i64 n, .int .i64 c, .int .i64 d, .int .i64 s], .slice aw l.length cw, .int .i64 far] w fun e w' => e = .returned (.tuple #[.int .i64 (0), .int .i64 2]) ∧ Below w.heap.size w w' := by
  have HP := Lib.hid (fun W => hp ▸ refPost_any n c d s W)
  have H1 := HP
  have H3 := HP
  clear hp
  go_enter Try.func46, Try.ntmps46
  go_wp2_with fail
  obtain ⟨wB, hwB⟩ : ∃ wB, w.alloc (.cells #[.int .i64 n, .int .i64 c, .int .i64 d, .int .i64 s] 64) = wB := ⟨_, rfl⟩
  have hb : Below w.heap.size w wB := by rw [← hwB]; exact (Below.refl _ _).alloc (Nat.le_refl _) _
  have p0 : wB.cell? ⟨w.heap.size, 0, none⟩ = some (.int .i64 n) := by rw [← hwB]; simp [go_sem]
  have p1 : wB.cell? ⟨w.heap.size, 1, none⟩ = some (.int .i64 c) := by rw [← hwB]; simp [go_sem]
  have p2 : wB.cell? ⟨w.heap.size, 2, none⟩ = some (.int .i64 d) := by rw [← hwB]; simp [go_sem]
  have p3 : wB.cell? ⟨w.heap.size, 3, none⟩ = some (.int .i64 s) := by rw [← hwB]; simp [go_sem]
  rw [hwB]
  clear hwB
  refine (HP.out _).mono ?_
  rintro e wo ⟨rfl, hb1⟩
  have p0 := cell_below p0 hb1
  have p1 := cell_below p1 hb1
  have p2 := cell_below p2 hb1
  have p3 := cell_below p3 hb1
  have hbo := below_on hb hb1
  clear hb1
  go_wp2_with fail

  go_ret2
  exact ⟨rfl, hbo⟩
theorem refSight_far (n c d s far : Int) (aw : Option Addr) (l : List Sw) (cw : Nat) (w : World) (hp : postB c d s = true) (hf : btw far 0 10000 = false) :
    Calls Try.prog 46 #[.agg #[.int .i64 n, .int .i64 c, .int .i64 d, .int .i64 s], .slice aw l.length cw, .int .i64 far] w fun e w' => e = .returned (.tuple #[.int .i64 (0), .int .i64 2]) ∧ Below w.heap.size w w' := by
  have HP := Lib.hid (fun W => hp ▸ refPost_any n c d s W)
  have H1 := Lib.hid hf
  have H3 := H1
  clear hp hf
  go_enter Try.func46, Try.ntmps46
  go_wp2_with fail
  obtain ⟨wB, hwB⟩ : ∃ wB, w.alloc (.cells #[.int .i64 n, .int .i64 c, .int .i64 d, .int .i64 s] 64) = wB := ⟨_, rfl⟩
  have hb : Below w.heap.size w wB := by rw [← hwB]; exact (Below.refl _ _).alloc (Nat.le_refl _) _
  have p0 : wB.cell? ⟨w.heap.size, 0, none⟩ = some (.int .i64 n) := by rw [← hwB]; simp [go_sem]
  have p1 : wB.cell? ⟨w.heap.size, 1, none⟩ = some (.int .i64 c) := by rw [← hwB]; simp [go_sem]
  have p2 : wB.cell? ⟨w.heap.size, 2, none⟩ = some (.int .i64 d) := by rw [← hwB]; simp [go_sem]
  have p3 : wB.cell? ⟨w.heap.size, 3, none⟩ = some (.int .i64 s) := by rw [← hwB]; simp [go_sem]
  rw [hwB]
  clear hwB
  refine (HP.out _).mono ?_
  rintro e wo ⟨rfl, hb1⟩
  have p0 := cell_below p0 hb1
  have p1 := cell_below p1 hb1
  have p2 := cell_below p2 hb1
  have p3 := cell_below p3 hb1
  have hbo := below_on hb hb1
  clear hb1
  go_wp2_with (go_at_call 53; refine (from_any _ _ _ _).mono ?_; rintro e w' ⟨rfl, rfl⟩; first | rw [H1.out] | rw [H3.out])

  go_ret2
  exact ⟨rfl, hbo⟩
set_option maxRecDepth 100000 in
set_option maxHeartbeats 1000000 in
theorem refSight_bad (n c d s far : Int) (aw : Option Addr) (l : List Sw) (cw : Nat) (w : World) (hf : 0 ≤ far ∧ far ≤ 10000) (hl : l.length ≤ 200) (hT : TripS w aw l) (hp : postB c d s = true) (ha : wrB l = true) :
    Calls Try.prog 46 #[.agg #[.int .i64 n, .int .i64 c, .int .i64 d, .int .i64 s], .slice aw l.length cw, .int .i64 far] w fun e w' => e = .returned (.tuple #[.int .i64 (0), .int .i64 2]) ∧ Below w.heap.size w w' := by
  have HP := Lib.hid (fun W => hp ▸ refPost_any n c d s W)
  have HNo : Hid (¬ ∀ q, q < l.length → wallB (gw l q) = true) := Lib.hid (fun h => by
    have : wrB l = false := (anyK_iff _).2 fun j hj => by rw [h j hj]; rfl
    rw [this] at ha; cases ha)
  have H1 := Lib.hid (btw_t hf.1 hf.2)
  have H3 := H1
  have hl2 : (l.length : Int) ≤ 200 := by omega
  obtain ⟨hlen, -, blk, off, hadr, hcs⟩ := hT
  have HC := Lib.hid hcs
  have HL : Hid (0 < l.length → aw = some ⟨blk, off, none⟩) := Lib.hid fun h => hadr (pos_ne (n := 0) h)
  clear hcs hadr hlen

  clear hp ha hf hl
  go_enter Try.func46, Try.ntmps46
  go_wp2_with fail
  obtain ⟨wB, hwB⟩ : ∃ wB, w.alloc (.cells #[.int .i64 n, .int .i64 c, .int .i64 d, .int .i64 s] 64) = wB := ⟨_, rfl⟩
  have hb : Below w.heap.size w wB := by rw [← hwB]; exact (Below.refl _ _).alloc (Nat.le_refl _) _
  have p0 : wB.cell? ⟨w.heap.size, 0, none⟩ = some (.int .i64 n) := by rw [← hwB]; simp [go_sem]
  have p1 : wB.cell? ⟨w.heap.size, 1, none⟩ = some (.int .i64 c) := by rw [← hwB]; simp [go_sem]
  have p2 : wB.cell? ⟨w.heap.size, 2, none⟩ = some (.int .i64 d) := by rw [← hwB]; simp [go_sem]
  have p3 : wB.cell? ⟨w.heap.size, 3, none⟩ = some (.int .i64 s) := by rw [← hwB]; simp [go_sem]
  rw [hwB]
  clear hwB
  refine (HP.out _).mono ?_
  rintro e wo ⟨rfl, hb1⟩
  have p0 := cell_below p0 hb1
  have p1 := cell_below p1 hb1
  have p2 := cell_below p2 hb1
  have p3 := cell_below p3 hb1
  have hbo := below_on hb hb1
  clear hb1
  go_wp2_with (go_at_call 53; refine (from_any _ _ _ _).mono ?_; rintro e w' ⟨rfl, rfl⟩; first | rw [H1.out] | rw [H3.out])
  go_loopw [8] (fun i wr => ∃ j : Nat, j ≤ l.length ∧ i = .int .i64 j ∧ Below wo.heap.size wo wr ∧ Hid (∀ q, q < j → wallB (gw l q) = true)) (fun i _ => l.length - (intOf i).toNat)
  case atStart => exact ⟨0, Nat.zero_le _, rfl, Below.refl _ _, Lib.hid fun q hq => absurd hq (Nat.not_lt_zero _)⟩
  case round =>
    obtain ⟨j, hj, rfl, hbr, HVs⟩ := hrel
    by_cases hlt : j < l.length
    · obtain rfl := HL.out (by omega)
      obtain ⟨e0, e1, e2⟩ := HC.out j hlt
      have e0 := cell_below e0 (below_on hbo hbr)
      have e1 := cell_below e1 (below_on hbo hbr)
      have e2 := cell_below e2 (below_on hbo hbr)
      have HN : Hid (wallB (gw l j) = true → ∀ q, q < j + 1 → wallB (gw l q) = true) := Lib.hid (fun h q hq => by
        by_cases e : q = j
        · subst e; exact h
        · exact HVs.out q (by omega))
      have HV := HVs
      have HB : Hid (btw (gw l j).1 0 1 = true → 0 ≤ (gw l j).2.1 → (gw l j).2.1 ≤ (gw l j).2.2 → (gw l j).2.2 ≤ 10000000 → wallB (gw l j) = true) := Lib.hid (fun h1 h2 h3 h4 => by
        rw [sd_btw] at h1
        simp only [wallB, h1, Bool.true_and, Bool.and_eq_true, btw_iff, decide_eq_true_eq]
        omega)
      have hk1 : j + 1 ≤ l.length := by omega
      have hmeas : l.length - (j + 1) < l.length - j := by omega
      have HV0 := HV
      have hbA := (below_on hbo hbr).alloc (below_on hbo hbr).size (.cells #[.int .i64 (gw l j).1, .int .i64 (gw l j).2.1, .int .i64 (gw l j).2.2] 69)
      have hbr2 := hbr.alloc hbr.size (.cells #[.int .i64 (gw l j).1, .int .i64 (gw l j).2.1, .int .i64 (gw l j).2.2] 69)
      have hn := HN.out
      have HN := Lib.hid (fun h1 h2 h3 h4 => hn (HB.out h1 h2 h3 h4))
      clear hn HB HVs HV HV0
      generalize (gw l j).1 = x at *
      generalize (gw l j).2.1 = a at *
      generalize (gw l j).2.2 = b at *
      cases hs : btw x 0 1 with
      | false =>
        have HS := Lib.hid hs
        clear hs HN
        go_wp2_with (go_at_call 53; refine (from_any _ _ _ _).mono ?_; rintro e w' ⟨rfl, rfl⟩; rw [HS.out])
        go_ret2
        exact ⟨rfl, hbA⟩

      | true =>
        have HS := Lib.hid hs
        by_cases ha : a < 0
        · clear hs HN
          go_wp2_with (go_at_call 53; refine (from_any _ _ _ _).mono ?_; rintro e w' ⟨rfl, rfl⟩; rw [HS.out])
          go_ret2
          exact ⟨rfl, hbA⟩

        · by_cases hab : b < a
          · clear hs HN
            go_wp2_with (go_at_call 53; refine (from_any _ _ _ _).mono ?_; rintro e w' ⟨rfl, rfl⟩; rw [HS.out])
            go_ret2
            exact ⟨rfl, hbA⟩

          · by_cases hbb : 10000000 < b
            · clear hs HN
              go_wp2_with (go_at_call 53; refine (from_any _ _ _ _).mono ?_; rintro e w' ⟨rfl, rfl⟩; rw [HS.out])
              go_ret2
              exact ⟨rfl, hbA⟩

            · have HN := Lib.hid (HN.out hs (by omega) (by omega) (by omega))
              clear hs
              go_wp2_with (go_at_call 53; refine (from_any _ _ _ _).mono ?_; rintro e w' ⟨rfl, rfl⟩; rw [HS.out])
              go_roundw
              case rel => exact ⟨j + 1, hk1, by go_num, hbr2, HN⟩
              case measure => first | (simp [intOf]; exact hmeas) | simpa [intOf] using hmeas
    · obtain rfl : j = l.length := by omega
      exact absurd HVs.out HNo.out

end Go.Proofs.Ytacmeadmmjehmaa
