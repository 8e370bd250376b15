/-
  The law RoadWalls: it answers true. By an AI agent.
-/
import Derived.Test.YtacmeadmmjehmaaRoadSi
import Derived.Test.YtacmeadmmjehmaaRoadAw
import Derived.StillTailTactics
namespace Go.Proofs.Ytacmeadmmjehmaa
set_option linter.unusedVariables false
set_option linter.unusedSimpArgs false
open Go.RowKit

theorem gw_take {l : List Sw} {m j : Nat} (hj : j < m) : gw (l.take m) j = gw l j := by simp [gw, List.getD, List.getElem?_take, hj]
theorem TripS.take {w : World} {a : Option Addr} {l : List Sw} (h : TripS w a l) (m : Nat) : TripS w a (l.take m) := by
  obtain ⟨h0, h1, blk, off, h2, h3⟩ := h
  have hm : ∀ i, i < (l.take m).length → i < l.length ∧ i < m := fun i hi => by simp at hi; omega
  refine ⟨by simp; omega, fun i hi => ?_, blk, off, fun hn => h2 (by rintro rfl; simp at hn), fun i hi => ?_⟩
  · rw [gw_take (hm i hi).2]; exact h1 i (hm i hi).1
  · rw [gw_take (hm i hi).2]; exact h3 i (hm i hi).1
theorem sgK_mono (c d s far : Int) (l : List Sw) (k : Nat) : sgK c d s far l (k + 1) ≤ sgK c d s far l k := by
  by_cases h : (gw l k).1 = s ∧ 0 < frE c d (gw l k).2.1 (gw l k).2.2
  · rw [(sgK_next c d s far l k).1 h]; omega
  · rw [(sgK_next c d s far l k).2 h]; omega
theorem sgK_nn {c d s far : Int} (l : List Sw) (hf : 0 ≤ far) (hc : 0 ≤ c) : ∀ k, 0 ≤ sgK c d s far l k
  | 0 => by rw [sgK, sg0]; split <;> omega
  | k + 1 => by
    have h0 := sgK_nn l hf hc k (d := d) (s := s)
    by_cases h : (gw l k).1 = s ∧ 0 < frE c d (gw l k).2.1 (gw l k).2.2
    · rw [(sgK_next c d s far l k).1 h]; omega
    · rw [(sgK_next c d s far l k).2 h]; exact h0
theorem sgK_le (c d s far : Int) (l : List Sw) : ∀ k, sgK c d s far l k ≤ far
  | 0 => by rw [sgK, sg0]; split <;> omega
  | k + 1 => Int.le_trans (sgK_mono c d s far l k) (sgK_le c d s far l k)
theorem sgK_none {c d s far : Int} {l : List Sw} : ∀ k, (∀ j, j < k → ¬ hidP c d s (gw l j)) → sgK c d s far l k = sg0 c d far
  | 0, _ => rfl
  | k + 1, h => by rw [(sgK_next c d s far l k).2 (h k (by omega))]; exact sgK_none k fun j hj => h j (by omega)
theorem sgK_take {c d s far : Int} {l : List Sw} {m : Nat} : ∀ k, k ≤ m → sgK c d s far (l.take m) k = sgK c d s far l k
  | 0, _ => rfl
  | k + 1, h => by
    have h0 := sgK_take (c := c) (d := d) (s := s) (far := far) (l := l) (m := m) k (by omega)
    rw [sgK, sgK, h0, gw_take (by omega)]
theorem wrB_take {l : List Sw} (h : wrB l = false) (m : Nat) : wrB (l.take m) = false := by
  refine (anyK_iff _).2 fun j hj => ?_
  have hj2 : j < l.length ∧ j < m := by simp at hj; omega
  have := (anyK_iff _).1 h j hj2.1
  rw [gw_take hj2.2]; exact this
theorem sight_some (n c d s far : Int) (aw : Option Addr) (l : List Sw) (cw : Nat) (hf : 0 ≤ far ∧ far ≤ 10000) (hl : l.length ≤ 200) :
    ∃ X E : Int, ((E = 0 ∧ (d = 1 ∨ d = -1) ∧ postB c d s = true ∧ wrB l = false ∧ X = sgK c d s far l l.length) ∨ (E = 2 ∧ X = 0 ∧ ¬ (postB c d s = true ∧ wrB l = false))) ∧ ∀ W, TripS W aw l → Calls Try.prog 45 #[.agg #[.int .i64 n, .int .i64 c, .int .i64 d, .int .i64 s], .slice aw l.length cw, .int .i64 far] W fun e w' => e = .returned (.tuple #[.int .i64 X, .int .i64 E]) ∧ Below W.heap.size W w' := by
  cases hp : postB c d s with
  | false => exact ⟨0, 2, .inr ⟨rfl, rfl, by simp [hp]⟩, fun W _ => Sight_no n c d s far aw l cw W hp⟩
  | true =>
    have hd : d = 1 ∨ d = -1 := by
      have := hp
      simp only [postB, Bool.and_eq_true] at this
      exact dirB_c this.1.2
    cases ha : wrB l with
    | true => rcases hd with rfl | rfl
              · exact ⟨0, 2, .inr ⟨rfl, rfl, by simp [ha]⟩, fun W hT => Sight_bad1 n c s far aw l cw W hf hl hT hp ha⟩
              · exact ⟨0, 2, .inr ⟨rfl, rfl, by simp [ha]⟩, fun W hT => Sight_badm n c s far aw l cw W hf hl hT hp ha⟩
    | false => rcases hd with rfl | rfl
               · exact ⟨_, 0, .inl ⟨rfl, .inl rfl, rfl, rfl, rfl⟩, fun W hT => Sight_1 n c s far aw l cw W hf hl hT hp ha⟩
               · exact ⟨_, 0, .inl ⟨rfl, .inr rfl, rfl, rfl, rfl⟩, fun W hT => Sight_m n c s far aw l cw W hf hl hT hp ha⟩
set_option maxRecDepth 100000 in
set_option maxHeartbeats 2000000 in
theorem roadWalls_any (n c d s : Int) (aw : Option Addr) (l : List Sw) (cw : Nat) (u : Int) (w : World) (hT : TripS w aw l) (hcw : l.length ≤ cw) (hu : 0 ≤ u ∧ u ≤ 65535) :
    Calls Try.prog 14 #[.agg #[.int .i64 n, .int .i64 c, .int .i64 d, .int .i64 s], .slice aw l.length cw, .int .u16 u] w fun e w' => e = .returned (.bool true) ∧ Below w.heap.size w w' := by
  have HA := Lib.hid awake_any
  obtain ⟨u0, u1⟩ := hu
  have hb0 := (Below.refl w.heap.size w).alloc (Nat.le_refl _) (.cells #[.int .i64 n, .int .i64 c, .int .i64 d, .int .i64 s] 64)
  by_cases hl0 : l.length = 0
  · rw [hl0]
    clear hcw hT hl0
    go_enter Try.func14, Try.ntmps14
    go_wp2_with fail
    have hb := hb0
    refine (HA.out _).mono ?_
    rintro e w3 ⟨rfl, hb3⟩
    go_wp2_with fail
    go_ret
    exact ⟨rfl, below_on hb hb3⟩

  · by_cases hl1 : 20 < l.length
    · have e0 : ((l.length : Int) == 0) = false := by simp; rintro rfl; simp at hl0
      have e1 : 20 < (l.length : Int) := by omega
      clear hcw hT hl0 hl1
      go_enter Try.func14, Try.ntmps14
      go_wp2_with fail
      have hb := hb0
      refine (HA.out _).mono ?_
      rintro e w3 ⟨rfl, hb3⟩
      go_wp2_with fail
      go_ret
      exact ⟨rfl, below_on hb hb3⟩

    · clear hb0
      have hf : 0 ≤ u % 10001 ∧ u % 10001 ≤ 10000 := by omega
      obtain ⟨f, hff⟩ : ∃ f, u % 10001 = f := ⟨_, rfl⟩
      rw [hff] at hf
      obtain ⟨X, E, hXE, hS1⟩ := sight_some n c d s f aw l cw hf (by omega)
      obtain ⟨k, hk⟩ : ∃ k, l.length = k + 1 := ⟨l.length - 1, by omega⟩
      obtain ⟨Y, E2, hYE, hS2⟩ := sight_some n c d s f aw (l.take k) k hf (by simp; omega)
      have hlk : (l.take k).length = k := by simp; omega
      rw [hlk] at hS2
      have hT0 := hT
      obtain ⟨hlen, -, blk, off, hadr, hcs⟩ := hT
      obtain rfl := hadr (by rintro rfl; simp at hk)
      have HC := Lib.hid hcs
      have H1 := Lib.hid (fun W (hW : Below w.heap.size w W) => hS1 W (hT0.below hW))
      have H2 := Lib.hid (fun W (hW : Below w.heap.size w W) => hS2 W ((hT0.take k).below hW))
      clear hS1 hS2 hcs hadr hlen hT0
      obtain ⟨m, hm⟩ : ∃ m, l.length = m := ⟨_, rfl⟩
      rw [hm] at hk H1 HC hcw hl0 hl1 ⊢
      have em : (m : Int) - 1 = (k : Int) := by omega
      have m0 : ((m : Int) == 0) = false := by simp; omega
      have m1 : ¬ (20 < (m : Int)) := by omega
      have k0 : (0 : Int) ≤ (k : Int) := by omega
      have kc : (k : Int) ≤ (cw : Int) := by omega
      have kc' : k ≤ cw := by omega
      have wk : IntKind.i64.wrap (k : Int) = (k : Int) := IntWalk.i64_in _ (by omega)
      have kmx : (k : Int) ≤ max (k : Int) 0 := by omega
      rcases hXE with ⟨rfl, hd, hp, ha, hX⟩ | ⟨rfl, rfl, -⟩
      · have hE2 : E2 = 0 ∧ Y = sgK c d s f l k := by
          rcases hYE with ⟨g1, -, -, -, g5⟩ | ⟨g1, g2⟩
          · rw [hlk, sgK_take k (Nat.le_refl k)] at g5
            exact ⟨g1, g5⟩
          · exact absurd ⟨hp, wrB_take ha k⟩ g2.2
        obtain ⟨rfl, rfl⟩ := hE2
        rw [hm, hk] at hX
        subst hX
        clear hYE hlk
        rcases hd with rfl | rfl
        · have hc0 : 0 ≤ c ∧ c ≤ 10000000 := by
            have := hp
            simp only [postB, Bool.and_eq_true, btw_iff] at this
            exact this.1.1
          have HWl := Lib.hid (wrB_ok ha)
          rw [hm] at HWl
          have hXY := sgK_mono c 1 s f l k
          have hX0 := sgK_nn (c := c) (d := 1) (s := s) l hf.1 hc0.1 (k + 1)
          have hYf := sgK_le c 1 s f l k
          have HXM : Hid ((∀ q, q < m → ¬ hidP c 1 s (gw l q)) → sgK c 1 s f l (k + 1) = sg0 c 1 f ∧ sgK c 1 s f l k = sg0 c 1 f) := Lib.hid (fun h => ⟨sgK_none _ fun q hq => h q (by omega), sgK_none _ fun q hq => h q (by omega)⟩)
          obtain ⟨X, hX⟩ : ∃ X, sgK c 1 s f l (k + 1) = X := ⟨_, rfl⟩
          obtain ⟨Y, hY⟩ : ∃ Y, sgK c 1 s f l k = Y := ⟨_, rfl⟩
          rw [hX, hY] at HXM
          rw [hX] at hX0 hXY H1
          rw [hY] at hYf hXY H2
          obtain ⟨hc0, hc1⟩ := hc0
          obtain ⟨f0, f1⟩ := hf
          clear hX hY hp ha hk hm hl0 hl1 hcw
          rw [show sg0 c 1 f = min f c from if_pos rfl] at HXM
          obtain ⟨M, hM⟩ : ∃ M, min f c = M := ⟨_, rfl⟩
          rw [hM] at HXM
          go_enter Try.func14, Try.ntmps14
          go_wp2_with fail
          obtain ⟨wB, hwB⟩ : ∃ wB, w.alloc (.cells #[.int .i64 n, .int .i64 c, .int .i64 1, .int .i64 s] 64) = wB := ⟨_, rfl⟩
          have hb : Below w.heap.size w wB := by rw [← hwB]; exact (Below.refl _ _).alloc (Nat.le_refl _) _
          have p0 : wB.cell? ⟨w.heap.size, 0, none⟩ = some (.int .i64 n) := by rw [← hwB]; simp [go_sem]
          have p1 : wB.cell? ⟨w.heap.size, 1, none⟩ = some (.int .i64 c) := by rw [← hwB]; simp [go_sem]
          have p2 : wB.cell? ⟨w.heap.size, 2, none⟩ = some (.int .i64 1) := by rw [← hwB]; simp [go_sem]
          have p3 : wB.cell? ⟨w.heap.size, 3, none⟩ = some (.int .i64 s) := by rw [← hwB]; simp [go_sem]
          rw [hwB]
          clear hwB
          refine (H1.out _ hb).mono ?_
          rintro e w1 ⟨rfl, hb1⟩
          have p0 := cell_below p0 hb1
          have p1 := cell_below p1 hb1
          have p2 := cell_below p2 hb1
          have p3 := cell_below p3 hb1
          have hb := below_on hb hb1
          clear hb1
          go_wp2_with fail
          have hz := block_lt p0
          go_region_held3 (fun w' => w'.cell? ⟨w.heap.size, 0, none⟩ = some (.int .i64 n) ∧ w'.cell? ⟨w.heap.size, 1, none⟩ = some (.int .i64 c) ∧ w'.cell? ⟨w.heap.size, 2, none⟩ = some (.int .i64 1) ∧ w'.cell? ⟨w.heap.size, 3, none⟩ = some (.int .i64 s)) (go_keep)
            (first
              | (go_at_call 45
                 refine (H2.out _ (by first | exact hb.drew | exact hb | exact hb.drew.drew | exact below_drewN hb _ | exact below_drewN hb.drew _)).mono ?_
                 rintro E w9 ⟨rfl, hb9⟩
                 have p0 := (hb9.cell (p := ⟨w.heap.size, 0, none⟩) hz).trans p0
                 have p1 := (hb9.cell (p := ⟨w.heap.size, 1, none⟩) hz).trans p1
                 have p2 := (hb9.cell (p := ⟨w.heap.size, 2, none⟩) hz).trans p2
                 have p3 := (hb9.cell (p := ⟨w.heap.size, 3, none⟩) hz).trans p3
                 have hb : Below w.heap.size w w9 := by first | exact (hb.drew).trans (hb9.mono hb.size) | exact hb.trans (hb9.mono hb.size)))
          obtain ⟨wo, rfl⟩ : ∃ wo : World, wo = w9 := ⟨_, rfl⟩
          clear H1 H2 hz
          go_wp2_with fail
          have hbo := hb
          clear hb
          go_loopw [13] (fun i wr => ∃ j : Nat, j ≤ m ∧ i = .int .i64 j ∧ Below wo.heap.size wo wr ∧ Hid (∀ q, q < j → ¬ hidP c 1 s (gw l q))) (fun i _ => m - (intOf i).toNat)
          case atStart => exact ⟨0, Nat.zero_le _, rfl, Below.refl _ _, Lib.hid fun q hq => absurd hq (Nat.not_lt_zero _)⟩
          case round =>
            obtain ⟨j, hj, rfl, hbr, HNo⟩ := hrel
            by_cases hlt : j < m
            · obtain ⟨e0, e1, e2⟩ := HC.out j hlt
              have e0 := cell_below e0 (below_on hbo hbr)
              have e1 := cell_below e1 (below_on hbo hbr)
              have e2 := cell_below e2 (below_on hbo hbr)
              have p0 := cell_below p0 hbr
              have p1 := cell_below p1 hbr
              have p2 := cell_below p2 hbr
              have p3 := cell_below p3 hbr
              have hw := HWl.out j hlt
              have HQ : Hid (¬ ((gw l j).1 = s ∧ (gw l j).2.1 < c) → ∀ q, q < j + 1 → ¬ hidP c 1 s (gw l q)) := Lib.hid (fun hno q hq => by
                by_cases e : q = j
                · subst e
                  rintro ⟨g1, g2⟩
                  unfold frE at g2
                  exact hno ⟨g1, by omega⟩
                · exact HNo.out q (by omega))
              clear hw HC HWl HNo HXM
              generalize (gw l j).1 = x at *
              generalize (gw l j).2.1 = a at *
              generalize (gw l j).2.2 = b at *
              have hk1 : j + 1 ≤ m := by omega
              have hmeas : m - (j + 1) < m - j := by omega
              have z1 := block_lt p0
              have n1' : w.heap.size ≠ wr.heap.size := by omega
              have qb : ∀ c o, (wr.alloc (.cells c 69)).cell? ⟨w.heap.size, o, none⟩ = wr.cell? ⟨w.heap.size, o, none⟩ := fun c o => ((Below.refl _ _).alloc (Nat.le_refl _) _ : Below wr.heap.size wr (wr.alloc (.cells c 69))).cell (p := ⟨w.heap.size, o, none⟩) z1
              have hb := (below_on hbo hbr).alloc (by have := (below_on hbo hbr).size; exact this) (.cells #[.int .i64 x, .int .i64 a, .int .i64 b] 69)
              have hbr2 := hbr.alloc hbr.size (.cells #[.int .i64 x, .int .i64 a, .int .i64 b] 69)
              by_cases hxs : x = s
              · subst hxs
                by_cases hg : a < c
                · go_wp2_with fail
                  refine (HA.out _).mono ?_
                  rintro e w3 ⟨rfl, hb3⟩
                  go_wp2_with fail
                  go_ret
                  exact ⟨rfl, below_on hb hb3⟩

                · have HQ2 := Lib.hid (HQ.out (fun h => hg h.2))
                  go_wp2_with fail
                  go_roundw
                  case rel => exact ⟨j + 1, hk1, by go_num, hbr2, HQ2⟩
                  case measure => first | (simp [intOf]; exact hmeas) | simpa [intOf] using hmeas
              · have HQ2 := Lib.hid (HQ.out (fun h => hxs h.1))
                have exs : (x == s) = false := by simpa using hxs
                clear hxs
                go_wp2_with fail
                go_roundw
                case rel => exact ⟨j + 1, hk1, by go_num, hbr2, HQ2⟩
                case measure => first | (simp [intOf]; exact hmeas) | simpa [intOf] using hmeas
            · obtain rfl : j = m := by omega
              obtain ⟨hX, hY⟩ := HXM.out HNo.out
              have ex1 : (X == M) = true := by simpa using hX
              have ex2 : (Y == M) = true := by simpa using hY
              clear HC HWl HXM HNo hX hY
              have hb := below_on hbo hbr
              go_wp2_with fail
              refine (HA.out _).mono ?_
              rintro e w3 ⟨rfl, hb3⟩
              go_wp2_with fail
              go_ret
              exact ⟨rfl, below_on hb hb3⟩
        · have hc0 : 0 ≤ c ∧ c ≤ 10000000 := by
            have := hp
            simp only [postB, Bool.and_eq_true, btw_iff] at this
            exact this.1.1
          have HWl := Lib.hid (wrB_ok ha)
          rw [hm] at HWl
          have hXY := sgK_mono c (-1) s f l k
          have hX0 := sgK_nn (c := c) (d := (-1)) (s := s) l hf.1 hc0.1 (k + 1)
          have hYf := sgK_le c (-1) s f l k
          have HXM : Hid ((∀ q, q < m → ¬ hidP c (-1) s (gw l q)) → sgK c (-1) s f l (k + 1) = sg0 c (-1) f ∧ sgK c (-1) s f l k = sg0 c (-1) f) := Lib.hid (fun h => ⟨sgK_none _ fun q hq => h q (by omega), sgK_none _ fun q hq => h q (by omega)⟩)
          obtain ⟨X, hX⟩ : ∃ X, sgK c (-1) s f l (k + 1) = X := ⟨_, rfl⟩
          obtain ⟨Y, hY⟩ : ∃ Y, sgK c (-1) s f l k = Y := ⟨_, rfl⟩
          rw [hX, hY] at HXM
          rw [hX] at hX0 hXY H1
          rw [hY] at hYf hXY H2
          obtain ⟨hc0, hc1⟩ := hc0
          obtain ⟨f0, f1⟩ := hf
          clear hX hY hp ha hk hm hl0 hl1 hcw
          rw [show sg0 c (-1) f = f from if_neg (by decide)] at HXM
          go_enter Try.func14, Try.ntmps14
          go_wp2_with fail
          obtain ⟨wB, hwB⟩ : ∃ wB, w.alloc (.cells #[.int .i64 n, .int .i64 c, .int .i64 (-1), .int .i64 s] 64) = wB := ⟨_, rfl⟩
          have hb : Below w.heap.size w wB := by rw [← hwB]; exact (Below.refl _ _).alloc (Nat.le_refl _) _
          have p0 : wB.cell? ⟨w.heap.size, 0, none⟩ = some (.int .i64 n) := by rw [← hwB]; simp [go_sem]
          have p1 : wB.cell? ⟨w.heap.size, 1, none⟩ = some (.int .i64 c) := by rw [← hwB]; simp [go_sem]
          have p2 : wB.cell? ⟨w.heap.size, 2, none⟩ = some (.int .i64 (-1)) := by rw [← hwB]; simp [go_sem]
          have p3 : wB.cell? ⟨w.heap.size, 3, none⟩ = some (.int .i64 s) := by rw [← hwB]; simp [go_sem]
          rw [hwB]
          clear hwB
          refine (H1.out _ hb).mono ?_
          rintro e w1 ⟨rfl, hb1⟩
          have p0 := cell_below p0 hb1
          have p1 := cell_below p1 hb1
          have p2 := cell_below p2 hb1
          have p3 := cell_below p3 hb1
          have hb := below_on hb hb1
          clear hb1
          go_wp2_with fail
          have hz := block_lt p0
          go_region_held3 (fun w' => w'.cell? ⟨w.heap.size, 0, none⟩ = some (.int .i64 n) ∧ w'.cell? ⟨w.heap.size, 1, none⟩ = some (.int .i64 c) ∧ w'.cell? ⟨w.heap.size, 2, none⟩ = some (.int .i64 (-1)) ∧ w'.cell? ⟨w.heap.size, 3, none⟩ = some (.int .i64 s)) (go_keep)
            (first
              | (go_at_call 45
                 refine (H2.out _ (by first | exact hb.drew | exact hb | exact hb.drew.drew | exact below_drewN hb _ | exact below_drewN hb.drew _)).mono ?_
                 rintro E w9 ⟨rfl, hb9⟩
                 have p0 := (hb9.cell (p := ⟨w.heap.size, 0, none⟩) hz).trans p0
                 have p1 := (hb9.cell (p := ⟨w.heap.size, 1, none⟩) hz).trans p1
                 have p2 := (hb9.cell (p := ⟨w.heap.size, 2, none⟩) hz).trans p2
                 have p3 := (hb9.cell (p := ⟨w.heap.size, 3, none⟩) hz).trans p3
                 have hb : Below w.heap.size w w9 := by first | exact (hb.drew).trans (hb9.mono hb.size) | exact hb.trans (hb9.mono hb.size)))
          obtain ⟨wo, rfl⟩ : ∃ wo : World, wo = w9 := ⟨_, rfl⟩
          clear H1 H2 hz
          go_wp2_with fail
          have hbo := hb
          clear hb
          go_loopw [13] (fun i wr => ∃ j : Nat, j ≤ m ∧ i = .int .i64 j ∧ Below wo.heap.size wo wr ∧ Hid (∀ q, q < j → ¬ hidP c (-1) s (gw l q))) (fun i _ => m - (intOf i).toNat)
          case atStart => exact ⟨0, Nat.zero_le _, rfl, Below.refl _ _, Lib.hid fun q hq => absurd hq (Nat.not_lt_zero _)⟩
          case round =>
            obtain ⟨j, hj, rfl, hbr, HNo⟩ := hrel
            by_cases hlt : j < m
            · obtain ⟨e0, e1, e2⟩ := HC.out j hlt
              have e0 := cell_below e0 (below_on hbo hbr)
              have e1 := cell_below e1 (below_on hbo hbr)
              have e2 := cell_below e2 (below_on hbo hbr)
              have p0 := cell_below p0 hbr
              have p1 := cell_below p1 hbr
              have p2 := cell_below p2 hbr
              have p3 := cell_below p3 hbr
              have hw := HWl.out j hlt
              have HQ : Hid (¬ ((gw l j).1 = s ∧ c < (gw l j).2.2) → ∀ q, q < j + 1 → ¬ hidP c (-1) s (gw l q)) := Lib.hid (fun hno q hq => by
                by_cases e : q = j
                · subst e
                  rintro ⟨g1, g2⟩
                  unfold frE at g2
                  exact hno ⟨g1, by omega⟩
                · exact HNo.out q (by omega))
              clear hw HC HWl HNo HXM
              generalize (gw l j).1 = x at *
              generalize (gw l j).2.1 = a at *
              generalize (gw l j).2.2 = b at *
              have hk1 : j + 1 ≤ m := by omega
              have hmeas : m - (j + 1) < m - j := by omega
              have z1 := block_lt p0
              have n1' : w.heap.size ≠ wr.heap.size := by omega
              have qb : ∀ c o, (wr.alloc (.cells c 69)).cell? ⟨w.heap.size, o, none⟩ = wr.cell? ⟨w.heap.size, o, none⟩ := fun c o => ((Below.refl _ _).alloc (Nat.le_refl _) _ : Below wr.heap.size wr (wr.alloc (.cells c 69))).cell (p := ⟨w.heap.size, o, none⟩) z1
              have hb := (below_on hbo hbr).alloc (by have := (below_on hbo hbr).size; exact this) (.cells #[.int .i64 x, .int .i64 a, .int .i64 b] 69)
              have hbr2 := hbr.alloc hbr.size (.cells #[.int .i64 x, .int .i64 a, .int .i64 b] 69)
              by_cases hxs : x = s
              · subst hxs
                by_cases hg : c < b
                · go_wp2_with fail
                  refine (HA.out _).mono ?_
                  rintro e w3 ⟨rfl, hb3⟩
                  go_wp2_with fail
                  go_ret
                  exact ⟨rfl, below_on hb hb3⟩

                · have HQ2 := Lib.hid (HQ.out (fun h => hg h.2))
                  go_wp2_with fail
                  go_roundw
                  case rel => exact ⟨j + 1, hk1, by go_num, hbr2, HQ2⟩
                  case measure => first | (simp [intOf]; exact hmeas) | simpa [intOf] using hmeas
              · have HQ2 := Lib.hid (HQ.out (fun h => hxs h.1))
                have exs : (x == s) = false := by simpa using hxs
                clear hxs
                go_wp2_with fail
                go_roundw
                case rel => exact ⟨j + 1, hk1, by go_num, hbr2, HQ2⟩
                case measure => first | (simp [intOf]; exact hmeas) | simpa [intOf] using hmeas
            · obtain rfl : j = m := by omega
              obtain ⟨hX, hY⟩ := HXM.out HNo.out
              have ex1 : (X == f) = true := by simpa using hX
              have ex2 : (Y == f) = true := by simpa using hY
              clear HC HWl HXM HNo hX hY
              have hb := below_on hbo hbr
              go_wp2_with fail
              refine (HA.out _).mono ?_
              rintro e w3 ⟨rfl, hb3⟩
              go_wp2_with fail
              go_ret
              exact ⟨rfl, below_on hb hb3⟩
      · clear hYE hm hk hlk HC hcw hl0 hl1 hf
        go_enter Try.func14, Try.ntmps14
        go_wp2_with fail
        obtain ⟨wB, hwB⟩ : ∃ wB, w.alloc (.cells #[.int .i64 n, .int .i64 c, .int .i64 d, .int .i64 s] 64) = wB := ⟨_, rfl⟩
        have hb : Below w.heap.size w wB := by rw [← hwB]; exact (Below.refl _ _).alloc (Nat.le_refl _) _
        have p0 : wB.cell? ⟨w.heap.size, 0, none⟩ = some (.int .i64 n) := by rw [← hwB]; simp [go_sem]
        have p1 : wB.cell? ⟨w.heap.size, 1, none⟩ = some (.int .i64 c) := by rw [← hwB]; simp [go_sem]
        have p2 : wB.cell? ⟨w.heap.size, 2, none⟩ = some (.int .i64 d) := by rw [← hwB]; simp [go_sem]
        have p3 : wB.cell? ⟨w.heap.size, 3, none⟩ = some (.int .i64 s) := by rw [← hwB]; simp [go_sem]
        rw [hwB]
        clear hwB
        refine (H1.out _ hb).mono ?_
        rintro e w1 ⟨rfl, hb1⟩
        have p0 := cell_below p0 hb1
        have p1 := cell_below p1 hb1
        have p2 := cell_below p2 hb1
        have p3 := cell_below p3 hb1
        have hb := below_on hb hb1
        clear hb1
        go_wp2_with fail
        have hz := block_lt p0
        go_region_held3 (fun w' => w'.cell? ⟨w.heap.size, 0, none⟩ = some (.int .i64 n) ∧ w'.cell? ⟨w.heap.size, 1, none⟩ = some (.int .i64 c) ∧ w'.cell? ⟨w.heap.size, 2, none⟩ = some (.int .i64 d) ∧ w'.cell? ⟨w.heap.size, 3, none⟩ = some (.int .i64 s)) (go_keep)
          (first
            | (go_at_call 45
               refine (H2.out _ (by first | exact hb.drew | exact hb | exact hb.drew.drew | exact below_drewN hb _ | exact below_drewN hb.drew _)).mono ?_
               rintro E w9 ⟨rfl, hb9⟩
               have p0 := (hb9.cell (p := ⟨w.heap.size, 0, none⟩) hz).trans p0
               have p1 := (hb9.cell (p := ⟨w.heap.size, 1, none⟩) hz).trans p1
               have p2 := (hb9.cell (p := ⟨w.heap.size, 2, none⟩) hz).trans p2
               have p3 := (hb9.cell (p := ⟨w.heap.size, 3, none⟩) hz).trans p3
               have hb : Below w.heap.size w w9 := by first | exact (hb.drew).trans (hb9.mono hb.size) | exact hb.trans (hb9.mono hb.size)))
        obtain ⟨wo, rfl⟩ : ∃ wo : World, wo = w9 := ⟨_, rfl⟩
        clear H1 H2 hz
        go_wp2_with fail
        refine (HA.out _).mono ?_
        rintro e w3 ⟨rfl, hb3⟩
        go_wp2_with fail
        go_ret
        exact ⟨rfl, below_on hb hb3⟩

end Go.Proofs.Ytacmeadmmjehmaa
