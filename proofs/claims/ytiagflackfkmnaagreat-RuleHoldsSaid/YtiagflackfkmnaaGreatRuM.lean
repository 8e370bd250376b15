/-
  openUntil; rows of signs with their distances; holdsAt of package rule. By an AI agent.
-/
import Derived.Test.YtiagflackfkmnaaGreatRuL
import Derived.Deep.RegionHeld3
import Derived.BigQuiet
import Derived.BigRegion
namespace Go.Proofs.YtiagflackfkmnaaGreat
set_option linter.unusedVariables false
set_option linter.unusedSimpArgs false
open Go.RowKit

/-- The least distance of a junction behind d, of the first k, or the end's. -/
def opnK (L : Int) (js : List Int) (dir d : Int) : Nat → Int
  | 0 => L
  | k + 1 => if d < dstK L dir (gi js k) then min (opnK L js dir d k) (dstK L dir (gi js k)) else opnK L js dir d k
theorem dst_bound {L dir c : Int} (h1 : 0 ≤ L) (h2 : L ≤ 100000) (h3 : 0 ≤ c) (h4 : c ≤ 100000) : -1000000 ≤ dstK L dir c ∧ dstK L dir c ≤ 1000000 := by unfold dstK; split <;> omega
set_option maxRecDepth 100000 in
set_option maxHeartbeats 1000000 in
theorem openUntil_r (L : Int) (a : Option Addr) (js : List Int) (ca : Nat) (dir d : Int) (hL1 : 0 ≤ L) (hL2 : L ≤ 100000) (hJ : ∀ j, j < js.length → 0 ≤ gi js j ∧ gi js j ≤ 100000) (w : World) (hI : IntsS w a js) :
    Calls Tryz.prog 81 #[.agg #[.int .i64 L, .slice a js.length ca], .int .i64 dir, .int .i64 d] w fun e w' => e = .returned (.int .i64 (opnK L js dir d js.length)) ∧ Below w.heap.size w w' := by
  obtain ⟨hlen, -, blk, off, hadr, hc⟩ := hI
  have HC := Lib.hid hc
  have HJ := Lib.hid hJ
  have HL : Hid (0 < js.length → a = some ⟨blk, off, none⟩) := Lib.hid fun h => hadr (pos_neR (i := 0) h)
  have H0 : Hid (opnK L js dir d 0 = L) := Lib.hid rfl
  have HS : Hid (∀ k, opnK L js dir d (k + 1) = if d < dstK L dir (gi js k) then min (opnK L js dir d k) (dstK L dir (gi js k)) else opnK L js dir d k) := Lib.hid fun k => rfl
  clear hc hadr hJ
  go_enter Tryz.func81, Tryz.ntmps81
  go_wp2_with fail
  obtain ⟨wB, hwB⟩ : ∃ wB, w.alloc (.cells #[.int .i64 L, .slice a js.length ca] 24) = wB := ⟨_, rfl⟩
  have hb : Below w.heap.size w wB := by rw [← hwB]; exact (Below.refl _ _).alloc (Nat.le_refl _) _
  have p0 : wB.cell? ⟨w.heap.size, 0, none⟩ = some (.int .i64 L) := by rw [← hwB]; simp [go_sem]
  have p1 : wB.cell? ⟨w.heap.size, 1, none⟩ = some (.slice a js.length ca) := by rw [← hwB]; simp [go_sem]
  rw [hwB]
  clear hwB
  go_wp2_with fail
  go_loopw [7, 16] (fun q i wr => ∃ k : Nat, k ≤ js.length ∧ i = .int .i64 k ∧ q = .int .i64 (opnK L js dir d k) ∧ Below wB.heap.size wB wr) (fun _ i _ => js.length - (intOf i).toNat)
  case atStart => exact ⟨0, Nat.zero_le _, rfl, by rw [H0.out], Below.refl _ _⟩
  case round =>
    obtain ⟨k, hk, rfl, rfl, hbr⟩ := hrel
    have p0 := cell_below p0 hbr
    have p1 := cell_below p1 hbr
    have hbw := below_onR hb hbr
    by_cases hlt : k < js.length
    · obtain rfl := HL.out (by omega)
      have cz := cell_below (HC.out k hlt) hbw
      obtain ⟨j1, j2⟩ := HJ.out k hlt
      have HD := Lib.hid (fun W => distance_r L (some ⟨blk, off, none⟩) js.length ca dir (gi js k) hL1 hL2 (by omega) (by omega) W)
      have HSk := Lib.hid (HS.out k)
      clear HC HL HJ HS H0
      generalize hx1 : opnK L js dir d (k + 1) = x1 at *
      generalize hx0 : opnK L js dir d k = x0 at *
      generalize dstK L dir (gi js k) = D at *
      generalize hjk : gi js k = jk at *
      clear hx0 hjk
      by_cases hd : d < D
      · have hs : Hid (x1 = min x0 D) := Lib.hid (by rw [HSk.out, if_pos hd])
        clear HSk
        have hd2 : decide (d < D) = true := decide_eq_true hd
        go_wp2_with (go_at_call 80; refine (HD.out _).mono ?_; rintro e w7 ⟨rfl, hb7⟩)
        all_goals
          go_roundw
          case rel => exact ⟨k + 1, by omega, by go_num, by rw [hx1, hs.out] <;> first | rfl | (congr 1; omega) | (simp; omega), hbr.trans (hb7.mono hbr.size)⟩
          case measure => simp [intOf]; omega
      · have hs : Hid (x1 = x0) := Lib.hid (by rw [HSk.out, if_neg hd])
        clear HSk
        have hd2 : decide (d < D) = false := decide_eq_false hd
        go_wp2_with (go_at_call 80; refine (HD.out _).mono ?_; rintro e w7 ⟨rfl, hb7⟩)
        go_roundw
        case rel => exact ⟨k + 1, by omega, by go_num, by rw [hx1, hs.out], hbr.trans (hb7.mono hbr.size)⟩
        case measure => simp [intOf]; omega
    · obtain rfl : k = js.length := by omega
      go_wp2_with fail
      go_ret
      exact ⟨rfl, hbw⟩
/-- A sign of a row. -/
structure Pst where
  s : Sgn
  d : Int
  u : Int
  b : Bool
def gq (l : List Pst) (i : Nat) : Pst := l.getD i ⟨⟨0, 0, 0, 0, 0, 0, 0, 0, []⟩, 0, 0, false⟩
def PstAt (w : World) (blk o : Nat) (p : Pst) (ad : Option Addr) (cp : Nat) : Prop :=
  (w.cell? ⟨blk, o, none⟩ = some (.int .i64 p.s.n) ∧ w.cell? ⟨blk, o + 1, none⟩ = some (.int .i64 p.s.k) ∧ w.cell? ⟨blk, o + 2, none⟩ = some (.int .i64 p.s.v) ∧ w.cell? ⟨blk, o + 3, none⟩ = some (.int .i64 p.s.c) ∧ w.cell? ⟨blk, o + 4, none⟩ = some (.int .i64 p.s.d) ∧ w.cell? ⟨blk, o + 5, none⟩ = some (.int .i64 p.s.rk) ∧ w.cell? ⟨blk, o + 6, none⟩ = some (.int .i64 p.s.up) ∧ w.cell? ⟨blk, o + 7, none⟩ = some (.int .i64 p.s.dn)) ∧ w.cell? ⟨blk, o + 8, none⟩ = some (.slice ad p.s.cv.length cp) ∧ w.cell? ⟨blk, o + 9, none⟩ = some (.int .i64 p.d) ∧ w.cell? ⟨blk, o + 10, none⟩ = some (.int .i64 p.u) ∧ w.cell? ⟨blk, o + 11, none⟩ = some (.bool p.b)
theorem PstAt.below {w w' : World} {blk o : Nat} {p : Pst} {ad : Option Addr} {cp : Nat} (h : PstAt w blk o p ad cp) (hb : Below w.heap.size w w') : PstAt w' blk o p ad cp := by
  obtain ⟨⟨c0, c1, c2, c3, c4, c5, c6, c7⟩, c8, c9, c10, c11⟩ := h
  exact ⟨⟨cell_below c0 hb, cell_below c1 hb, cell_below c2 hb, cell_below c3 hb, cell_below c4 hb, cell_below c5 hb, cell_below c6 hb, cell_below c7 hb⟩, cell_below c8 hb, cell_below c9 hb, cell_below c10 hb, cell_below c11 hb⟩
/-- A row in memory. -/
def PstS (w : World) (a : Option Addr) (l : List Pst) : Prop :=
  l.length ≤ 100000000 ∧ ∃ (blk off : Nat) (ad : Nat → Option Addr) (cp : Nat → Nat), (l ≠ [] → a = some ⟨blk, off, none⟩) ∧ ∀ i, i < l.length → PstAt w blk (off + i * 12) (gq l i) (ad i) (cp i) ∧ PairsS w (ad i) (gq l i).s.cv
theorem PstS.below {w w' : World} {a : Option Addr} {l : List Pst} (h : PstS w a l) (hb : Below w.heap.size w w') : PstS w' a l := by
  obtain ⟨h0, blk, off, ad, cp, h2, h3⟩ := h
  exact ⟨h0, blk, off, ad, cp, h2, fun i hi => ⟨(h3 i hi).1.below hb, (h3 i hi).2.below hb⟩⟩
theorem started_r (p : Pst) (ad : Option Addr) (cp : Nat) (w : World) :
    Calls Tryz.prog 93 #[.agg #[.int .i64 p.s.n, .int .i64 p.s.k, .int .i64 p.s.v, .int .i64 p.s.c, .int .i64 p.s.d, .int .i64 p.s.rk, .int .i64 p.s.up, .int .i64 p.s.dn, .slice ad p.s.cv.length cp, .int .i64 p.d, .int .i64 p.u, .bool p.b]] w fun e w' => e = .returned (.int .i64 (strK p.s.k p.s.v)) ∧ Below w.heap.size w w' := by
  obtain ⟨⟨n, k, v, c, d, rk, up, dn, cv⟩, ds, un, bl⟩ := p
  simp only []
  by_cases h1 : k = 3
  · subst h1
    have hr : Hid (strK 3 v = 1) := Lib.hid (by unfold strK; simp)
    go_enter Tryz.func93, Tryz.ntmps93
    go_wp2_with fail
    go_ret
    exact ⟨by rw [hr.out]; rfl, (Below.refl _ _).alloc (Nat.le_refl _) _⟩
  · have hr : Hid (strK k v = v) := Lib.hid (by unfold strK; simp [h1])
    have b1 : (k == 3) = false := beq_false_of_ne h1
    go_enter Tryz.func93, Tryz.ntmps93
    go_wp2_with fail
    go_ret
    exact ⟨by rw [hr.out]; rfl, (Below.refl _ _).alloc (Nat.le_refl _) _⟩
end Go.Proofs.YtiagflackfkmnaaGreat
