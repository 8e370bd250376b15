/-
  The program's Row. By an AI agent.
-/
import Derived.Test.YtiagflackfkmnaaGreatRuRa
import Derived.Test.YtiagflackfkmnaaGreatRuK
import Derived.Deep.AppendLies
import Derived.BigQuiet
import Derived.BigRegion
namespace Go.Proofs.YtiagflackfkmnaaGreat
set_option linter.unusedVariables false
set_option linter.unusedSimpArgs false
open Go.RowKit

/-- The numbers of a row. -/
def numR (row : List Pst) (k : Nat) : List Int := (row.take k).map (·.s.n)
theorem numR_succ (row : List Pst) {k : Nat} (h : k < row.length) : numR row (k + 1) = numR row k ++ [(gq row k).s.n] := by
  unfold numR gq; rw [List.take_add_one, List.map_append]; simp [h]
theorem numR_len (row : List Pst) {k : Nat} (h : k ≤ row.length) : (numR row k).length = k := by unfold numR; simp; omega
/-- The numbers come back. -/
def RwnE (L : Int) (js : List Int) (dir h : Int) (l : List Sgn) (w : World) (e : Ending) (w' : World) : Prop :=
  ∃ (row : List Pst) (b : Option Addr) (c : Nat), RowL L js dir h l row ∧ row.length ≤ l.length ∧ e = .returned (.tuple #[.slice b row.length c, .int .i64 0]) ∧ w'.ownsRow w.heap.size 3 1 (.slice b row.length c) row.length (clI (numR row row.length)) ∧ Below w.heap.size w w'
theorem ed_nilR (w : World) : EdS w none [] := ⟨by decide, 0, 0, fun h => (h rfl).elim, fun i hi => absurd hi (Nat.not_lt_zero i)⟩
set_option maxRecDepth 100000 in
set_option maxHeartbeats 1000000 in
theorem Row_good (L : Int) (a : Option Addr) (js : List Int) (ca : Nat) (aa : Option Addr) (l : List Sgn) (cl : Nat) (h dir : Int) (hV : lstE L js l [] = 0) (hh : btw h 0 10000000 = true) (hd : dirB dir = true) (hL1 : 0 ≤ L) (hL2 : L ≤ 100000) (hJ : ∀ j, j < js.length → 0 ≤ gi js j ∧ gi js j ≤ 100000) (hC : ∀ j, j < l.length → (0 ≤ (gs l j).c ∧ (gs l j).c ≤ 100000) ∧ 0 ≤ (gs l j).v ∧ (gs l j).v ≤ 100000) (hn : l.length ≤ 1000) (w : World) (hI : IntsS w a js) (hA : SgnS w aa l) :
    Calls Tryz.prog 15 #[.agg #[.int .i64 L, .slice a js.length ca], .slice aa l.length cl, .int .i64 h, .int .i64 dir] w (RwnE L js dir h l w) := by
  have H1 := Lib.hid (fun W (hW : Below w.heap.size w W) => by
    have := listsError_r L a js ca aa l cl none [] 0 W (hI.below hW) (hA.below hW) (ed_nilR W)
    rw [hV] at this
    exact this)
  have H2 := Lib.hid (fun W => hh ▸ isHour_r h W)
  have H3 := Lib.hid (fun W => hd ▸ isDir_r dir W)
  have HR := Lib.hid (fun W (hW : Below w.heap.size w W) => (rowOf_r L a js ca aa l cl h dir hL1 hL2 hJ (fun j hj => by have := hC j hj; omega) hn W (hI.below hW) (hA.below hW)).mono fun e w' H => rowF_of hL1 hL2 hJ hC H)
  obtain ⟨n0, hi, hz0, hz1, hz2⟩ := info_parts infoInt
  clear hI hA hV hh hd hJ hC hL1 hL2
  go_enter Tryz.func15, Tryz.ntmps15
  go_wp2_with fail
  obtain ⟨wB, hwB⟩ : ∃ wB, w.alloc (.cells #[.int .i64 L, .slice a js.length ca] 24) = wB := ⟨_, rfl⟩
  have hb : Below w.heap.size w wB := by rw [← hwB]; exact (Below.refl _ _).alloc (Nat.le_refl _) _
  have l0 : wB.cell? ⟨w.heap.size, 0, none⟩ = some (.int .i64 L) := by rw [← hwB]; simp [go_sem]
  have l1 : wB.cell? ⟨w.heap.size, 1, none⟩ = some (.slice a js.length ca) := by rw [← hwB]; simp [go_sem]
  rw [hwB]
  clear hwB
  go_wp2_with (first | (go_at_call 44; refine (H1.out _ hb).mono ?_; rintro e w1 ⟨rfl, hb1⟩; have hbw := hb.trans (hb1.mono hb.size); replace l0 := cell_below l0 hb1; replace l1 := cell_below l1 hb1) | (go_at_call 45; refine (H2.out _).mono ?_; rintro e w2 ⟨rfl, rfl⟩) | (go_at_call 46; refine (H3.out _).mono ?_; rintro e w2 ⟨rfl, rfl⟩) | (go_at_call 47; refine (HR.out _ hbw).mono ?_; rintro e w2 ⟨row, ar, cr, hRL, hrl, hbd, rfl, hP, hb2⟩))
  have hbz := hbw.trans (hb2.mono hbw.size)
  have HG := Lib.hid (And.intro hRL (And.intro hrl hbz))
  have hrow : row.length ≤ 1000 := by omega
  obtain ⟨-, pb, po, pad, pcp, hpa, hpc⟩ := hP
  have HPC := Lib.hid hpc
  have HPA : Hid (0 < row.length → ar = some ⟨pb, po, none⟩) := Lib.hid fun h => hpa (List.ne_nil_of_length_pos h)
  have hs2 := hbz.size
  clear hpa hpc hbd hRL hrl hb hb1 hb2 hbw hbz H1 H2 H3 HR l0 l1
  go_loopw [11, 34] (fun v i wr => ∃ k : Nat, k ≤ row.length ∧ i = .int .i64 k ∧ (∃ a c, v = .slice a k c) ∧ Hid (wr.ownsRow w2.heap.size 3 1 v k (clI (numR row k))) ∧ Below w2.heap.size w2 wr) (fun _ i _ => row.length - (intOf i).toNat)
  case atStart => exact ⟨0, Nat.zero_le _, rfl, ⟨none, 0, rfl⟩, Lib.hid ⟨rfl, .inl ⟨rfl, rfl⟩⟩, Below.refl _ _⟩
  case round =>
    obtain ⟨k, hk, rfl, ⟨av, cv, rfl⟩, HRow, hbr⟩ := hrel
    by_cases hlt : k < row.length
    · obtain rfl := HPA.out (by omega)
      obtain ⟨⟨⟨c0, c1, c2, c3, c4, c5, c6, c7⟩, c8, c9, c10, c11⟩, -⟩ := HPC.out k hlt
      have c0 := cell_below c0 hbr
      have c1 := cell_below c1 hbr
      have c2 := cell_below c2 hbr
      have c3 := cell_below c3 hbr
      have c4 := cell_below c4 hbr
      have c5 := cell_below c5 hbr
      have c6 := cell_below c6 hbr
      have c7 := cell_below c7 hbr
      have c8 := cell_below c8 hbr
      have c9 := cell_below c9 hbr
      have c10 := cell_below c10 hbr
      have c11 := cell_below c11 hbr
      have HNk : Hid (clI (numR row (k + 1)) = clI (numR row k) ++ [.int .i64 (gq row k).s.n]) := Lib.hid (by rw [numR_succ row hlt, clI_app])
      clear HPC HPA
      generalize pad k = adk at *
      generalize pcp k = cpk at *
      obtain ⟨x, hx⟩ : ∃ x, gq row k = x := ⟨_, rfl⟩
      rw [hx] at HNk c0 c1 c2 c3 c4 c5 c6 c7 c8 c9 c10 c11
      clear hx
      generalize numR row k = X0 at *
      have hsr := hbr.size
      have hown := Lib.hid ((HRow.out.alloc (.cells #[.int .i64 x.s.n, .int .i64 x.s.k, .int .i64 x.s.v, .int .i64 x.s.c, .int .i64 x.s.d, .int .i64 x.s.rk, .int .i64 x.s.up, .int .i64 x.s.dn, .slice adk x.s.cv.length cpk, .int .i64 x.d, .int .i64 x.u, .bool x.b] 82)).alloc (.cells #[.int .i64 x.s.n] 3))
      have hbq : Below w2.heap.size w2 ((wr.alloc (.cells #[.int .i64 x.s.n, .int .i64 x.s.k, .int .i64 x.s.v, .int .i64 x.s.c, .int .i64 x.s.d, .int .i64 x.s.rk, .int .i64 x.s.up, .int .i64 x.s.dn, .slice adk x.s.cv.length cpk, .int .i64 x.d, .int .i64 x.u, .bool x.b] 82)).alloc (.cells #[.int .i64 x.s.n] 3)) := (hbr.alloc hsr _).alloc (by simp; omega) _
      clear HRow
      go_wp2_with (first | (at_builtin; go_loud (refine wpList_append_lies _ rfl _ _ 22 rfl w2.heap.size 3 n0 _ 1 8 Tryz.underlying22 hi hz0 hz1 hz2 rfl (by decide) (.slice av k cv) k _ (by rfl) hown.out ⟨wr.heap.size + 1, 0, none⟩ 1 1 [.int .i64 x.s.n] (by rfl) (by rfl) ?d1 ?d2 (by decide) ?d3 ?d4 ?d5 _ rfl ?_)))
      case d1 =>
        refine World.news_of_block (cs := #[.int .i64 x.s.n]) (t := 3) (fr := (0, 0)) ?_
        have := heap_alloc_new (wr.alloc (.cells #[.int .i64 x.s.n, .int .i64 x.s.k, .int .i64 x.s.v, .int .i64 x.s.c, .int .i64 x.s.d, .int .i64 x.s.rk, .int .i64 x.s.up, .int .i64 x.s.dn, .slice adk x.s.cv.length cpk, .int .i64 x.d, .int .i64 x.u, .bool x.b] 82)) (.cells #[.int .i64 x.s.n] 3)
        simpa using this
      case d2 => simp [Value.oneCell']
      case d3 => unfold maxLen; omega
      case d4 => omega
      case d5 => first | (simp; omega) | simp | omega
      intro g6 c6 w6 hown6 hgrow6 hat6 hlt6
      have hb6 : Below w2.heap.size w2 w6 := hbq.grown hgrow6 (by first | (simp; omega) | simp | omega) (fun z hz => owns_blockI hown.out hz)
      have HRow6 : Hid (w6.ownsRow w2.heap.size 3 1 (.slice (some ⟨g6, 0, none⟩) (k + 1) c6) (k + 1) (clI (numR row (k + 1)))) := Lib.hid (by rw [HNk.out]; exact hown6)
      clear hown6 hown hbq hgrow6 hat6 hlt6 HNk
      go_wp2_with fail
      go_roundw
      case rel => exact ⟨k + 1, by omega, by go_num, ⟨_, c6, rfl⟩, HRow6, hb6⟩
      case measure => simp [intOf]; omega
    · obtain rfl : k = row.length := by omega
      have HEnd : Hid (RwnE L js dir h l w (.returned (.tuple #[.slice av row.length cv, .int .i64 0])) wr) := Lib.hid ⟨row, av, cv, HG.out.1, HG.out.2.1, rfl, owns_baseI HRow.out hs2, HG.out.2.2.trans (hbr.mono hs2)⟩
      clear HRow HPC HPA
      go_wp2_with fail
      go_ret2
      exact HEnd.out
set_option maxRecDepth 100000 in
set_option maxHeartbeats 1000000 in
theorem Row_bad (L : Int) (a : Option Addr) (js : List Int) (ca : Nat) (aa : Option Addr) (l : List Sgn) (cl : Nat) (h dir : Int) (hV : lstE L js l [] ≠ 0) (w : World) (hI : IntsS w a js) (hA : SgnS w aa l) :
    Calls Tryz.prog 15 #[.agg #[.int .i64 L, .slice a js.length ca], .slice aa l.length cl, .int .i64 h, .int .i64 dir] w fun e w' => e = .returned (.tuple #[.slice none 0 0, .int .i64 (lstE L js l [])]) ∧ Below w.heap.size w w' := by
  have H1 := Lib.hid (fun W (hW : Below w.heap.size w W) => listsError_r L a js ca aa l cl none [] 0 W (hI.below hW) (hA.below hW) (ed_nilR W))
  clear hI hA
  generalize lstE L js l [] = E at *
  have d1 : (E != 0) = true := by simp [hV]
  clear hV
  go_enter Tryz.func15, Tryz.ntmps15
  go_wp2_with fail
  obtain ⟨wB, hwB⟩ : ∃ wB, w.alloc (.cells #[.int .i64 L, .slice a js.length ca] 24) = wB := ⟨_, rfl⟩
  have hb : Below w.heap.size w wB := by rw [← hwB]; exact (Below.refl _ _).alloc (Nat.le_refl _) _
  have l0 : wB.cell? ⟨w.heap.size, 0, none⟩ = some (.int .i64 L) := by rw [← hwB]; simp [go_sem]
  have l1 : wB.cell? ⟨w.heap.size, 1, none⟩ = some (.slice a js.length ca) := by rw [← hwB]; simp [go_sem]
  rw [hwB]
  clear hwB
  go_wp2_with (go_at_call 44; refine (H1.out _ hb).mono ?_; rintro e w1 ⟨rfl, hb1⟩)
  go_ret2
  exact ⟨rfl, hb.trans (hb1.mono hb.size)⟩
set_option maxRecDepth 100000 in
set_option maxHeartbeats 1000000 in
theorem Row_arg (L : Int) (a : Option Addr) (js : List Int) (ca : Nat) (aa : Option Addr) (l : List Sgn) (cl : Nat) (h dir : Int) (hV : lstE L js l [] = 0) (hx : (btw h 0 10000000 && dirB dir) = false) (w : World) (hI : IntsS w a js) (hA : SgnS w aa l) :
    Calls Tryz.prog 15 #[.agg #[.int .i64 L, .slice a js.length ca], .slice aa l.length cl, .int .i64 h, .int .i64 dir] w fun e w' => e = .returned (.tuple #[.slice none 0 0, .int .i64 2]) ∧ Below w.heap.size w w' := by
  have H1 := Lib.hid (fun W (hW : Below w.heap.size w W) => by
    have := listsError_r L a js ca aa l cl none [] 0 W (hI.below hW) (hA.below hW) (ed_nilR W)
    rw [hV] at this
    exact this)
  have H2 := Lib.hid (fun W => isHour_r h W)
  have H3 := Lib.hid (fun W => isDir_r dir W)
  clear hI hA hV
  generalize btw h 0 10000000 = b1 at *
  generalize dirB dir = b2 at *
  cases b1 with
  | false =>
    clear hx
    go_enter Tryz.func15, Tryz.ntmps15
    go_wp2_with fail
    obtain ⟨wB, hwB⟩ : ∃ wB, w.alloc (.cells #[.int .i64 L, .slice a js.length ca] 24) = wB := ⟨_, rfl⟩
    have hb : Below w.heap.size w wB := by rw [← hwB]; exact (Below.refl _ _).alloc (Nat.le_refl _) _
    have l0 : wB.cell? ⟨w.heap.size, 0, none⟩ = some (.int .i64 L) := by rw [← hwB]; simp [go_sem]
    have l1 : wB.cell? ⟨w.heap.size, 1, none⟩ = some (.slice a js.length ca) := by rw [← hwB]; simp [go_sem]
    rw [hwB]
    clear hwB
    go_wp2_with (first | (go_at_call 44; refine (H1.out _ hb).mono ?_; rintro e w1 ⟨rfl, hb1⟩) | (go_at_call 45; refine (H2.out _).mono ?_; rintro e w2 ⟨rfl, rfl⟩) | (go_at_call 46; refine (H3.out _).mono ?_; rintro e w2 ⟨rfl, rfl⟩))
    go_ret2
    exact ⟨rfl, hb.trans (hb1.mono hb.size)⟩
  | true =>
    cases b2 with
    | true => cases hx
    | false =>
      clear hx
      go_enter Tryz.func15, Tryz.ntmps15
      go_wp2_with fail
      obtain ⟨wB, hwB⟩ : ∃ wB, w.alloc (.cells #[.int .i64 L, .slice a js.length ca] 24) = wB := ⟨_, rfl⟩
      have hb : Below w.heap.size w wB := by rw [← hwB]; exact (Below.refl _ _).alloc (Nat.le_refl _) _
      have l0 : wB.cell? ⟨w.heap.size, 0, none⟩ = some (.int .i64 L) := by rw [← hwB]; simp [go_sem]
      have l1 : wB.cell? ⟨w.heap.size, 1, none⟩ = some (.slice a js.length ca) := by rw [← hwB]; simp [go_sem]
      rw [hwB]
      clear hwB
      go_wp2_with (first | (go_at_call 44; refine (H1.out _ hb).mono ?_; rintro e w1 ⟨rfl, hb1⟩) | (go_at_call 45; refine (H2.out _).mono ?_; rintro e w2 ⟨rfl, rfl⟩) | (go_at_call 46; refine (H3.out _).mono ?_; rintro e w2 ⟨rfl, rfl⟩))
      go_ret2
      exact ⟨rfl, hb.trans (hb1.mono hb.size)⟩
end Go.Proofs.YtiagflackfkmnaaGreat
