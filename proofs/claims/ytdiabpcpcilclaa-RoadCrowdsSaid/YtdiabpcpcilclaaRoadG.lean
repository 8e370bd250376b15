/-
  isStretch and (swap).kept of package road. By an AI agent.
-/
import Derived.Test.YtdiabpcpcilclaaRoadC
import Derived.Test.YtdiabpcpcilclaaRoadR
import Derived.Test.YtdiabpcpcilclaaRoadK
import Derived.Deep.RegionHeld3
import Derived.Lib.SliceRun
namespace Go.Proofs.Ytdiabpcpcilclaa
set_option linter.unusedVariables false
set_option linter.unusedSimpArgs false
open Go.RowKit

def strB (x y n : Int) : Bool := (btw x 0 n && btw y 0 n) && decide (x < y)
theorem strB_iff (x y n : Int) : strB x y n = true ↔ 0 ≤ x ∧ x < y ∧ y ≤ n := by
  unfold strB
  rw [Bool.and_eq_true, Bool.and_eq_true, btw_iff, btw_iff, decide_eq_true_eq]
  omega
theorem strB_f {x y n : Int} (h : ¬ (0 ≤ x ∧ x < y ∧ y ≤ n)) : strB x y n = false := by rw [← Bool.not_eq_true, strB_iff]; exact h
theorem strB_t {x y n : Int} (h : 0 ≤ x ∧ x < y ∧ y ≤ n) : strB x y n = true := (strB_iff _ _ _).2 h
set_option maxRecDepth 100000 in
theorem isStretch_any (x y n : Int) (w : World) :
    Calls Try.prog 32 #[.agg #[.int .i64 x, .int .i64 y], .int .i64 n] w fun e w' => e = .returned (.bool (strB x y n)) ∧ Below w.heap.size w w' := by
  have hW : Hid (∀ b W, W.cell? ⟨b, 0, none⟩ = some (.int .i64 x) → W.cell? ⟨b, 1, none⟩ = some (.int .i64 y) → Calls Try.prog 48 #[.int .i64 0, .int .i64 n, .slice (some ⟨b, 0, none⟩) 2 2] W fun e w' => e = .returned (.bool (btw x 0 n && btw y 0 n)) ∧ Below W.heap.size W w') := Lib.hid fun b W h1 h2 => within2_any 0 n x y b W h1 h2
  unfold strB
  cases hb : (btw x 0 n && btw y 0 n) with
  | false =>
    rw [hb] at hW
    clear hb
    go_enter Try.func32, Try.ntmps32
    go_wp2_with fail
    refine (hW.out _ _ (by simp [go_sem]) (by simp [go_sem])).mono ?_
    rintro e w1 ⟨rfl, hb1⟩
    go_wp2_with fail
    go_ret
    exact ⟨rfl, box_below (box_below hb1)⟩
  | true =>
    rw [hb] at hW
    clear hb
    by_cases hlt : x < y
    · rw [show decide (x < y) = true from by simpa using hlt]
      go_enter Try.func32, Try.ntmps32
      go_wp2_with fail
      obtain ⟨wB, hwB⟩ : ∃ wB, (w.alloc (.cells #[.int .i64 x, .int .i64 y] 26)).alloc (.cells #[.int .i64 x, .int .i64 y] 3) = wB := ⟨_, rfl⟩
      have hb : Below w.heap.size w wB := by rw [← hwB]; exact ((Below.refl _ _).alloc (Nat.le_refl _) _).alloc (by simp) _
      have p0 : wB.cell? ⟨w.heap.size, 0, none⟩ = some (.int .i64 x) := by rw [← hwB]; simp [go_sem]
      have p1 : wB.cell? ⟨w.heap.size, 1, none⟩ = some (.int .i64 y) := by rw [← hwB]; simp [go_sem]
      have q0 : wB.cell? ⟨w.heap.size + 1, 0, none⟩ = some (.int .i64 x) := by rw [← hwB]; simp [go_sem]
      have q1 : wB.cell? ⟨w.heap.size + 1, 1, none⟩ = some (.int .i64 y) := by rw [← hwB]; simp [go_sem]
      rw [hwB]
      clear hwB
      refine (hW.out _ _ q0 q1).mono ?_
      rintro e w1 ⟨rfl, hb1⟩
      have p0 := cell_below p0 hb1
      have p1 := cell_below p1 hb1
      clear q0 q1
      go_wp2_with fail
      go_ret
      exact ⟨rfl, hb.trans (hb1.mono hb.size)⟩
    · rw [show decide (x < y) = false from by simpa using hlt]
      go_enter Try.func32, Try.ntmps32
      go_wp2_with fail
      obtain ⟨wB, hwB⟩ : ∃ wB, (w.alloc (.cells #[.int .i64 x, .int .i64 y] 26)).alloc (.cells #[.int .i64 x, .int .i64 y] 3) = wB := ⟨_, rfl⟩
      have hb : Below w.heap.size w wB := by rw [← hwB]; exact ((Below.refl _ _).alloc (Nat.le_refl _) _).alloc (by simp) _
      have p0 : wB.cell? ⟨w.heap.size, 0, none⟩ = some (.int .i64 x) := by rw [← hwB]; simp [go_sem]
      have p1 : wB.cell? ⟨w.heap.size, 1, none⟩ = some (.int .i64 y) := by rw [← hwB]; simp [go_sem]
      have q0 : wB.cell? ⟨w.heap.size + 1, 0, none⟩ = some (.int .i64 x) := by rw [← hwB]; simp [go_sem]
      have q1 : wB.cell? ⟨w.heap.size + 1, 1, none⟩ = some (.int .i64 y) := by rw [← hwB]; simp [go_sem]
      rw [hwB]
      clear hwB
      refine (hW.out _ _ q0 q1).mono ?_
      rintro e w1 ⟨rfl, hb1⟩
      have p0 := cell_below p0 hb1
      have p1 := cell_below p1 hb1
      clear q0 q1
      go_wp2_with fail
      go_ret
      exact ⟨by show Ending.returned (.bool (decide (x < y))) = _; rw [show decide (x < y) = false from by simpa using hlt]; rfl, hb.trans (hb1.mono hb.size)⟩

theorem closK_any (x y : Int) (w : World) :
    Calls Try.prog 74 (#[.agg #[.int .i64 x, .int .i64 y]] ++ #[]) w fun e w' => e = .returned (.bool (decide (y ≤ x))) ∧ Below w.heap.size w w' := by
  go_enter Try.func74, Try.ntmps74
  go_wp2_with fail
  go_ret
  exact ⟨rfl, (Below.refl _ _).alloc (Nat.le_refl _) _⟩

set_option maxRecDepth 100000 in
set_option maxHeartbeats 1000000 in
theorem idxK_any_ (aa : Option Addr) (l : List (Spn)) (ca : Nat) (lb : Array Value) (p : Nat → Bool) (w : World) (hA : PairsS w aa l)
    (hp : ∀ j W, j < l.length → Below w.heap.size w W → Calls Try.prog 74 (#[.agg #[.int .i64 (gp l j).1, .int .i64 (gp l j).2]] ++ lb) W fun e w' => e = .returned (.bool (p j)) ∧ Below W.heap.size W w') :
    Calls Try.prog 76 #[.slice aa l.length ca, .func (.func 74) #[] lb] w fun e w' => e = .returned (.int .i64 (idxK p l.length)) ∧ Below w.heap.size w w' := by
  obtain ⟨hlen, -, blk, off, hadr, hc⟩ := hA
  have HP := Lib.hid hp
  have HC := Lib.hid hc
  have HH : Hid (∀ k, k < l.length → p k = true → (∀ j, j < k → p j = false) → idxK p l.length = k) := Lib.hid fun k hk h hb => idxK_hit h hb _ hk
  have HM : Hid ((∀ j, j < l.length → p j = false) → idxK p l.length = -1) := Lib.hid fun h => idxK_miss _ h
  have HL : Hid (0 < l.length → aa = some ⟨blk, off, none⟩) := Lib.hid fun h => hadr (pos_ne (n := 0) h)
  generalize idxK p l.length = R at *
  clear hp hc hadr
  go_enter Try.func76, Try.ntmps76
  go_wp2_with fail
  go_loopw [8] (fun i wr => ∃ k : Nat, k ≤ l.length ∧ i = .int .i64 k ∧ Below w.heap.size w wr ∧ Hid (∀ j, j < k → p j = false)) (fun i _ => l.length - (intOf i).toNat)
  case atStart => exact ⟨0, Nat.zero_le _, rfl, Below.refl _ _, Lib.hid fun j hj => absurd hj (Nat.not_lt_zero _)⟩
  case round =>
    obtain ⟨k, hk, rfl, hb, HA⟩ := hrel
    by_cases hlt : k < l.length
    · obtain rfl := HL.out (by omega)
      obtain ⟨c0, c1⟩ := HC.out k hlt
      have c0 := cell_below c0 hb
      have c1 := cell_below c1 hb
      have HK := Lib.hid (fun W => HP.out k W hlt)
      have HHk := Lib.hid (HH.out k hlt)
      have HN : Hid (p k = false → ∀ j, j < k + 1 → p j = false) := Lib.hid fun h j hj => by
        by_cases e : j = k
        · subst e; exact h
        · exact HA.out j (by omega)
      clear HP HC HM HL HH
      generalize (gp l k).1 = x0 at *
      generalize (gp l k).2 = x1 at *
      cases hpk : p k with
      | true =>
        have HR := Lib.hid (HHk.out hpk HA.out)
        rw [hpk] at HK
        clear hpk HHk HN
        go_wp2_with fail
        refine (HK.out _ hb).mono ?_
        rintro e w1 ⟨rfl, hb1⟩
        go_wp2_with fail
        go_ret
        rw [HR.out]
        exact ⟨rfl, hb.trans (hb1.mono hb.size)⟩
      | false =>
        have HR := Lib.hid (HN.out hpk)
        rw [hpk] at HK
        clear hpk HHk HN
        go_wp2_with fail
        refine (HK.out _ hb).mono ?_
        rintro e w1 ⟨rfl, hb1⟩
        go_wp2_with fail
        go_roundw
        case rel => exact ⟨k + 1, by omega, by go_num, hb.trans (hb1.mono hb.size), HR⟩
        case measure => simp [intOf]; omega
    · obtain rfl : k = l.length := by omega
      have HR := Lib.hid (HM.out HA.out)
      go_wp2_with fail
      go_ret
      rw [HR.out]
      exact ⟨rfl, hb⟩

/-- What deleting gives. -/
def DelE (base : Nat) (w : World) (g c : Nat) (q : List Spn) (e : Ending) (w' : World) : Prop := e = .returned (.slice (some ⟨g, 0, none⟩) q.length c) ∧ (∀ i, i < q.length → w'.cell? ⟨g, i * 2, none⟩ = some (.int .i64 (gp q i).1) ∧ w'.cell? ⟨g, i * 2 + 1, none⟩ = some (.int .i64 (gp q i).2)) ∧ Below base w w'
theorem clear_one {w : World} {g o c : Nat} (h0 : (w.cell? ⟨g, o, none⟩).isSome = true) (h1 : (w.cell? ⟨g, o + 1, none⟩).isSome = true) (f0 : w.frozen? ⟨g, o, none⟩ = false) (f1 : w.frozen? ⟨g, o + 1, none⟩ = false) (ty : TypeId) :
    (Builtin.clear_ #[30] ty #[.slice (some ⟨g, o, none⟩) 1 c]).run Try.prog w = .ok (.tuple #[]) (w.setCells g o [.int .i64 0, .int .i64 0]) := by
  have hst := run_storeCells_cells (P := Try.prog) g o [.int .i64 0, .int .i64 0] 0 w (by
    intro j hj
    have hj : j < 2 := hj
    match j, hj with
    | 0, _ => exact h0
    | 1, _ => exact h1) (by
    intro j hj
    have hj : j < 2 := hj
    match j, hj with
    | 0, _ => exact f0
    | 1, _ => exact f1) (by intro v hv; simp at hv; subst hv; rfl)
  simp only [Nat.add_zero] at hst
  have hz : (Builtin.zeroCells (Value.agg #[.int .i64 0, .int .i64 0]).cells 1).toList = [.int .i64 0, .int .i64 0] := by kernel_rfl
  simp [Builtin.clear_, run_underlying Try.underlying30, Try.zeroValue26, hz, hst]
theorem clear_two {w : World} {g o c : Nat} (h0 : (w.cell? ⟨g, o, none⟩).isSome = true) (h1 : (w.cell? ⟨g, o + 1, none⟩).isSome = true) (h2 : (w.cell? ⟨g, o + 2, none⟩).isSome = true) (h3 : (w.cell? ⟨g, o + 3, none⟩).isSome = true) (f0 : w.frozen? ⟨g, o, none⟩ = false) (f1 : w.frozen? ⟨g, o + 1, none⟩ = false) (f2 : w.frozen? ⟨g, o + 2, none⟩ = false) (f3 : w.frozen? ⟨g, o + 3, none⟩ = false) (ty : TypeId) :
    (Builtin.clear_ #[30] ty #[.slice (some ⟨g, o, none⟩) 2 c]).run Try.prog w = .ok (.tuple #[]) (w.setCells g o [.int .i64 0, .int .i64 0, .int .i64 0, .int .i64 0]) := by
  have hst := run_storeCells_cells (P := Try.prog) g o [.int .i64 0, .int .i64 0, .int .i64 0, .int .i64 0] 0 w (by
    intro j hj
    have hj : j < 4 := hj
    match j, hj with
    | 0, _ => exact h0
    | 1, _ => exact h1
    | 2, _ => exact h2
    | 3, _ => exact h3) (by
    intro j hj
    have hj : j < 4 := hj
    match j, hj with
    | 0, _ => exact f0
    | 1, _ => exact f1
    | 2, _ => exact f2
    | 3, _ => exact f3) (by intro v hv; simp at hv; subst hv; rfl)
  simp only [Nat.add_zero] at hst
  have hz : (Builtin.zeroCells (Value.agg #[.int .i64 0, .int .i64 0]).cells 2).toList = [.int .i64 0, .int .i64 0, .int .i64 0, .int .i64 0] := by kernel_rfl
  simp [Builtin.clear_, run_underlying Try.underlying30, Try.zeroValue26, hz, hst]
set_option maxRecDepth 100000 in
set_option maxHeartbeats 1000000 in
theorem del2_any (base g c : Nat) (x0 y0 x1 y1 : Int) (w : World) (hg : base ≤ g) (hbs : base ≤ w.heap.size) (b0 : I64 x0 ∧ I64 y0) (b1 : I64 x1 ∧ I64 y1) (hc : 2 ≤ c)
    (c0 : w.cell? ⟨g, 0, none⟩ = some (.int .i64 x0)) (c1 : w.cell? ⟨g, 1, none⟩ = some (.int .i64 y0)) (c2 : w.cell? ⟨g, 2, none⟩ = some (.int .i64 x1)) (c3 : w.cell? ⟨g, 3, none⟩ = some (.int .i64 y1))
    (f0 : w.frozen? ⟨g, 0, none⟩ = false) (f1 : w.frozen? ⟨g, 1, none⟩ = false) (f2 : w.frozen? ⟨g, 2, none⟩ = false) (f3 : w.frozen? ⟨g, 3, none⟩ = false) :
    Calls Try.prog 73 #[.slice (some ⟨g, 0, none⟩) 2 c, .func (.func 74) #[] #[]] w (DelE base w g c (keepL (x0, y0) (x1, y1))) := by
  have hP : PairsS w (some ⟨g, 0, none⟩) [(x0, y0), (x1, y1)] := ⟨by simp, fun i hi => by
    have hi : i < 2 := hi
    match i, hi with
    | 0, _ => exact b0
    | 1, _ => exact b1, g, 0, fun _ => rfl, fun i hi => by
    have hi : i < 2 := hi
    match i, hi with
    | 0, _ => exact ⟨c0, c1⟩
    | 1, _ => exact ⟨c2, c3⟩⟩
  have HI := idxK_any_ (some ⟨g, 0, none⟩) [(x0, y0), (x1, y1)] c #[] (fun j => decide ((gp [(x0, y0), (x1, y1)] j).2 ≤ (gp [(x0, y0), (x1, y1)] j).1)) w hP fun j W hj hW => closK_any _ _ W
  have hg1 := block_lt c0
  clear hP
  by_cases h0 : x0 < y0
  · by_cases h1 : x1 < y1
    · have e1 : keepL (x0, y0) (x1, y1) = [(x0, y0), (x1, y1)] := by unfold keepL; rw [if_pos h0, if_pos h1]; rfl
      have e2 : idxK (fun j => decide ((gp [(x0, y0), (x1, y1)] j).2 ≤ (gp [(x0, y0), (x1, y1)] j).1)) [(x0, y0), (x1, y1)].length = -1 := by simp [idxK, gp]; omega
      rw [e1]
      rw [e2] at HI
      have HI := Lib.hid HI
      clear e1 e2
      go_enter Try.func73, Try.ntmps73
      go_wp2_with fail
      refine HI.out.mono ?_
      rintro e w1 ⟨rfl, hb1⟩
      have hE : Hid (DelE base w g c [(x0, y0), (x1, y1)] (.returned (.slice (some ⟨g, 0, none⟩) 2 c)) w1) := Lib.hid ⟨rfl, fun i hi => by
        have hi : i < 2 := hi
        match i, hi with
        | 0, _ => exact ⟨cell_below c0 hb1, cell_below c1 hb1⟩
        | 1, _ => exact ⟨cell_below c2 hb1, cell_below c3 hb1⟩, hb1.mono hbs⟩
      go_wp2_with fail
      go_ret
      exact hE.out
    · have e1 : keepL (x0, y0) (x1, y1) = [(x0, y0)] := by unfold keepL; rw [if_pos h0, if_neg h1]; rfl
      have e2 : idxK (fun j => decide ((gp [(x0, y0), (x1, y1)] j).2 ≤ (gp [(x0, y0), (x1, y1)] j).1)) [(x0, y0), (x1, y1)].length = 1 := by simp [idxK, gp]; omega
      rw [e1]
      rw [e2] at HI
      have HI := Lib.hid HI
      clear e1 e2
      go_enter Try.func73, Try.ntmps73
      go_wp2_with fail
      refine HI.out.mono ?_
      rintro e w1 ⟨rfl, hb1⟩
      obtain ⟨hcl, hfl⟩ := bcell hb1
      have hcr : ∀ ty cc, (Builtin.clear_ #[30] ty #[.slice (some ⟨g, 2, none⟩) 1 cc]).run Try.prog w1 = .ok (.tuple #[]) (w1.setCells g 2 [.int .i64 0, .int .i64 0]) := fun ty cc => clear_one (by rw [hcl _ _ hg1, c2]; rfl) (by rw [hcl _ _ hg1, c3]; rfl) (by rw [hfl _ _ hg1]; exact f2) (by rw [hfl _ _ hg1]; exact f3) ty
      have hE : Hid (DelE base w g c [(x0, y0)] (.returned (.slice (some ⟨g, 0, none⟩) 1 c)) (w1.setCells g 2 [.int .i64 0, .int .i64 0])) := Lib.hid ⟨rfl, fun i hi => by
        have hi : i < 1 := hi
        match i, hi with
        | 0, _ => exact ⟨by simp [World.setCells, go_sem, hcl _ _ hg1, c0, gp], by simp [World.setCells, go_sem, hcl _ _ hg1, c1, gp]⟩, ((hb1.mono hbs).setCell (p := ⟨g, 2, none⟩) hg _).setCell (p := ⟨g, 3, none⟩) hg _⟩
      go_wp2_with fail
      refine wp_loop_rounds 1 ?_
      rw [rounds_succ]
      go_wp2_with fail
      go_ret
      exact hE.out
  · have h0' : y0 ≤ x0 := by omega
    by_cases h1 : x1 < y1
    · have e1 : keepL (x0, y0) (x1, y1) = [(x1, y1)] := by unfold keepL; rw [if_neg h0, if_pos h1]; rfl
      have e2 : idxK (fun j => decide ((gp [(x0, y0), (x1, y1)] j).2 ≤ (gp [(x0, y0), (x1, y1)] j).1)) [(x0, y0), (x1, y1)].length = 0 := by simp [idxK, gp]; omega
      rw [e1]
      rw [e2] at HI
      have HI := Lib.hid HI
      have HK := Lib.hid (fun W => closK_any x1 y1 W)
      rw [show decide (y1 ≤ x1) = false by simpa using h1] at HK
      clear e1 e2
      go_enter Try.func73, Try.ntmps73
      go_wp2_with fail
      refine HI.out.mono ?_
      rintro e w1 ⟨rfl, hb1⟩
      obtain ⟨hcl, hfl⟩ := bcell hb1
      have c0 := cell_below c0 hb1
      have c1 := cell_below c1 hb1
      have c2 := cell_below c2 hb1
      have c3 := cell_below c3 hb1
      have f0 := (hfl g 0 hg1).trans f0
      have f1 := (hfl g 1 hg1).trans f1
      have f2 := (hfl g 2 hg1).trans f2
      have f3 := (hfl g 3 hg1).trans f3
      have hb := hb1.mono hbs
      have hg1 := block_lt c0
      clear hcl hfl hb1 HI
      go_wp2_with fail
      refine wp_loop_rounds 2 ?_
      rw [rounds_succ]
      go_wp2_with fail
      refine (HK.out _).mono ?_
      rintro e w2 ⟨rfl, hb2⟩
      have hx : Below w1.heap.size w1 w2 := box_below hb2
      obtain ⟨hcl, hfl⟩ := bcell hx
      have s0 := cell_below (show (w1.alloc (.cells #[.int .i64 x1, .int .i64 y1] 26)).cell? ⟨w1.heap.size, 0, none⟩ = some (.int .i64 x1) by simp [go_sem]) hb2
      have s1 := cell_below (show (w1.alloc (.cells #[.int .i64 x1, .int .i64 y1] 26)).cell? ⟨w1.heap.size, 1, none⟩ = some (.int .i64 y1) by simp [go_sem]) hb2
      have c0 := cell_below c0 hx
      have c1 := cell_below c1 hx
      have c2 := cell_below c2 hx
      have c3 := cell_below c3 hx
      have f0 := (hfl g 0 hg1).trans f0
      have f1 := (hfl g 1 hg1).trans f1
      have f2 := (hfl g 2 hg1).trans f2
      have f3 := (hfl g 3 hg1).trans f3
      have hb := hb.trans (hx.mono (Nat.le_trans hbs hb.size))
      clear hcl hfl hb2 hx HK
      have hcr : ∀ ty cc, (Builtin.clear_ #[30] ty #[.slice (some ⟨g, 2, none⟩) 1 cc]).run Try.prog ((w2.setCell ⟨g, 0, none⟩ (.int .i64 x1)).setCell ⟨g, 1, none⟩ (.int .i64 y1)) = .ok (.tuple #[]) (((w2.setCell ⟨g, 0, none⟩ (.int .i64 x1)).setCell ⟨g, 1, none⟩ (.int .i64 y1)).setCells g 2 [.int .i64 0, .int .i64 0]) := fun ty cc => clear_one (by simp [go_sem, c2]) (by simp [go_sem, c3]) (by simp [go_sem, f2]) (by simp [go_sem, f3]) ty
      have hE : Hid (DelE base w g c [(x1, y1)] (.returned (.slice (some ⟨g, 0, none⟩) 1 c)) (((w2.setCell ⟨g, 0, none⟩ (.int .i64 x1)).setCell ⟨g, 1, none⟩ (.int .i64 y1)).setCells g 2 [.int .i64 0, .int .i64 0])) := Lib.hid ⟨rfl, fun i hi => by
        have hi : i < 1 := hi
        match i, hi with
        | 0, _ => exact ⟨by simp [World.setCells, go_sem, c0, gp], by simp [World.setCells, go_sem, c1, gp]⟩, (((hb.setCell (p := ⟨g, 0, none⟩) hg _).setCell (p := ⟨g, 1, none⟩) hg _).setCell (p := ⟨g, 2, none⟩) hg _).setCell (p := ⟨g, 3, none⟩) hg _⟩
      go_wp2_with fail
      rw [rounds_succ]
      go_wp2_with fail
      go_ret
      exact hE.out
    · have h1' : y1 ≤ x1 := by omega
      have e1 : keepL (x0, y0) (x1, y1) = [] := by unfold keepL; rw [if_neg h0, if_neg h1]; rfl
      have e2 : idxK (fun j => decide ((gp [(x0, y0), (x1, y1)] j).2 ≤ (gp [(x0, y0), (x1, y1)] j).1)) [(x0, y0), (x1, y1)].length = 0 := by simp [idxK, gp]; omega
      rw [e1]
      rw [e2] at HI
      have HI := Lib.hid HI
      have HK := Lib.hid (fun W => closK_any x1 y1 W)
      rw [show decide (y1 ≤ x1) = true by simpa using h1] at HK
      clear e1 e2
      go_enter Try.func73, Try.ntmps73
      go_wp2_with fail
      refine HI.out.mono ?_
      rintro e w1 ⟨rfl, hb1⟩
      obtain ⟨hcl, hfl⟩ := bcell hb1
      have c0 := cell_below c0 hb1
      have c1 := cell_below c1 hb1
      have c2 := cell_below c2 hb1
      have c3 := cell_below c3 hb1
      have f0 := (hfl g 0 hg1).trans f0
      have f1 := (hfl g 1 hg1).trans f1
      have f2 := (hfl g 2 hg1).trans f2
      have f3 := (hfl g 3 hg1).trans f3
      have hb := hb1.mono hbs
      have hg1 := block_lt c0
      clear hcl hfl hb1 HI
      go_wp2_with fail
      refine wp_loop_rounds 2 ?_
      rw [rounds_succ]
      go_wp2_with fail
      refine (HK.out _).mono ?_
      rintro e w2 ⟨rfl, hb2⟩
      have hx : Below w1.heap.size w1 w2 := box_below hb2
      obtain ⟨hcl, hfl⟩ := bcell hx
      have c0 := cell_below c0 hx
      have c1 := cell_below c1 hx
      have c2 := cell_below c2 hx
      have c3 := cell_below c3 hx
      have f0 := (hfl g 0 hg1).trans f0
      have f1 := (hfl g 1 hg1).trans f1
      have f2 := (hfl g 2 hg1).trans f2
      have f3 := (hfl g 3 hg1).trans f3
      have hb := hb.trans (hx.mono (Nat.le_trans hbs hb.size))
      clear hcl hfl hb2 hx HK
      have hcr : ∀ ty cc, (Builtin.clear_ #[30] ty #[.slice (some ⟨g, 0, none⟩) 2 cc]).run Try.prog w2 = .ok (.tuple #[]) (w2.setCells g 0 [.int .i64 0, .int .i64 0, .int .i64 0, .int .i64 0]) := fun ty cc => clear_two (by rw [c0]; rfl) (by rw [c1]; rfl) (by rw [c2]; rfl) (by rw [c3]; rfl) f0 f1 f2 f3 ty
      have hE : Hid (DelE base w g c [] (.returned (.slice (some ⟨g, 0, none⟩) 0 c)) (w2.setCells g 0 [.int .i64 0, .int .i64 0, .int .i64 0, .int .i64 0])) := Lib.hid ⟨rfl, (fun i hi => absurd hi (Nat.not_lt_zero _)), (((hb.setCell (p := ⟨g, 0, none⟩) hg _).setCell (p := ⟨g, 1, none⟩) hg _).setCell (p := ⟨g, 2, none⟩) hg _).setCell (p := ⟨g, 3, none⟩) hg _⟩
      go_wp2_with fail
      rw [rounds_succ]
      go_wp2_with fail
      go_ret
      exact hE.out

end Go.Proofs.Ytdiabpcpcilclaa
