/-
  ValidSigns of package rule. By an AI agent.
-/
import Derived.Test.YtiagflackfkmnaaGreatRuG
import Derived.Deep.RegionHeld3
import Derived.BigQuiet
import Derived.BigRegion
namespace Go.Proofs.YtiagflackfkmnaaGreat
set_option linter.unusedVariables false
set_option linter.unusedSimpArgs false
open Go.RowKit

/-- Are all signs right, their numbers aside? -/
def allB (L : Int) (l : List Sgn) : Bool := !(anyK (fun j => !(sgnB L (gs l j))) l.length)
/-- Are signs valid for a line? -/
def sgnsB (L : Int) (js : List Int) (l : List Sgn) : Bool := lineB L js && decide (l.length ≤ 100) && allB L l && numB (nosK l l.length)
set_option maxRecDepth 100000 in
set_option maxHeartbeats 1000000 in
theorem ValidSigns_r (L : Int) (a : Option Addr) (js : List Int) (ca : Nat) (aa : Option Addr) (l : List Sgn) (cl : Nat) (w : World) (hI : IntsS w a js) (hA : SgnS w aa l) :
    Calls Tryz.prog 77 #[.agg #[.int .i64 L, .slice a js.length ca], .slice aa l.length cl] w fun e w' => e = .returned (.bool (sgnsB L js l)) ∧ Below w.heap.size w w' := by
  have H1 := Lib.hid (fun W (hW : Below w.heap.size w W) => ValidLine_r L a js ca W (hI.below hW))
  have H2 := Lib.hid (fun W (hW : Below w.heap.size w W) (hB : w.heap.size < W.heap.size) (c0 : W.cell? ⟨w.heap.size, 0, none⟩ = some (.int .i64 L)) (c1 : W.cell? ⟨w.heap.size, 1, none⟩ = some (.slice a js.length ca)) => containsSg_any aa l cl #[.pointer (some ⟨w.heap.size, 0, none⟩)] (fun j => !(sgnB L (gs l j))) W (hA.below hW) (fun j ad cp W' hj hp hW' => sg1_r L a js ca w.heap.size (gs l j) ad cp W' hp (Nat.lt_of_lt_of_le hB hW'.size) (cell_below c0 hW') (cell_below c1 hW')))
  have H3 := Lib.hid (fun W (hW : Below w.heap.size w W) (h : l.length ≤ 100000000) => numbered_r aa l cl W (hA.below hW) h)
  have hlen := hA.1
  have HV : Hid (sgnsB L js l = (lineB L js && decide (l.length ≤ 100) && allB L l && numB (nosK l l.length))) := Lib.hid rfl
  have hcv : anyK (fun j => !(sgnB L (gs l j))) l.length = !(allB L l) := by unfold allB; simp
  rw [hcv] at H2
  clear hcv hI hA
  cases g0 : lineB L js with
  | false =>
    rw [g0] at H1
    have HR : Hid (sgnsB L js l = false) := Lib.hid (by rw [HV.out, g0]; simp)
    clear HV H2 H3 g0
    go_enter Tryz.func77, Tryz.ntmps77
    go_wp2_with fail
    obtain ⟨wB, hwB⟩ : ∃ wB, w.alloc (.cells #[.int .i64 L, .slice a js.length ca] 24) = wB := ⟨_, rfl⟩
    have hb : Below w.heap.size w wB := by rw [← hwB]; exact (Below.refl _ _).alloc (Nat.le_refl _) _
    have hz : w.heap.size < wB.heap.size := by rw [← hwB]; simp
    have p0 : wB.cell? ⟨w.heap.size, 0, none⟩ = some (.int .i64 L) := by rw [← hwB]; simp [go_sem]
    have p1 : wB.cell? ⟨w.heap.size, 1, none⟩ = some (.slice a js.length ca) := by rw [← hwB]; simp [go_sem]
    rw [hwB]
    clear hwB

    go_wp2_with (go_at_call 76; refine (H1.out _ hb).mono ?_; rintro e w7 ⟨rfl, hb7⟩)
    go_ret
    exact ⟨by rw [HR.out]; rfl, below_onR hb hb7⟩
  | true =>
    rw [g0] at H1
    by_cases h100 : l.length ≤ 100
    · have d100 : decide ((l.length : Int) ≤ 100) = true := decide_eq_true (by omega)
      cases g1 : allB L l with
      | false =>
        rw [g1] at H2
        have HR : Hid (sgnsB L js l = false) := Lib.hid (by rw [HV.out, g0, g1]; simp)
        clear HV H3 g0 g1
        go_enter Tryz.func77, Tryz.ntmps77
        go_wp2_with fail
        obtain ⟨wB, hwB⟩ : ∃ wB, w.alloc (.cells #[.int .i64 L, .slice a js.length ca] 24) = wB := ⟨_, rfl⟩
        have hb : Below w.heap.size w wB := by rw [← hwB]; exact (Below.refl _ _).alloc (Nat.le_refl _) _
        have hz : w.heap.size < wB.heap.size := by rw [← hwB]; simp
        have p0 : wB.cell? ⟨w.heap.size, 0, none⟩ = some (.int .i64 L) := by rw [← hwB]; simp [go_sem]
        have p1 : wB.cell? ⟨w.heap.size, 1, none⟩ = some (.slice a js.length ca) := by rw [← hwB]; simp [go_sem]
        rw [hwB]
        clear hwB

        go_wp2_with (go_at_call 76; refine (H1.out _ hb).mono ?_; rintro e w7 ⟨rfl, hb7⟩; have hz7 := hb7.size; have p07 := cell_below p0 hb7; have p17 := cell_below p1 hb7)
        refine (H2.out _ (below_onR hb hb7) (by omega) p07 p17).mono ?_
        rintro e w8 ⟨rfl, hb8⟩
        go_wp2_with fail
        go_ret
        exact ⟨by rw [HR.out]; rfl, below_onR (below_onR hb hb7) hb8⟩
      | true =>
        rw [g1] at H2
        have HR : Hid (sgnsB L js l = numB (nosK l l.length)) := Lib.hid (by rw [HV.out, g0, g1, decide_eq_true h100]; simp)
        clear HV g0 g1
        go_enter Tryz.func77, Tryz.ntmps77
        go_wp2_with fail
        obtain ⟨wB, hwB⟩ : ∃ wB, w.alloc (.cells #[.int .i64 L, .slice a js.length ca] 24) = wB := ⟨_, rfl⟩
        have hb : Below w.heap.size w wB := by rw [← hwB]; exact (Below.refl _ _).alloc (Nat.le_refl _) _
        have hz : w.heap.size < wB.heap.size := by rw [← hwB]; simp
        have p0 : wB.cell? ⟨w.heap.size, 0, none⟩ = some (.int .i64 L) := by rw [← hwB]; simp [go_sem]
        have p1 : wB.cell? ⟨w.heap.size, 1, none⟩ = some (.slice a js.length ca) := by rw [← hwB]; simp [go_sem]
        rw [hwB]
        clear hwB

        go_wp2_with (go_at_call 76; refine (H1.out _ hb).mono ?_; rintro e w7 ⟨rfl, hb7⟩; have hz7 := hb7.size; have p07 := cell_below p0 hb7; have p17 := cell_below p1 hb7)
        refine (H2.out _ (below_onR hb hb7) (by omega) p07 p17).mono ?_
        rintro e w8 ⟨rfl, hb8⟩
        have hbA := below_onR (below_onR hb hb7) hb8
        generalize numB (nosK l l.length) = NB at *
        go_wp2_with fail
        refine (H3.out _ hbA (by omega)).mono ?_
        rintro e w9 ⟨rfl, hb9⟩
        go_wp2_with fail
        go_ret
        exact ⟨by rw [HR.out]; cases NB <;> rfl, below_onR hbA hb9⟩
    · have d100 : decide ((l.length : Int) ≤ 100) = false := decide_eq_false (by omega)
      have HR : Hid (sgnsB L js l = false) := Lib.hid (by rw [HV.out, g0, decide_eq_false h100]; simp)
      clear HV H2 H3 g0
      go_enter Tryz.func77, Tryz.ntmps77
      go_wp2_with fail
      obtain ⟨wB, hwB⟩ : ∃ wB, w.alloc (.cells #[.int .i64 L, .slice a js.length ca] 24) = wB := ⟨_, rfl⟩
      have hb : Below w.heap.size w wB := by rw [← hwB]; exact (Below.refl _ _).alloc (Nat.le_refl _) _
      have hz : w.heap.size < wB.heap.size := by rw [← hwB]; simp
      have p0 : wB.cell? ⟨w.heap.size, 0, none⟩ = some (.int .i64 L) := by rw [← hwB]; simp [go_sem]
      have p1 : wB.cell? ⟨w.heap.size, 1, none⟩ = some (.slice a js.length ca) := by rw [← hwB]; simp [go_sem]
      rw [hwB]
      clear hwB

      go_wp2_with (go_at_call 76; refine (H1.out _ hb).mono ?_; rintro e w7 ⟨rfl, hb7⟩)
      go_ret
      exact ⟨by rw [HR.out]; rfl, below_onR hb hb7⟩
end Go.Proofs.YtiagflackfkmnaaGreat
