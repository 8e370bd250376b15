/-
  listsError of package rule. By an AI agent.
-/
import Derived.Test.YtiagflackfkmnaaGreatRuJ
import Derived.Deep.RegionHeld3
import Derived.BigQuiet
import Derived.BigRegion
namespace Go.Proofs.YtiagflackfkmnaaGreat
set_option linter.unusedVariables false
set_option linter.unusedSimpArgs false
open Go.RowKit

/-- What is wrong with a line, signs and edicts. -/
def lstE (L : Int) (js : List Int) (l : List Sgn) (q : List Edc) : Int := if lineB L js = false then 70 else if sgnsB L js l = false then 71 else if edcsB L js q = false then 72 else 0
set_option maxRecDepth 100000 in
set_option maxHeartbeats 1000000 in
theorem listsError_r (L : Int) (a : Option Addr) (js : List Int) (ca : Nat) (aa : Option Addr) (l : List Sgn) (cl : Nat) (ae : Option Addr) (q : List Edc) (cq : Nat) (w : World) (hI : IntsS w a js) (hA : SgnS w aa l) (hE : EdS w ae q) :
    Calls Tryz.prog 44 #[.agg #[.int .i64 L, .slice a js.length ca], .slice aa l.length cl, .slice ae q.length cq] w fun e w' => e = .returned (.int .i64 (lstE L js l q)) ∧ Below w.heap.size w w' := by
  have H1 := Lib.hid (fun W (hW : Below w.heap.size w W) => ValidLine_r L a js ca W (hI.below hW))
  have H2 := Lib.hid (fun W (hW : Below w.heap.size w W) => ValidSigns_r L a js ca aa l cl W (hI.below hW) (hA.below hW))
  have H3 := Lib.hid (fun W (hW : Below w.heap.size w W) => ValidEdicts_r L a js ca ae q cq W (hI.below hW) (hE.below hW))
  clear hI hA hE
  cases g0 : lineB L js with
  | false =>
    rw [g0] at H1
    have HR : Hid (lstE L js l q = 70) := Lib.hid (by unfold lstE; rw [g0]; simp)
    clear H2 H3 g0
    go_enter Tryz.func44, Tryz.ntmps44
    go_wp2_with fail
    obtain ⟨wB, hwB⟩ : ∃ wB, w.alloc (.cells #[.int .i64 L, .slice a js.length ca] 24) = wB := ⟨_, rfl⟩
    have hb : Below w.heap.size w wB := by rw [← hwB]; exact (Below.refl _ _).alloc (Nat.le_refl _) _
    have p0 : wB.cell? ⟨w.heap.size, 0, none⟩ = some (.int .i64 L) := by rw [← hwB]; simp [go_sem]
    have p1 : wB.cell? ⟨w.heap.size, 1, none⟩ = some (.slice a js.length ca) := by rw [← hwB]; simp [go_sem]
    rw [hwB]
    clear hwB
    go_wp2_with (go_at_call 76; refine (H1.out _ hb).mono ?_; rintro e w7 ⟨rfl, hb7⟩; have hz7 := hb7.size; have p07 := cell_below p0 hb7; have p17 := cell_below p1 hb7)
    go_ret
    exact ⟨by rw [HR.out]; rfl, below_onR hb hb7⟩
  | true =>
    rw [g0] at H1
    cases g1 : sgnsB L js l with
    | false =>
      rw [g1] at H2
      have HR : Hid (lstE L js l q = 71) := Lib.hid (by unfold lstE; rw [g0, g1]; simp)
      clear H3 g0 g1
      go_enter Tryz.func44, Tryz.ntmps44
      go_wp2_with fail
      obtain ⟨wB, hwB⟩ : ∃ wB, w.alloc (.cells #[.int .i64 L, .slice a js.length ca] 24) = wB := ⟨_, rfl⟩
      have hb : Below w.heap.size w wB := by rw [← hwB]; exact (Below.refl _ _).alloc (Nat.le_refl _) _
      have p0 : wB.cell? ⟨w.heap.size, 0, none⟩ = some (.int .i64 L) := by rw [← hwB]; simp [go_sem]
      have p1 : wB.cell? ⟨w.heap.size, 1, none⟩ = some (.slice a js.length ca) := by rw [← hwB]; simp [go_sem]
      rw [hwB]
      clear hwB
      go_wp2_with (first | (go_at_call 76; refine (H1.out _ hb).mono ?_; rintro e w7 ⟨rfl, hb7⟩; have hz7 := hb7.size; have p07 := cell_below p0 hb7; have p17 := cell_below p1 hb7) | (go_at_call 77; refine (H2.out _ (below_onR hb hb7)).mono ?_; rintro e w8 ⟨rfl, hb8⟩))
      go_ret
      exact ⟨by rw [HR.out]; rfl, below_onR (below_onR hb hb7) hb8⟩
    | true =>
      rw [g1] at H2
      have HT : Hid (lstE L js l q = if edcsB L js q = false then 72 else 0) := Lib.hid (by unfold lstE; rw [g0, g1]; simp)
      clear g0 g1
      cases g2 : edcsB L js q with
      | false =>
        rw [g2] at H3
        have HR := Lib.hid (HT.out)
        rw [g2] at HR
        clear HT g2
        go_enter Tryz.func44, Tryz.ntmps44
        go_wp2_with fail
        obtain ⟨wB, hwB⟩ : ∃ wB, w.alloc (.cells #[.int .i64 L, .slice a js.length ca] 24) = wB := ⟨_, rfl⟩
        have hb : Below w.heap.size w wB := by rw [← hwB]; exact (Below.refl _ _).alloc (Nat.le_refl _) _
        have p0 : wB.cell? ⟨w.heap.size, 0, none⟩ = some (.int .i64 L) := by rw [← hwB]; simp [go_sem]
        have p1 : wB.cell? ⟨w.heap.size, 1, none⟩ = some (.slice a js.length ca) := by rw [← hwB]; simp [go_sem]
        rw [hwB]
        clear hwB
        go_wp2_with (first | (go_at_call 76; refine (H1.out _ hb).mono ?_; rintro e w7 ⟨rfl, hb7⟩; have hz7 := hb7.size; have p07 := cell_below p0 hb7; have p17 := cell_below p1 hb7) | (go_at_call 77; refine (H2.out _ (below_onR hb hb7)).mono ?_; rintro e w8 ⟨rfl, hb8⟩; have p08 := cell_below p07 hb8; have p18 := cell_below p17 hb8) | (go_at_call 78; refine (H3.out _ (below_onR (below_onR hb hb7) hb8)).mono ?_; rintro e w9 ⟨rfl, hb9⟩))
        go_ret
        exact ⟨by rw [HR.out]; rfl, below_onR (below_onR (below_onR hb hb7) hb8) hb9⟩
      | true =>
        rw [g2] at H3
        have HR := Lib.hid (HT.out)
        rw [g2] at HR
        clear HT g2
        go_enter Tryz.func44, Tryz.ntmps44
        go_wp2_with fail
        obtain ⟨wB, hwB⟩ : ∃ wB, w.alloc (.cells #[.int .i64 L, .slice a js.length ca] 24) = wB := ⟨_, rfl⟩
        have hb : Below w.heap.size w wB := by rw [← hwB]; exact (Below.refl _ _).alloc (Nat.le_refl _) _
        have p0 : wB.cell? ⟨w.heap.size, 0, none⟩ = some (.int .i64 L) := by rw [← hwB]; simp [go_sem]
        have p1 : wB.cell? ⟨w.heap.size, 1, none⟩ = some (.slice a js.length ca) := by rw [← hwB]; simp [go_sem]
        rw [hwB]
        clear hwB
        go_wp2_with (first | (go_at_call 76; refine (H1.out _ hb).mono ?_; rintro e w7 ⟨rfl, hb7⟩; have hz7 := hb7.size; have p07 := cell_below p0 hb7; have p17 := cell_below p1 hb7) | (go_at_call 77; refine (H2.out _ (below_onR hb hb7)).mono ?_; rintro e w8 ⟨rfl, hb8⟩; have p08 := cell_below p07 hb8; have p18 := cell_below p17 hb8) | (go_at_call 78; refine (H3.out _ (below_onR (below_onR hb hb7) hb8)).mono ?_; rintro e w9 ⟨rfl, hb9⟩))
        go_ret
        exact ⟨by rw [HR.out]; rfl, below_onR (below_onR (below_onR hb hb7) hb8) hb9⟩
end Go.Proofs.YtiagflackfkmnaaGreat
