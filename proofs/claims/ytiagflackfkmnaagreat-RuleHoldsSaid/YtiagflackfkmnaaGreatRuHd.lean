/-
  isMetre, Holds and Must of both. By an AI agent.
-/
import Derived.Test.YtiagflackfkmnaaGreatRuHc
import Derived.Deep.RegionHeld3
import Derived.BigQuiet
import Derived.BigRegion
namespace Go.Proofs.YtiagflackfkmnaaGreat
set_option linter.unusedVariables false
set_option linter.unusedSimpArgs false
open Go.RowKit

set_option maxRecDepth 100000 in
set_option maxHeartbeats 1000000 in
theorem isMetre_r (L : Int) (a : Option Addr) (n ca : Nat) (m : Int) (hL1 : 0 ≤ L) (hL2 : L ≤ 100000) (w : World) :
    Calls Tryz.prog 52 #[.agg #[.int .i64 L, .slice a n ca], .int .i64 m] w fun e w' => e = .returned (.bool (btw m 0 (L - 1))) ∧ Below w.heap.size w w' := by
  have HW := Lib.hid (fun W => within_r 0 (L - 1) m W)
  generalize btw m 0 (L - 1) = bb at *
  go_enter Tryz.func52, Tryz.ntmps52
  go_wp2_with (go_at_call 79; refine (HW.out _).mono ?_; rintro e w1 ⟨rfl, rfl⟩)
  go_ret
  exact ⟨rfl, (Below.refl _ _).alloc (Nat.le_refl _) _⟩
theorem sg_nil (w : World) : SgnS w none [] := ⟨by decide, 0, 0, fun _ => none, fun _ => 0, fun h => (h rfl).elim, fun i hi => absurd hi (Nat.not_lt_zero i)⟩
set_option maxRecDepth 100000 in
set_option maxHeartbeats 1000000 in
theorem Holds_bad (L : Int) (a : Option Addr) (js : List Int) (ca : Nat) (aa : Option Addr) (l : List Sgn) (cl : Nat) (h dir tp m : Int) (hV : lstE L js l [] ≠ 0) (w : World) (hI : IntsS w a js) (hA : SgnS w aa l) :
    Calls Tryz.prog 21 #[.agg #[.int .i64 L, .slice a js.length ca], .slice aa l.length cl, .int .i64 h, .int .i64 dir, .int .i64 tp, .int .i64 m] w fun e w' => e = .returned (.tuple #[.int .i64 0, .int .i64 (lstE L js l [])]) ∧ Below w.heap.size w w' := by
  have H1 := Lib.hid (fun W (hW : Below w.heap.size w W) => listsError_r L a js ca aa l cl none [] 0 W (hI.below hW) (hA.below hW) (ed_nilR W))
  clear hI hA
  generalize lstE L js l [] = E at *
  have d1 : (E != 0) = true := by simp [hV]
  clear hV
  go_enter Tryz.func21, Tryz.ntmps21
  go_wp2_with fail
  obtain ⟨wB, hwB⟩ : ∃ wB, w.alloc (.cells #[.int .i64 L, .slice a js.length ca] 24) = wB := ⟨_, rfl⟩
  have hb : Below w.heap.size w wB := by rw [← hwB]; exact (Below.refl _ _).alloc (Nat.le_refl _) _
  have l0 : wB.cell? ⟨w.heap.size, 0, none⟩ = some (.int .i64 L) := by rw [← hwB]; simp [go_sem]
  have l1 : wB.cell? ⟨w.heap.size, 1, none⟩ = some (.slice a js.length ca) := by rw [← hwB]; simp [go_sem]
  rw [hwB]
  clear hwB
  go_wp2_with (go_at_call 44; refine (H1.out _ hb).mono ?_; rintro e w1 ⟨rfl, hb1⟩)
  go_ret2
  exact ⟨rfl, hb.trans (hb1.mono hb.size)⟩
set_option maxRecDepth 100000 in
set_option maxHeartbeats 1000000 in
theorem Holds_arg (L : Int) (a : Option Addr) (js : List Int) (ca : Nat) (aa : Option Addr) (l : List Sgn) (cl : Nat) (h dir tp m : Int) (hV : lstE L js l [] = 0) (hx : ((btw h 0 10000000) && (dirB dir) && (topB tp) && (btw m 0 (L - 1))) = false) (w : World) (hI : IntsS w a js) (hA : SgnS w aa l) :
    Calls Tryz.prog 21 #[.agg #[.int .i64 L, .slice a js.length ca], .slice aa l.length cl, .int .i64 h, .int .i64 dir, .int .i64 tp, .int .i64 m] w fun e w' => e = .returned (.tuple #[.int .i64 0, .int .i64 2]) ∧ Below w.heap.size w w' := by
  have hLb := (lst_good hV).1
  have H1 := Lib.hid (fun W (hW : Below w.heap.size w W) => by
    have := listsError_r L a js ca aa l cl none [] 0 W (hI.below hW) (hA.below hW) (ed_nilR W)
    rw [hV] at this
    exact this)
  have K0 := Lib.hid (fun W => isHour_r h W)
  have K1 := Lib.hid (fun W => isDir_r dir W)
  have K2 := Lib.hid (fun W => isTopic_r tp W)
  have K3 := Lib.hid (fun W => isMetre_r L a js.length ca m hLb.1 hLb.2 W)
  clear hI hA hV hLb
  generalize btw h 0 10000000 = b0 at *
  generalize dirB dir = b1 at *
  generalize topB tp = b2 at *
  generalize btw m 0 (L - 1) = b3 at *
  cases b0 with
  | false =>
    clear hx
    go_enter Tryz.func21, Tryz.ntmps21
    go_wp2_with fail
    obtain ⟨wB, hwB⟩ : ∃ wB, w.alloc (.cells #[.int .i64 L, .slice a js.length ca] 24) = wB := ⟨_, rfl⟩
    have hb : Below w.heap.size w wB := by rw [← hwB]; exact (Below.refl _ _).alloc (Nat.le_refl _) _
    have l0 : wB.cell? ⟨w.heap.size, 0, none⟩ = some (.int .i64 L) := by rw [← hwB]; simp [go_sem]
    have l1 : wB.cell? ⟨w.heap.size, 1, none⟩ = some (.slice a js.length ca) := by rw [← hwB]; simp [go_sem]
    rw [hwB]
    clear hwB
    go_wp2_with (first | (go_at_call 44; refine (H1.out _ hb).mono ?_; rintro e w1 ⟨rfl, hb1⟩; replace hb := hb.trans (hb1.mono hb.size); replace l0 := cell_below l0 hb1; replace l1 := cell_below l1 hb1; clear hb1) | (go_at_call 45; refine (K0.out _).mono ?_; rintro e w2 ⟨rfl, rfl⟩) | (go_at_call 46; refine (K1.out _).mono ?_; rintro e w2 ⟨rfl, rfl⟩) | (go_at_call 51; refine (K2.out _).mono ?_; rintro e w2 ⟨rfl, rfl⟩) | (go_at_call 52; refine (K3.out _).mono ?_; rintro e w2 ⟨rfl, hb2⟩; replace hb := hb.trans (hb2.mono hb.size); replace l0 := cell_below l0 hb2; replace l1 := cell_below l1 hb2; clear hb2))
    go_ret2
    exact ⟨rfl, hb⟩
  | true =>
    cases b1 with
    | false =>
      clear hx
      go_enter Tryz.func21, Tryz.ntmps21
      go_wp2_with fail
      obtain ⟨wB, hwB⟩ : ∃ wB, w.alloc (.cells #[.int .i64 L, .slice a js.length ca] 24) = wB := ⟨_, rfl⟩
      have hb : Below w.heap.size w wB := by rw [← hwB]; exact (Below.refl _ _).alloc (Nat.le_refl _) _
      have l0 : wB.cell? ⟨w.heap.size, 0, none⟩ = some (.int .i64 L) := by rw [← hwB]; simp [go_sem]
      have l1 : wB.cell? ⟨w.heap.size, 1, none⟩ = some (.slice a js.length ca) := by rw [← hwB]; simp [go_sem]
      rw [hwB]
      clear hwB
      go_wp2_with (first | (go_at_call 44; refine (H1.out _ hb).mono ?_; rintro e w1 ⟨rfl, hb1⟩; replace hb := hb.trans (hb1.mono hb.size); replace l0 := cell_below l0 hb1; replace l1 := cell_below l1 hb1; clear hb1) | (go_at_call 45; refine (K0.out _).mono ?_; rintro e w2 ⟨rfl, rfl⟩) | (go_at_call 46; refine (K1.out _).mono ?_; rintro e w2 ⟨rfl, rfl⟩) | (go_at_call 51; refine (K2.out _).mono ?_; rintro e w2 ⟨rfl, rfl⟩) | (go_at_call 52; refine (K3.out _).mono ?_; rintro e w2 ⟨rfl, hb2⟩; replace hb := hb.trans (hb2.mono hb.size); replace l0 := cell_below l0 hb2; replace l1 := cell_below l1 hb2; clear hb2))
      go_ret2
      exact ⟨rfl, hb⟩
    | true =>
      cases b2 with
      | false =>
        clear hx
        go_enter Tryz.func21, Tryz.ntmps21
        go_wp2_with fail
        obtain ⟨wB, hwB⟩ : ∃ wB, w.alloc (.cells #[.int .i64 L, .slice a js.length ca] 24) = wB := ⟨_, rfl⟩
        have hb : Below w.heap.size w wB := by rw [← hwB]; exact (Below.refl _ _).alloc (Nat.le_refl _) _
        have l0 : wB.cell? ⟨w.heap.size, 0, none⟩ = some (.int .i64 L) := by rw [← hwB]; simp [go_sem]
        have l1 : wB.cell? ⟨w.heap.size, 1, none⟩ = some (.slice a js.length ca) := by rw [← hwB]; simp [go_sem]
        rw [hwB]
        clear hwB
        go_wp2_with (first | (go_at_call 44; refine (H1.out _ hb).mono ?_; rintro e w1 ⟨rfl, hb1⟩; replace hb := hb.trans (hb1.mono hb.size); replace l0 := cell_below l0 hb1; replace l1 := cell_below l1 hb1; clear hb1) | (go_at_call 45; refine (K0.out _).mono ?_; rintro e w2 ⟨rfl, rfl⟩) | (go_at_call 46; refine (K1.out _).mono ?_; rintro e w2 ⟨rfl, rfl⟩) | (go_at_call 51; refine (K2.out _).mono ?_; rintro e w2 ⟨rfl, rfl⟩) | (go_at_call 52; refine (K3.out _).mono ?_; rintro e w2 ⟨rfl, hb2⟩; replace hb := hb.trans (hb2.mono hb.size); replace l0 := cell_below l0 hb2; replace l1 := cell_below l1 hb2; clear hb2))
        go_ret2
        exact ⟨rfl, hb⟩
      | true =>
        cases b3 with
        | false =>
          clear hx
          go_enter Tryz.func21, Tryz.ntmps21
          go_wp2_with fail
          obtain ⟨wB, hwB⟩ : ∃ wB, w.alloc (.cells #[.int .i64 L, .slice a js.length ca] 24) = wB := ⟨_, rfl⟩
          have hb : Below w.heap.size w wB := by rw [← hwB]; exact (Below.refl _ _).alloc (Nat.le_refl _) _
          have l0 : wB.cell? ⟨w.heap.size, 0, none⟩ = some (.int .i64 L) := by rw [← hwB]; simp [go_sem]
          have l1 : wB.cell? ⟨w.heap.size, 1, none⟩ = some (.slice a js.length ca) := by rw [← hwB]; simp [go_sem]
          rw [hwB]
          clear hwB
          go_wp2_with (first | (go_at_call 44; refine (H1.out _ hb).mono ?_; rintro e w1 ⟨rfl, hb1⟩; replace hb := hb.trans (hb1.mono hb.size); replace l0 := cell_below l0 hb1; replace l1 := cell_below l1 hb1; clear hb1) | (go_at_call 45; refine (K0.out _).mono ?_; rintro e w2 ⟨rfl, rfl⟩) | (go_at_call 46; refine (K1.out _).mono ?_; rintro e w2 ⟨rfl, rfl⟩) | (go_at_call 51; refine (K2.out _).mono ?_; rintro e w2 ⟨rfl, rfl⟩) | (go_at_call 52; refine (K3.out _).mono ?_; rintro e w2 ⟨rfl, hb2⟩; replace hb := hb.trans (hb2.mono hb.size); replace l0 := cell_below l0 hb2; replace l1 := cell_below l1 hb2; clear hb2))
          go_ret2
          exact ⟨rfl, hb⟩
        | true =>
          cases hx
set_option maxRecDepth 100000 in
set_option maxHeartbeats 1000000 in
theorem Must_bad (L : Int) (a : Option Addr) (js : List Int) (ca : Nat) (ae : Option Addr) (q : List Edc) (cq : Nat) (h dir tp m : Int) (hV : lstE L js [] q ≠ 0) (w : World) (hI : IntsS w a js) (hE : EdS w ae q) :
    Calls Tryz.prog 22 #[.agg #[.int .i64 L, .slice a js.length ca], .slice ae q.length cq, .int .i64 h, .int .i64 dir, .int .i64 tp, .int .i64 m] w fun e w' => e = .returned (.tuple #[.int .i64 0, .int .i64 (lstE L js [] q)]) ∧ Below w.heap.size w w' := by
  have H1 := Lib.hid (fun W (hW : Below w.heap.size w W) => listsError_r L a js ca none [] 0 ae q cq W (hI.below hW) (sg_nil W) (hE.below hW))
  clear hI hE
  generalize lstE L js [] q = E at *
  have d1 : (E != 0) = true := by simp [hV]
  clear hV
  go_enter Tryz.func22, Tryz.ntmps22
  go_wp2_with fail
  obtain ⟨wB, hwB⟩ : ∃ wB, w.alloc (.cells #[.int .i64 L, .slice a js.length ca] 24) = wB := ⟨_, rfl⟩
  have hb : Below w.heap.size w wB := by rw [← hwB]; exact (Below.refl _ _).alloc (Nat.le_refl _) _
  have l0 : wB.cell? ⟨w.heap.size, 0, none⟩ = some (.int .i64 L) := by rw [← hwB]; simp [go_sem]
  have l1 : wB.cell? ⟨w.heap.size, 1, none⟩ = some (.slice a js.length ca) := by rw [← hwB]; simp [go_sem]
  rw [hwB]
  clear hwB
  go_wp2_with (go_at_call 44; refine (H1.out _ hb).mono ?_; rintro e w1 ⟨rfl, hb1⟩)
  go_ret2
  exact ⟨rfl, hb.trans (hb1.mono hb.size)⟩
set_option maxRecDepth 100000 in
set_option maxHeartbeats 1000000 in
theorem Must_arg (L : Int) (a : Option Addr) (js : List Int) (ca : Nat) (ae : Option Addr) (q : List Edc) (cq : Nat) (h dir tp m : Int) (hV : lstE L js [] q = 0) (hx : ((btw h 0 10000000) && (dirB dir) && (topB tp) && (btw m 0 (L - 1))) = false) (w : World) (hI : IntsS w a js) (hE : EdS w ae q) :
    Calls Tryz.prog 22 #[.agg #[.int .i64 L, .slice a js.length ca], .slice ae q.length cq, .int .i64 h, .int .i64 dir, .int .i64 tp, .int .i64 m] w fun e w' => e = .returned (.tuple #[.int .i64 0, .int .i64 2]) ∧ Below w.heap.size w w' := by
  have hLb := (lst_good hV).1
  have H1 := Lib.hid (fun W (hW : Below w.heap.size w W) => by
    have := listsError_r L a js ca none [] 0 ae q cq W (hI.below hW) (sg_nil W) (hE.below hW)
    rw [hV] at this
    exact this)
  have K0 := Lib.hid (fun W => isHour_r h W)
  have K1 := Lib.hid (fun W => isDir_r dir W)
  have K2 := Lib.hid (fun W => isTopic_r tp W)
  have K3 := Lib.hid (fun W => isMetre_r L a js.length ca m hLb.1 hLb.2 W)
  clear hI hE hV hLb
  generalize btw h 0 10000000 = b0 at *
  generalize dirB dir = b1 at *
  generalize topB tp = b2 at *
  generalize btw m 0 (L - 1) = b3 at *
  cases b0 with
  | false =>
    clear hx
    go_enter Tryz.func22, Tryz.ntmps22
    go_wp2_with fail
    obtain ⟨wB, hwB⟩ : ∃ wB, w.alloc (.cells #[.int .i64 L, .slice a js.length ca] 24) = wB := ⟨_, rfl⟩
    have hb : Below w.heap.size w wB := by rw [← hwB]; exact (Below.refl _ _).alloc (Nat.le_refl _) _
    have l0 : wB.cell? ⟨w.heap.size, 0, none⟩ = some (.int .i64 L) := by rw [← hwB]; simp [go_sem]
    have l1 : wB.cell? ⟨w.heap.size, 1, none⟩ = some (.slice a js.length ca) := by rw [← hwB]; simp [go_sem]
    rw [hwB]
    clear hwB
    go_wp2_with (first | (go_at_call 44; refine (H1.out _ hb).mono ?_; rintro e w1 ⟨rfl, hb1⟩; replace hb := hb.trans (hb1.mono hb.size); replace l0 := cell_below l0 hb1; replace l1 := cell_below l1 hb1; clear hb1) | (go_at_call 45; refine (K0.out _).mono ?_; rintro e w2 ⟨rfl, rfl⟩) | (go_at_call 46; refine (K1.out _).mono ?_; rintro e w2 ⟨rfl, rfl⟩) | (go_at_call 51; refine (K2.out _).mono ?_; rintro e w2 ⟨rfl, rfl⟩) | (go_at_call 52; refine (K3.out _).mono ?_; rintro e w2 ⟨rfl, hb2⟩; replace hb := hb.trans (hb2.mono hb.size); replace l0 := cell_below l0 hb2; replace l1 := cell_below l1 hb2; clear hb2))
    go_ret2
    exact ⟨rfl, hb⟩
  | true =>
    cases b1 with
    | false =>
      clear hx
      go_enter Tryz.func22, Tryz.ntmps22
      go_wp2_with fail
      obtain ⟨wB, hwB⟩ : ∃ wB, w.alloc (.cells #[.int .i64 L, .slice a js.length ca] 24) = wB := ⟨_, rfl⟩
      have hb : Below w.heap.size w wB := by rw [← hwB]; exact (Below.refl _ _).alloc (Nat.le_refl _) _
      have l0 : wB.cell? ⟨w.heap.size, 0, none⟩ = some (.int .i64 L) := by rw [← hwB]; simp [go_sem]
      have l1 : wB.cell? ⟨w.heap.size, 1, none⟩ = some (.slice a js.length ca) := by rw [← hwB]; simp [go_sem]
      rw [hwB]
      clear hwB
      go_wp2_with (first | (go_at_call 44; refine (H1.out _ hb).mono ?_; rintro e w1 ⟨rfl, hb1⟩; replace hb := hb.trans (hb1.mono hb.size); replace l0 := cell_below l0 hb1; replace l1 := cell_below l1 hb1; clear hb1) | (go_at_call 45; refine (K0.out _).mono ?_; rintro e w2 ⟨rfl, rfl⟩) | (go_at_call 46; refine (K1.out _).mono ?_; rintro e w2 ⟨rfl, rfl⟩) | (go_at_call 51; refine (K2.out _).mono ?_; rintro e w2 ⟨rfl, rfl⟩) | (go_at_call 52; refine (K3.out _).mono ?_; rintro e w2 ⟨rfl, hb2⟩; replace hb := hb.trans (hb2.mono hb.size); replace l0 := cell_below l0 hb2; replace l1 := cell_below l1 hb2; clear hb2))
      go_ret2
      exact ⟨rfl, hb⟩
    | true =>
      cases b2 with
      | false =>
        clear hx
        go_enter Tryz.func22, Tryz.ntmps22
        go_wp2_with fail
        obtain ⟨wB, hwB⟩ : ∃ wB, w.alloc (.cells #[.int .i64 L, .slice a js.length ca] 24) = wB := ⟨_, rfl⟩
        have hb : Below w.heap.size w wB := by rw [← hwB]; exact (Below.refl _ _).alloc (Nat.le_refl _) _
        have l0 : wB.cell? ⟨w.heap.size, 0, none⟩ = some (.int .i64 L) := by rw [← hwB]; simp [go_sem]
        have l1 : wB.cell? ⟨w.heap.size, 1, none⟩ = some (.slice a js.length ca) := by rw [← hwB]; simp [go_sem]
        rw [hwB]
        clear hwB
        go_wp2_with (first | (go_at_call 44; refine (H1.out _ hb).mono ?_; rintro e w1 ⟨rfl, hb1⟩; replace hb := hb.trans (hb1.mono hb.size); replace l0 := cell_below l0 hb1; replace l1 := cell_below l1 hb1; clear hb1) | (go_at_call 45; refine (K0.out _).mono ?_; rintro e w2 ⟨rfl, rfl⟩) | (go_at_call 46; refine (K1.out _).mono ?_; rintro e w2 ⟨rfl, rfl⟩) | (go_at_call 51; refine (K2.out _).mono ?_; rintro e w2 ⟨rfl, rfl⟩) | (go_at_call 52; refine (K3.out _).mono ?_; rintro e w2 ⟨rfl, hb2⟩; replace hb := hb.trans (hb2.mono hb.size); replace l0 := cell_below l0 hb2; replace l1 := cell_below l1 hb2; clear hb2))
        go_ret2
        exact ⟨rfl, hb⟩
      | true =>
        cases b3 with
        | false =>
          clear hx
          go_enter Tryz.func22, Tryz.ntmps22
          go_wp2_with fail
          obtain ⟨wB, hwB⟩ : ∃ wB, w.alloc (.cells #[.int .i64 L, .slice a js.length ca] 24) = wB := ⟨_, rfl⟩
          have hb : Below w.heap.size w wB := by rw [← hwB]; exact (Below.refl _ _).alloc (Nat.le_refl _) _
          have l0 : wB.cell? ⟨w.heap.size, 0, none⟩ = some (.int .i64 L) := by rw [← hwB]; simp [go_sem]
          have l1 : wB.cell? ⟨w.heap.size, 1, none⟩ = some (.slice a js.length ca) := by rw [← hwB]; simp [go_sem]
          rw [hwB]
          clear hwB
          go_wp2_with (first | (go_at_call 44; refine (H1.out _ hb).mono ?_; rintro e w1 ⟨rfl, hb1⟩; replace hb := hb.trans (hb1.mono hb.size); replace l0 := cell_below l0 hb1; replace l1 := cell_below l1 hb1; clear hb1) | (go_at_call 45; refine (K0.out _).mono ?_; rintro e w2 ⟨rfl, rfl⟩) | (go_at_call 46; refine (K1.out _).mono ?_; rintro e w2 ⟨rfl, rfl⟩) | (go_at_call 51; refine (K2.out _).mono ?_; rintro e w2 ⟨rfl, rfl⟩) | (go_at_call 52; refine (K3.out _).mono ?_; rintro e w2 ⟨rfl, hb2⟩; replace hb := hb.trans (hb2.mono hb.size); replace l0 := cell_below l0 hb2; replace l1 := cell_below l1 hb2; clear hb2))
          go_ret2
          exact ⟨rfl, hb⟩
        | true =>
          cases hx
/-- What holds on a metre. -/
def hldV (L : Int) (js : List Int) (l : List Sgn) (h dir t m : Int) : Int := hS L js dir t (begK L dir m) (insR L dir h l l.length) 0
/-- Is an edict for a metre? -/
def edB (x : Edc) (h t d m : Int) : Bool := (x.tp == t) && ((x.d == d) && (decide (x.fr ≤ m) && (decide (m < x.tt) && (decide (x.st ≤ h) && decide (h < x.en)))))
/-- The greatest number of the first k edicts for a metre, and its value. -/
def mustK (q : List Edc) (h t d m : Int) : Nat → Int × Int
  | 0 => (0, 0)
  | k + 1 => if (edB (ge q k) h t d m && decide ((mustK q h t d m k).1 < (ge q k).n)) = true then ((ge q k).n, (ge q k).v) else mustK q h t d m k
def mustV (q : List Edc) (h t d m : Int) : Int := (mustK q h t d m q.length).2
set_option maxRecDepth 100000 in
set_option maxHeartbeats 4000000 in
theorem mustAt_r (ae : Option Addr) (q : List Edc) (cq : Nat) (h t d m : Int) (w : World) (hE : EdS w ae q) :
    Calls Tryz.prog 55 #[.slice ae q.length cq, .int .i64 h, .agg #[.int .i64 t, .int .i64 d], .int .i64 m] w fun e w' => e = .returned (.int .i64 (mustV q h t d m)) ∧ Below w.heap.size w w' := by
  obtain ⟨hlen, blk, off, hadr, hc⟩ := hE
  have HC := Lib.hid hc
  have HL : Hid (0 < q.length → ae = some ⟨blk, off, none⟩) := Lib.hid fun h => hadr (List.ne_nil_of_length_pos h)
  clear hc hadr
  go_enter Tryz.func55, Tryz.ntmps55
  go_wp2_with fail
  obtain ⟨wB, hwB⟩ : ∃ wB, w.alloc (.cells #[.int .i64 t, .int .i64 d] 91) = wB := ⟨_, rfl⟩
  have hb : Below w.heap.size w wB := by rw [← hwB]; exact (Below.refl _ _).alloc (Nat.le_refl _) _
  have p0 : wB.cell? ⟨w.heap.size, 0, none⟩ = some (.int .i64 t) := by rw [← hwB]; simp [go_sem]
  have p1 : wB.cell? ⟨w.heap.size, 1, none⟩ = some (.int .i64 d) := by rw [← hwB]; simp [go_sem]
  rw [hwB]
  clear hwB
  have P0 := Lib.hid p0
  have P1 := Lib.hid p1
  have HB := Lib.hid hb
  clear p0 p1 hb
  go_wp2_with fail
  go_loopw [9, 10, 15] (fun g9 v9 i9 wr => ∃ k : Nat, k ≤ q.length ∧ i9 = .int .i64 k ∧ g9 = .int .i64 (mustK q h t d m k).1 ∧ v9 = .int .i64 (mustK q h t d m k).2 ∧ Below wB.heap.size wB wr) (fun _ _ i9 _ => q.length - (intOf i9).toNat)
  case atStart => exact ⟨0, Nat.zero_le _, rfl, rfl, rfl, Below.refl _ _⟩
  case round =>
    obtain ⟨k, hk, rfl, rfl, rfl, hbr⟩ := hrel
    have hbw := HB.out.trans (hbr.mono HB.out.size)
    have p0 := cell_below P0.out hbr
    have p1 := cell_below P1.out hbr
    have hzp := block_lt p0
    by_cases hlt : k < q.length
    · obtain rfl := HL.out (by omega)
      obtain ⟨c0, c1, c2, c3, c4, c5, c6, c7⟩ := HC.out k hlt
      have c0 := cell_below c0 hbw
      have c1 := cell_below c1 hbw
      have c2 := cell_below c2 hbw
      have c3 := cell_below c3 hbw
      have c4 := cell_below c4 hbw
      have c5 := cell_below c5 hbw
      have c6 := cell_below c6 hbw
      have c7 := cell_below c7 hbw
      have g1 : (k : Int) < (q.length : Int) := by omega
      have HK : Hid (mustK q h t d m (k + 1) = if (edB (ge q k) h t d m && decide ((mustK q h t d m k).1 < (ge q k).n)) = true then ((ge q k).n, (ge q k).v) else mustK q h t d m k) := Lib.hid rfl
      have HM : Hid (∃ y, mustK q h t d m (k + 1) = y) := Lib.hid ⟨_, rfl⟩
      obtain ⟨y, hy⟩ := HM.out
      have HY := Lib.hid hy
      rw [hy] at HK
      obtain ⟨g, v, hgv⟩ : ∃ g v, mustK q h t d m k = (g, v) := ⟨_, _, rfl⟩
      rw [hgv] at HK ⊢
      clear hy hgv HM HC HL
      obtain ⟨x, hx⟩ : ∃ x, ge q k = x := ⟨_, rfl⟩
      rw [hx] at HK c0 c1 c2 c3 c4 c5 c6 c7
      clear hx
      show Code.wp _ _ _ _ _
      by_cases e0 : x.tp = t
      · have b0 : (x.tp == t) = true := by rw [e0]; simp
        clear e0
        by_cases e1 : x.d = d
        · have b1 : (x.d == d) = true := by rw [e1]; simp
          clear e1
          by_cases e2 : x.fr ≤ m
          · have b2 : decide (x.fr ≤ m) = true := decide_eq_true e2
            clear e2
            by_cases e3 : m < x.tt
            · have b3 : decide (m < x.tt) = true := decide_eq_true e3
              clear e3
              by_cases e4 : x.st ≤ h
              · have b4 : decide (x.st ≤ h) = true := decide_eq_true e4
                clear e4
                by_cases e5 : h < x.en
                · have b5 : decide (h < x.en) = true := decide_eq_true e5
                  clear e5
                  by_cases e6 : g < x.n
                  · have b6 : decide (g < x.n) = true := decide_eq_true e6
                    clear e6
                    have hv : y = (x.n, x.v) := by rw [HK.out]; simp only [edB, b0, b1, b2, b3, b4, b5, b6]; rfl
                    have HV := Lib.hid hv
                    clear hv HK
                    obtain ⟨wq, hwq⟩ : ∃ wq, wr.alloc (.cells #[.int .i64 x.n, .int .i64 x.tp, .int .i64 x.v, .int .i64 x.d, .int .i64 x.fr, .int .i64 x.tt, .int .i64 x.st, .int .i64 x.en] 94) = wq := ⟨_, rfl⟩
                    have q1 : ∀ c T o b, b < wr.heap.size → (wr.alloc (.cells c T)).cell? ⟨b, o, none⟩ = wr.cell? ⟨b, o, none⟩ := fun c T o b hb => (Below.alloc (Below.refl _ wr) (Nat.le_refl _) _).cell (p := ⟨b, o, none⟩) hb
                    clear hwq wq
                    go_wp2_with fail
                    go_quiet (fail)
                    go_wp2_with fail
                    go_roundw
                    case rel => exact ⟨k + 1, by omega, by go_num, by rw [HY.out, HV.out], by rw [HY.out, HV.out], below_drewN (hbr.alloc hbr.size _) _⟩
                    case measure => simp [intOf]; omega
                  · have b6 : decide (g < x.n) = false := decide_eq_false e6
                    clear e6
                    have hv : y = (g, v) := by rw [HK.out]; simp [edB, b0, b1, b2, b3, b4, b5, b6]
                    have HV := Lib.hid hv
                    clear hv HK
                    have q1 : ∀ c T o b, b < wr.heap.size → (wr.alloc (.cells c T)).cell? ⟨b, o, none⟩ = wr.cell? ⟨b, o, none⟩ := fun c T o b hb => (Below.alloc (Below.refl _ wr) (Nat.le_refl _) _).cell (p := ⟨b, o, none⟩) hb
                    go_wp2_with fail
                    go_roundw
                    case rel => exact ⟨k + 1, by omega, by go_num, by rw [HY.out, HV.out], by rw [HY.out, HV.out], hbr.alloc hbr.size _⟩
                    case measure => simp [intOf]; omega
                · have b5 : decide (h < x.en) = false := decide_eq_false e5
                  clear e5
                  have hv : y = (g, v) := by rw [HK.out]; simp [edB, b0, b1, b2, b3, b4, b5]
                  have HV := Lib.hid hv
                  clear hv HK
                  have q1 : ∀ c T o b, b < wr.heap.size → (wr.alloc (.cells c T)).cell? ⟨b, o, none⟩ = wr.cell? ⟨b, o, none⟩ := fun c T o b hb => (Below.alloc (Below.refl _ wr) (Nat.le_refl _) _).cell (p := ⟨b, o, none⟩) hb
                  go_wp2_with fail
                  go_roundw
                  case rel => exact ⟨k + 1, by omega, by go_num, by rw [HY.out, HV.out], by rw [HY.out, HV.out], hbr.alloc hbr.size _⟩
                  case measure => simp [intOf]; omega
              · have b4 : decide (x.st ≤ h) = false := decide_eq_false e4
                clear e4
                have hv : y = (g, v) := by rw [HK.out]; simp [edB, b0, b1, b2, b3, b4]
                have HV := Lib.hid hv
                clear hv HK
                have q1 : ∀ c T o b, b < wr.heap.size → (wr.alloc (.cells c T)).cell? ⟨b, o, none⟩ = wr.cell? ⟨b, o, none⟩ := fun c T o b hb => (Below.alloc (Below.refl _ wr) (Nat.le_refl _) _).cell (p := ⟨b, o, none⟩) hb
                go_wp2_with fail
                go_roundw
                case rel => exact ⟨k + 1, by omega, by go_num, by rw [HY.out, HV.out], by rw [HY.out, HV.out], hbr.alloc hbr.size _⟩
                case measure => simp [intOf]; omega
            · have b3 : decide (m < x.tt) = false := decide_eq_false e3
              clear e3
              have hv : y = (g, v) := by rw [HK.out]; simp [edB, b0, b1, b2, b3]
              have HV := Lib.hid hv
              clear hv HK
              have q1 : ∀ c T o b, b < wr.heap.size → (wr.alloc (.cells c T)).cell? ⟨b, o, none⟩ = wr.cell? ⟨b, o, none⟩ := fun c T o b hb => (Below.alloc (Below.refl _ wr) (Nat.le_refl _) _).cell (p := ⟨b, o, none⟩) hb
              go_wp2_with fail
              go_roundw
              case rel => exact ⟨k + 1, by omega, by go_num, by rw [HY.out, HV.out], by rw [HY.out, HV.out], hbr.alloc hbr.size _⟩
              case measure => simp [intOf]; omega
          · have b2 : decide (x.fr ≤ m) = false := decide_eq_false e2
            clear e2
            have hv : y = (g, v) := by rw [HK.out]; simp [edB, b0, b1, b2]
            have HV := Lib.hid hv
            clear hv HK
            have q1 : ∀ c T o b, b < wr.heap.size → (wr.alloc (.cells c T)).cell? ⟨b, o, none⟩ = wr.cell? ⟨b, o, none⟩ := fun c T o b hb => (Below.alloc (Below.refl _ wr) (Nat.le_refl _) _).cell (p := ⟨b, o, none⟩) hb
            go_wp2_with fail
            go_roundw
            case rel => exact ⟨k + 1, by omega, by go_num, by rw [HY.out, HV.out], by rw [HY.out, HV.out], hbr.alloc hbr.size _⟩
            case measure => simp [intOf]; omega
        · have b1 : (x.d == d) = false := beq_false_of_ne e1
          clear e1
          have hv : y = (g, v) := by rw [HK.out]; simp [edB, b0, b1]
          have HV := Lib.hid hv
          clear hv HK
          have q1 : ∀ c T o b, b < wr.heap.size → (wr.alloc (.cells c T)).cell? ⟨b, o, none⟩ = wr.cell? ⟨b, o, none⟩ := fun c T o b hb => (Below.alloc (Below.refl _ wr) (Nat.le_refl _) _).cell (p := ⟨b, o, none⟩) hb
          go_wp2_with fail
          go_roundw
          case rel => exact ⟨k + 1, by omega, by go_num, by rw [HY.out, HV.out], by rw [HY.out, HV.out], hbr.alloc hbr.size _⟩
          case measure => simp [intOf]; omega
      · have b0 : (x.tp == t) = false := beq_false_of_ne e0
        clear e0
        have hv : y = (g, v) := by rw [HK.out]; simp [edB, b0]
        have HV := Lib.hid hv
        clear hv HK
        have q1 : ∀ c T o b, b < wr.heap.size → (wr.alloc (.cells c T)).cell? ⟨b, o, none⟩ = wr.cell? ⟨b, o, none⟩ := fun c T o b hb => (Below.alloc (Below.refl _ wr) (Nat.le_refl _) _).cell (p := ⟨b, o, none⟩) hb
        go_wp2_with fail
        go_roundw
        case rel => exact ⟨k + 1, by omega, by go_num, by rw [HY.out, HV.out], by rw [HY.out, HV.out], hbr.alloc hbr.size _⟩
        case measure => simp [intOf]; omega
    · obtain rfl : k = q.length := by omega
      have HV : Hid (mustV q h t d m = (mustK q h t d m q.length).2) := Lib.hid rfl
      clear HC HL
      go_wp2_with fail
      go_ret
      exact ⟨by rw [HV.out]; rfl, hbw⟩
set_option maxRecDepth 100000 in
set_option maxHeartbeats 4000000 in
theorem refMust_r (ae : Option Addr) (q : List Edc) (cq : Nat) (h t d m : Int) (w : World) (hE : EdS w ae q) :
    Calls Tryz.prog 25 #[.slice ae q.length cq, .int .i64 h, .int .i64 d, .int .i64 t, .int .i64 m] w fun e w' => e = .returned (.int .i64 (mustV q h t d m)) ∧ Below w.heap.size w w' := by
  obtain ⟨hlen, blk, off, hadr, hc⟩ := hE
  have HC := Lib.hid hc
  have HL : Hid (0 < q.length → ae = some ⟨blk, off, none⟩) := Lib.hid fun h => hadr (List.ne_nil_of_length_pos h)
  clear hc hadr
  go_enter Tryz.func25, Tryz.ntmps25
  go_wp2_with fail
  go_loopw [11, 12, 13] (fun g9 v9 i9 wr => ∃ k : Nat, k ≤ q.length ∧ i9 = .int .i64 k ∧ g9 = .int .i64 (mustK q h t d m k).1 ∧ v9 = .int .i64 (mustK q h t d m k).2 ∧ Below w.heap.size w wr) (fun _ _ i9 _ => q.length - (intOf i9).toNat)
  case atStart => exact ⟨0, Nat.zero_le _, rfl, rfl, rfl, Below.refl _ _⟩
  case round =>
    obtain ⟨k, hk, rfl, rfl, rfl, hbr⟩ := hrel
    have hbw := hbr
    by_cases hlt : k < q.length
    · obtain rfl := HL.out (by omega)
      obtain ⟨c0, c1, c2, c3, c4, c5, c6, c7⟩ := HC.out k hlt
      have c0 := cell_below c0 hbw
      have c1 := cell_below c1 hbw
      have c2 := cell_below c2 hbw
      have c3 := cell_below c3 hbw
      have c4 := cell_below c4 hbw
      have c5 := cell_below c5 hbw
      have c6 := cell_below c6 hbw
      have c7 := cell_below c7 hbw
      have g1 : (k : Int) < (q.length : Int) := by omega
      have HK : Hid (mustK q h t d m (k + 1) = if (edB (ge q k) h t d m && decide ((mustK q h t d m k).1 < (ge q k).n)) = true then ((ge q k).n, (ge q k).v) else mustK q h t d m k) := Lib.hid rfl
      have HM : Hid (∃ y, mustK q h t d m (k + 1) = y) := Lib.hid ⟨_, rfl⟩
      obtain ⟨y, hy⟩ := HM.out
      have HY := Lib.hid hy
      rw [hy] at HK
      obtain ⟨g, v, hgv⟩ : ∃ g v, mustK q h t d m k = (g, v) := ⟨_, _, rfl⟩
      rw [hgv] at HK ⊢
      clear hy hgv HM HC HL
      obtain ⟨x, hx⟩ : ∃ x, ge q k = x := ⟨_, rfl⟩
      rw [hx] at HK c0 c1 c2 c3 c4 c5 c6 c7
      clear hx
      show Code.wp _ _ _ _ _
      by_cases e0 : x.tp = t
      · have b0 : (x.tp == t) = true := by rw [e0]; simp
        clear e0
        by_cases e1 : x.d = d
        · have b1 : (x.d == d) = true := by rw [e1]; simp
          clear e1
          by_cases e2 : x.fr ≤ m
          · have b2 : decide (x.fr ≤ m) = true := decide_eq_true e2
            clear e2
            by_cases e3 : m < x.tt
            · have b3 : decide (m < x.tt) = true := decide_eq_true e3
              clear e3
              by_cases e4 : x.st ≤ h
              · have b4 : decide (x.st ≤ h) = true := decide_eq_true e4
                clear e4
                by_cases e5 : h < x.en
                · have b5 : decide (h < x.en) = true := decide_eq_true e5
                  clear e5
                  by_cases e6 : g < x.n
                  · have b6 : decide (g < x.n) = true := decide_eq_true e6
                    clear e6
                    have hv : y = (x.n, x.v) := by rw [HK.out]; simp only [edB, b0, b1, b2, b3, b4, b5, b6]; rfl
                    have HV := Lib.hid hv
                    clear hv HK
                    obtain ⟨wq, hwq⟩ : ∃ wq, wr.alloc (.cells #[.int .i64 x.n, .int .i64 x.tp, .int .i64 x.v, .int .i64 x.d, .int .i64 x.fr, .int .i64 x.tt, .int .i64 x.st, .int .i64 x.en] 94) = wq := ⟨_, rfl⟩
                    have q1 : ∀ c T o b, b < wr.heap.size → (wr.alloc (.cells c T)).cell? ⟨b, o, none⟩ = wr.cell? ⟨b, o, none⟩ := fun c T o b hb => (Below.alloc (Below.refl _ wr) (Nat.le_refl _) _).cell (p := ⟨b, o, none⟩) hb
                    clear hwq wq
                    go_wp2_with fail
                    go_quiet (fail)
                    go_wp2_with fail
                    go_roundw
                    case rel => exact ⟨k + 1, by omega, by go_num, by rw [HY.out, HV.out], by rw [HY.out, HV.out], below_drewN (hbr.alloc hbr.size _) _⟩
                    case measure => simp [intOf]; omega
                  · have b6 : decide (g < x.n) = false := decide_eq_false e6
                    clear e6
                    have hv : y = (g, v) := by rw [HK.out]; simp [edB, b0, b1, b2, b3, b4, b5, b6]
                    have HV := Lib.hid hv
                    clear hv HK
                    have q1 : ∀ c T o b, b < wr.heap.size → (wr.alloc (.cells c T)).cell? ⟨b, o, none⟩ = wr.cell? ⟨b, o, none⟩ := fun c T o b hb => (Below.alloc (Below.refl _ wr) (Nat.le_refl _) _).cell (p := ⟨b, o, none⟩) hb
                    go_wp2_with fail
                    go_roundw
                    case rel => exact ⟨k + 1, by omega, by go_num, by rw [HY.out, HV.out], by rw [HY.out, HV.out], hbr.alloc hbr.size _⟩
                    case measure => simp [intOf]; omega
                · have b5 : decide (h < x.en) = false := decide_eq_false e5
                  clear e5
                  have hv : y = (g, v) := by rw [HK.out]; simp [edB, b0, b1, b2, b3, b4, b5]
                  have HV := Lib.hid hv
                  clear hv HK
                  have q1 : ∀ c T o b, b < wr.heap.size → (wr.alloc (.cells c T)).cell? ⟨b, o, none⟩ = wr.cell? ⟨b, o, none⟩ := fun c T o b hb => (Below.alloc (Below.refl _ wr) (Nat.le_refl _) _).cell (p := ⟨b, o, none⟩) hb
                  go_wp2_with fail
                  go_roundw
                  case rel => exact ⟨k + 1, by omega, by go_num, by rw [HY.out, HV.out], by rw [HY.out, HV.out], hbr.alloc hbr.size _⟩
                  case measure => simp [intOf]; omega
              · have b4 : decide (x.st ≤ h) = false := decide_eq_false e4
                clear e4
                have hv : y = (g, v) := by rw [HK.out]; simp [edB, b0, b1, b2, b3, b4]
                have HV := Lib.hid hv
                clear hv HK
                have q1 : ∀ c T o b, b < wr.heap.size → (wr.alloc (.cells c T)).cell? ⟨b, o, none⟩ = wr.cell? ⟨b, o, none⟩ := fun c T o b hb => (Below.alloc (Below.refl _ wr) (Nat.le_refl _) _).cell (p := ⟨b, o, none⟩) hb
                go_wp2_with fail
                go_roundw
                case rel => exact ⟨k + 1, by omega, by go_num, by rw [HY.out, HV.out], by rw [HY.out, HV.out], hbr.alloc hbr.size _⟩
                case measure => simp [intOf]; omega
            · have b3 : decide (m < x.tt) = false := decide_eq_false e3
              clear e3
              have hv : y = (g, v) := by rw [HK.out]; simp [edB, b0, b1, b2, b3]
              have HV := Lib.hid hv
              clear hv HK
              have q1 : ∀ c T o b, b < wr.heap.size → (wr.alloc (.cells c T)).cell? ⟨b, o, none⟩ = wr.cell? ⟨b, o, none⟩ := fun c T o b hb => (Below.alloc (Below.refl _ wr) (Nat.le_refl _) _).cell (p := ⟨b, o, none⟩) hb
              go_wp2_with fail
              go_roundw
              case rel => exact ⟨k + 1, by omega, by go_num, by rw [HY.out, HV.out], by rw [HY.out, HV.out], hbr.alloc hbr.size _⟩
              case measure => simp [intOf]; omega
          · have b2 : decide (x.fr ≤ m) = false := decide_eq_false e2
            clear e2
            have hv : y = (g, v) := by rw [HK.out]; simp [edB, b0, b1, b2]
            have HV := Lib.hid hv
            clear hv HK
            have q1 : ∀ c T o b, b < wr.heap.size → (wr.alloc (.cells c T)).cell? ⟨b, o, none⟩ = wr.cell? ⟨b, o, none⟩ := fun c T o b hb => (Below.alloc (Below.refl _ wr) (Nat.le_refl _) _).cell (p := ⟨b, o, none⟩) hb
            go_wp2_with fail
            go_roundw
            case rel => exact ⟨k + 1, by omega, by go_num, by rw [HY.out, HV.out], by rw [HY.out, HV.out], hbr.alloc hbr.size _⟩
            case measure => simp [intOf]; omega
        · have b1 : (x.d == d) = false := beq_false_of_ne e1
          clear e1
          have hv : y = (g, v) := by rw [HK.out]; simp [edB, b0, b1]
          have HV := Lib.hid hv
          clear hv HK
          have q1 : ∀ c T o b, b < wr.heap.size → (wr.alloc (.cells c T)).cell? ⟨b, o, none⟩ = wr.cell? ⟨b, o, none⟩ := fun c T o b hb => (Below.alloc (Below.refl _ wr) (Nat.le_refl _) _).cell (p := ⟨b, o, none⟩) hb
          go_wp2_with fail
          go_roundw
          case rel => exact ⟨k + 1, by omega, by go_num, by rw [HY.out, HV.out], by rw [HY.out, HV.out], hbr.alloc hbr.size _⟩
          case measure => simp [intOf]; omega
      · have b0 : (x.tp == t) = false := beq_false_of_ne e0
        clear e0
        have hv : y = (g, v) := by rw [HK.out]; simp [edB, b0]
        have HV := Lib.hid hv
        clear hv HK
        have q1 : ∀ c T o b, b < wr.heap.size → (wr.alloc (.cells c T)).cell? ⟨b, o, none⟩ = wr.cell? ⟨b, o, none⟩ := fun c T o b hb => (Below.alloc (Below.refl _ wr) (Nat.le_refl _) _).cell (p := ⟨b, o, none⟩) hb
        go_wp2_with fail
        go_roundw
        case rel => exact ⟨k + 1, by omega, by go_num, by rw [HY.out, HV.out], by rw [HY.out, HV.out], hbr.alloc hbr.size _⟩
        case measure => simp [intOf]; omega
    · obtain rfl : k = q.length := by omega
      have HV : Hid (mustV q h t d m = (mustK q h t d m q.length).2) := Lib.hid rfl
      clear HC HL
      go_wp2_with fail
      go_ret
      exact ⟨by rw [HV.out]; rfl, hbw⟩
end Go.Proofs.YtiagflackfkmnaaGreat
