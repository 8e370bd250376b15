/-
  Held of package rule at good arguments. By an AI agent.
-/
import Derived.Test.YtiagflackfkmnaaGreatRuV
import Derived.Test.YtiagflackfkmnaaGreatRuP
import Derived.Test.YtiagflackfkmnaaGreatRuK
namespace Go.Proofs.YtiagflackfkmnaaGreat
set_option linter.unusedVariables false
set_option linter.unusedSimpArgs false
open Go.RowKit

/-- What a line with signs holds along its way. -/
def hldM (L dir tp : Int) (row : List Pst) : List Tri := heldL (prtK (ascL (cutsK L dir row row.length)) (fun m => hldL tp (begK L dir m) row 0) (ascL (cutsK L dir row row.length)).length)
/-- Held returns. -/
def HeldE (L : Int) (js : List Int) (dir tp h : Int) (l : List Sgn) (w : World) (e : Ending) (w' : World) : Prop :=
  ∃ (row : List Pst) (b : Option Addr) (c : Nat), RowL L js dir h l row ∧ e = .returned (.tuple #[.slice b (hldM L dir tp row).length c, .int .i64 0]) ∧ w'.ownsRow w.heap.size 75 3 (.slice b (hldM L dir tp row).length c) (hldM L dir tp row).length (cl3 (hldM L dir tp row)) ∧ Below w.heap.size w w'
theorem btw_ge {n a b : Int} (h : btw n a b = true) : a ≤ n ∧ n ≤ b := by simpa [btw] using h
theorem val_bd {k v : Int} (h : valB k v = true) : 0 ≤ v ∧ v ≤ 100000 := by
  unfold valB at h
  split at h
  · have := btw_ge h; omega
  · split at h
    · have := eq_of_beq h; omega
    · split at h
      · have := btw_ge h; omega
      · split at h
        · have := btw_ge h; omega
        · cases h
/-- What good lists say of their numbers. -/
theorem lst_good {L : Int} {js : List Int} {l : List Sgn} {q : List Edc} (h : lstE L js l q = 0) : (0 ≤ L ∧ L ≤ 100000) ∧ (∀ j, j < js.length → 0 ≤ gi js j ∧ gi js j ≤ 100000) ∧ (∀ j, j < l.length → (0 ≤ (gs l j).c ∧ (gs l j).c ≤ 100000) ∧ 0 ≤ (gs l j).v ∧ (gs l j).v ≤ 100000) ∧ l.length ≤ 1000 := by
  unfold lstE at h
  split at h
  · cases h
  next h1 =>
  split at h
  · cases h
  next h2 =>
  have h1 : lineB L js = true := by simpa using h1
  have h2 : sgnsB L js l = true := by simpa using h2
  have g := h1
  unfold lineB at g
  simp only [Bool.and_eq_true, decide_eq_true_eq, Bool.not_eq_true'] at g
  have hL := btw_ge g.1.1
  have hJ := (anyK_iff _).1 g.2
  have hj : ∀ j, j < js.length → jOk L js j = true := fun j hj => by simpa using hJ j hj
  unfold sgnsB at h2
  simp only [Bool.and_eq_true, decide_eq_true_eq] at h2
  have hA := h2.1.2
  unfold allB at hA
  simp only [Bool.not_eq_true'] at hA
  have hS := (anyK_iff _).1 hA
  refine ⟨by omega, fun j hjl => ?_, fun j hjl => ?_, by omega⟩
  · have h0 := jOk_pos j (fun i hi => hj i (by omega))
    have h3 := hj j hjl
    unfold jOk at h3
    simp only [Bool.and_eq_true, decide_eq_true_eq] at h3
    omega
  · have h3 : sgnB L (gs l j) = true := by simpa using hS j hjl
    unfold sgnB at h3
    simp only [Bool.and_eq_true, decide_eq_true_eq] at h3
    have hc := btw_ge h3.1.1.1.1.1.2
    have hv := val_bd h3.1.1.1.1.1.1
    omega
theorem cuts_ne (L dir : Int) (row : List Pst) (k : Nat) : cutsK L dir row k ≠ [] := fun e => by
  have := cutsK_len L dir row k
  rw [e] at this
  simp at this
  omega
theorem ed_nil (w : World) : EdS w none [] := ⟨by decide, 0, 0, fun h => (h rfl).elim, fun i hi => absurd hi (Nat.not_lt_zero i)⟩
set_option maxRecDepth 100000 in
set_option maxHeartbeats 1000000 in
theorem Held_good (L : Int) (a : Option Addr) (js : List Int) (ca : Nat) (aa : Option Addr) (l : List Sgn) (cl : Nat) (h dir tp : Int) (hV : lstE L js l [] = 0) (hh : btw h 0 10000000 = true) (hd : dirB dir = true) (ht : topB tp = true) (w : World) (hI : IntsS w a js) (hA : SgnS w aa l) :
    Calls Tryz.prog 26 #[.agg #[.int .i64 L, .slice a js.length ca], .slice aa l.length cl, .int .i64 h, .int .i64 dir, .int .i64 tp] w (HeldE L js dir tp h l w) := by
  obtain ⟨⟨hL1, hL2⟩, hJ, hC, hn⟩ := lst_good hV
  have H1 := Lib.hid (fun W (hW : Below w.heap.size w W) => by
    have := listsError_r L a js ca aa l cl none [] 0 W (hI.below hW) (hA.below hW) (ed_nil W)
    rw [hV] at this
    exact this)
  have H2 := Lib.hid (fun W => hh ▸ isHour_r h W)
  have H3 := Lib.hid (fun W => hd ▸ isDir_r dir W)
  have H4 := Lib.hid (fun W => ht ▸ isTopic_r tp W)
  have H5 := Lib.hid (fun W (hW : Below w.heap.size w W) => told_r L a js ca aa l cl h dir tp hL1 hL2 hJ hC hn W (hI.below hW) (hA.below hW))
  have HF := Lib.hid (And.intro (And.intro hL1 hL2) hn)
  clear hI hA hV hh hd ht hJ hC hL1 hL2 hn
  go_enter Tryz.func26, Tryz.ntmps26
  go_wp2_with fail
  obtain ⟨wB, hwB⟩ : ∃ wB, w.alloc (.cells #[.int .i64 L, .slice a js.length ca] 24) = wB := ⟨_, rfl⟩
  have hb : Below w.heap.size w wB := by rw [← hwB]; exact (Below.refl _ _).alloc (Nat.le_refl _) _
  have l0 : wB.cell? ⟨w.heap.size, 0, none⟩ = some (.int .i64 L) := by rw [← hwB]; simp [go_sem]
  have l1 : wB.cell? ⟨w.heap.size, 1, none⟩ = some (.slice a js.length ca) := by rw [← hwB]; simp [go_sem]
  rw [hwB]
  clear hwB
  go_wp2_with (first | (go_at_call 44; refine (H1.out _ hb).mono ?_; rintro e w1 ⟨rfl, hb1⟩; have hbw := hb.trans (hb1.mono hb.size); replace l0 := cell_below l0 hb1; replace l1 := cell_below l1 hb1) | (go_at_call 45; refine (H2.out _).mono ?_; rintro e w2 ⟨rfl, rfl⟩) | (go_at_call 46; refine (H3.out _).mono ?_; rintro e w2 ⟨rfl, rfl⟩) | (go_at_call 51; refine (H4.out _).mono ?_; rintro e w2 ⟨rfl, rfl⟩) | (go_at_call 58; refine (H5.out _ hbw).mono ?_; rintro e w2 ⟨row, ar, cr, rb, wb, lb, aq, cq, hRL, hrl, hP, g1, g2, g3, g4, g5, rfl, hAq, hm, hb2⟩; have hbz := hbw.trans (hb2.mono hbw.size); have HG := Lib.hid (And.intro hRL hbz)) | (go_at_call 59; refine (heldT_r aq (cutsK L dir row row.length) cq #[.pointer (some ⟨rb, 0, none⟩), .pointer (some ⟨wb, 0, none⟩), .pointer (some ⟨lb, 0, none⟩)] (fun m => hldL tp (begK L dir m) row 0) w2 hAq (cuts_ne L dir row row.length) (by have := HF.out; rw [cutsK_len]; omega) (fun m W hm2 hW => told1_r L a js ca dir tp m row ar cr rb wb lb HF.out.1.1 HF.out.1.2 (hm m hm2).1 (hm m hm2).2 W (hP.below hW) (cell_below g1 hW) (cell_below g2 hW) (cell_below g3 hW) (cell_below g4 hW) (cell_below g5 hW))).mono ?_; rintro e w3 ⟨bb, cc, rfl, hown, hb3⟩; clear g1 g2 g3 g4 g5; have HOW := Lib.hid hown; clear hown))
  go_ret2
  exact ⟨row, bb, cc, HG.out.1, rfl, owns_baseI HOW.out HG.out.2.size, HG.out.2.trans (hb3.mono HG.out.2.size)⟩
end Go.Proofs.YtiagflackfkmnaaGreat
