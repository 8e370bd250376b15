/-
  Held of package rule at good arguments. By an AI agent.; The sanity check of the laws of package rule. By an AI agent.; Heavy of package rule's laws. By an AI agent.; Parts between cuts, and stretches metre by metre: one list. By an AI agent.
-/
import Derived.Test.YtiagflackfkmnaaGreatMgRuleHeld1
import Derived.Test.YtiagflackfkmnaaGreatMgRuleHeld3
import Derived.Test.YtiagflackfkmnaaGreatMgRuleHeld4
import Derived.Test.YtiagflackfkmnaaGreatMgRuleHeld5
import Derived.Test.YtiagflackfkmnaaGreatMgRuleHeld6
import Derived.BigQuiet
import Derived.BigRegion

namespace Go.Proofs.YtiagflackfkmnaaGreat
set_option linter.unusedVariables false
set_option linter.unusedSimpArgs false
open Go.RowKit

/-- What a line with signs holds along its way. -/
def hldM (L dir tp : Int) (row : List Pst) : List Tri := heldL (prtK (ascL (cutsK L dir row row.length)) (fun m => hldL tp (begK L dir m) row 0) (ascL (cutsK L dir row row.length)).length)
/-- Held returns. -/
def HeldE (L : Int) (js : List Int) (dir tp h : Int) (l : List Sgn) (w : World) (e : Ending) (w' : World) : Prop :=
  ∃ (row : List Pst) (b : Option Addr) (c : Nat), RowL L js dir h l row ∧ e = .returned (.tuple #[.slice b (hldM L dir tp row).length c, .int .i64 0]) ∧ w'.ownsRow w.heap.size 75 3 (.slice b (hldM L dir tp row).length c) (hldM L dir tp row).length (cl3 (hldM L dir tp row)) ∧ Below w.heap.size w w'
theorem btw_ge {n a b : Int} (h : btw n a b = true) : a ≤ n ∧ n ≤ b := by simpa [btw] using h
theorem val_bd {k v : Int} (h : valB k v = true) : 0 ≤ v ∧ v ≤ 100000 := by
  unfold valB at h
  split at h
  · have := btw_ge h; omega
  · split at h
    · have := eq_of_beq h; omega
    · split at h
      · have := btw_ge h; omega
      · split at h
        · have := btw_ge h; omega
        · cases h
/-- What good lists say of their numbers. -/
theorem lst_good {L : Int} {js : List Int} {l : List Sgn} {q : List Edc} (h : lstE L js l q = 0) : (0 ≤ L ∧ L ≤ 100000) ∧ (∀ j, j < js.length → 0 ≤ gi js j ∧ gi js j ≤ 100000) ∧ (∀ j, j < l.length → (0 ≤ (gs l j).c ∧ (gs l j).c ≤ 100000) ∧ 0 ≤ (gs l j).v ∧ (gs l j).v ≤ 100000) ∧ l.length ≤ 1000 := by
  unfold lstE at h
  split at h
  · cases h
  next h1 =>
  split at h
  · cases h
  next h2 =>
  have h1 : lineB L js = true := by simpa using h1
  have h2 : sgnsB L js l = true := by simpa using h2
  have g := h1
  unfold lineB at g
  simp only [Bool.and_eq_true, decide_eq_true_eq, Bool.not_eq_true'] at g
  have hL := btw_ge g.1.1
  have hJ := (anyK_iff _).1 g.2
  have hj : ∀ j, j < js.length → jOk L js j = true := fun j hj => by simpa using hJ j hj
  unfold sgnsB at h2
  simp only [Bool.and_eq_true, decide_eq_true_eq] at h2
  have hA := h2.1.2
  unfold allB at hA
  simp only [Bool.not_eq_true'] at hA
  have hS := (anyK_iff _).1 hA
  refine ⟨by omega, fun j hjl => ?_, fun j hjl => ?_, by omega⟩
  · have h0 := jOk_pos j (fun i hi => hj i (by omega))
    have h3 := hj j hjl
    unfold jOk at h3
    simp only [Bool.and_eq_true, decide_eq_true_eq] at h3
    omega
  · have h3 : sgnB L (gs l j) = true := by simpa using hS j hjl
    unfold sgnB at h3
    simp only [Bool.and_eq_true, decide_eq_true_eq] at h3
    have hc := btw_ge h3.1.1.1.1.1.2
    have hv := val_bd h3.1.1.1.1.1.1
    omega
theorem cuts_ne (L dir : Int) (row : List Pst) (k : Nat) : cutsK L dir row k ≠ [] := fun e => by
  have := cutsK_len L dir row k
  rw [e] at this
  simp at this
  omega
theorem ed_nil (w : World) : EdS w none [] := ⟨by decide, 0, 0, fun h => (h rfl).elim, fun i hi => absurd hi (Nat.not_lt_zero i)⟩
set_option maxRecDepth 100000 in
set_option maxHeartbeats 1000000 in
theorem Held_good (L : Int) (a : Option Addr) (js : List Int) (ca : Nat) (aa : Option Addr) (l : List Sgn) (cl : Nat) (h dir tp : Int) (hV : lstE L js l [] = 0) (hh : btw h 0 10000000 = true) (hd : dirB dir = true) (ht : topB tp = true) (w : World) (hI : IntsS w a js) (hA : SgnS w aa l) :
    Calls Tryz.prog 26 #[.agg #[.int .i64 L, .slice a js.length ca], .slice aa l.length cl, .int .i64 h, .int .i64 dir, .int .i64 tp] w (HeldE L js dir tp h l w) := by
  obtain ⟨⟨hL1, hL2⟩, hJ, hC, hn⟩ := lst_good hV
  have H1 := Lib.hid (fun W (hW : Below w.heap.size w W) => by
    have := listsError_r L a js ca aa l cl none [] 0 W (hI.below hW) (hA.below hW) (ed_nil W)
    rw [hV] at this
    exact this)
  have H2 := Lib.hid (fun W => hh ▸ isHour_r h W)
  have H3 := Lib.hid (fun W => hd ▸ isDir_r dir W)
  have H4 := Lib.hid (fun W => ht ▸ isTopic_r tp W)
  have H5 := Lib.hid (fun W (hW : Below w.heap.size w W) => told_r L a js ca aa l cl h dir tp hL1 hL2 hJ hC hn W (hI.below hW) (hA.below hW))
  have HF := Lib.hid (And.intro (And.intro hL1 hL2) hn)
  clear hI hA hV hh hd ht hJ hC hL1 hL2 hn
  go_enter Tryz.func26, Tryz.ntmps26
  go_wp2_with fail
  obtain ⟨wB, hwB⟩ : ∃ wB, w.alloc (.cells #[.int .i64 L, .slice a js.length ca] 24) = wB := ⟨_, rfl⟩
  have hb : Below w.heap.size w wB := by rw [← hwB]; exact (Below.refl _ _).alloc (Nat.le_refl _) _
  have l0 : wB.cell? ⟨w.heap.size, 0, none⟩ = some (.int .i64 L) := by rw [← hwB]; simp [go_sem]
  have l1 : wB.cell? ⟨w.heap.size, 1, none⟩ = some (.slice a js.length ca) := by rw [← hwB]; simp [go_sem]
  rw [hwB]
  clear hwB
  go_wp2_with (first | (go_at_call 44; refine (H1.out _ hb).mono ?_; rintro e w1 ⟨rfl, hb1⟩; have hbw := hb.trans (hb1.mono hb.size); replace l0 := cell_below l0 hb1; replace l1 := cell_below l1 hb1) | (go_at_call 45; refine (H2.out _).mono ?_; rintro e w2 ⟨rfl, rfl⟩) | (go_at_call 46; refine (H3.out _).mono ?_; rintro e w2 ⟨rfl, rfl⟩) | (go_at_call 51; refine (H4.out _).mono ?_; rintro e w2 ⟨rfl, rfl⟩) | (go_at_call 58; refine (H5.out _ hbw).mono ?_; rintro e w2 ⟨row, ar, cr, rb, wb, lb, aq, cq, hRL, hrl, hP, g1, g2, g3, g4, g5, rfl, hAq, hm, hb2⟩; have hbz := hbw.trans (hb2.mono hbw.size); have HG := Lib.hid (And.intro hRL hbz)) | (go_at_call 59; refine (heldT_r aq (cutsK L dir row row.length) cq #[.pointer (some ⟨rb, 0, none⟩), .pointer (some ⟨wb, 0, none⟩), .pointer (some ⟨lb, 0, none⟩)] (fun m => hldL tp (begK L dir m) row 0) w2 hAq (cuts_ne L dir row row.length) (by have := HF.out; rw [cutsK_len]; omega) (fun m W hm2 hW => told1_r L a js ca dir tp m row ar cr rb wb lb HF.out.1.1 HF.out.1.2 (hm m hm2).1 (hm m hm2).2 W (hP.below hW) (cell_below g1 hW) (cell_below g2 hW) (cell_below g3 hW) (cell_below g4 hW) (cell_below g5 hW))).mono ?_; rintro e w3 ⟨bb, cc, rfl, hown, hb3⟩; clear g1 g2 g3 g4 g5; have HOW := Lib.hid hown; clear hown))
  go_ret2
  exact ⟨row, bb, cc, HG.out.1, rfl, owns_baseI HOW.out HG.out.2.size, HG.out.2.trans (hb3.mono HG.out.2.size)⟩
end Go.Proofs.YtiagflackfkmnaaGreat

namespace Go.Proofs.YtiagflackfkmnaaGreat
set_option linter.unusedVariables false
set_option linter.unusedSimpArgs false
open Go.RowKit

def exS : Sgn := ⟨1, 1, 70, 200, 1, 1, 0, 9, []⟩
theorem ex_srt : srt [0, 1000, 200, 600] = [0, 200, 600, 1000] := by simp [srt, List.mergeSort]
theorem ex_srt1 : srt [1] = [1] := by simp [srt]
theorem ex_lst : lstE 1000 [600] [exS] [] = 0 := by
  have e1 : nosK [exS] [exS].length = [1] := rfl
  have e2 : nosE [] ([] : List Edc).length = [] := rfl
  have e3 : srt ([] : List Int) = [] := by simp [srt]
  unfold lstE sgnsB edcsB numB
  rw [e1, e2, e3, ex_srt1]
  decide
theorem ex_held (row : List Pst) (h : RowL 1000 [600] 1 3 [exS] row) : hldM 1000 1 1 row = [(200, 600, 70)] := by
  obtain ⟨ad, cp, l1, hp, -, rfl⟩ := h
  have e : rowK 1000 [600] 1 3 [exS] ad cp [exS].length = [(mkP 1000 [600] 1 exS, ad 0, cp 0)] := rfl
  rw [e] at hp
  obtain rfl := List.perm_singleton.1 hp
  have e2 : (finP [(mkP 1000 [600] 1 exS, ad 0, cp 0)] ([(mkP 1000 [600] 1 exS, ad 0, cp 0)].length - 1)).map (·.1) = [mkP 1000 [600] 1 exS] := rfl
  rw [e2]
  have e3 : cutsK 1000 1 [mkP 1000 [600] 1 exS] [mkP 1000 [600] 1 exS].length = [0, 1000, 200, 600] := by decide
  unfold hldM ascL
  rw [e3, ex_srt]
  decide
theorem pairs_nilR (w : World) : PairsS w none [] := ⟨by decide, fun i hi => absurd hi (Nat.not_lt_zero i), 0, 0, fun h => (h rfl).elim, fun i hi => absurd hi (Nat.not_lt_zero i)⟩
theorem ex_ints {w : World} {b : Nat} (h : w.cell? ⟨b, 0, none⟩ = some (.int .i64 600)) : IntsS w (some ⟨b, 0, none⟩) [600] := ⟨by decide, fun i hi => by
  have hi : i < 1 := hi
  obtain rfl : i = 0 := by omega
  exact ⟨by decide, by decide⟩, b, 0, fun _ => rfl, fun i hi => by
  have hi : i < 1 := hi
  obtain rfl : i = 0 := by omega
  exact h⟩
theorem ex_sgn {w : World} {b : Nat} (h : w.heap[b]? = some (.cells #[.int .i64 1, .int .i64 1, .int .i64 70, .int .i64 200, .int .i64 1, .int .i64 1, .int .i64 0, .int .i64 9, .slice none 0 0] 34)) : SgnS w (some ⟨b, 0, none⟩) [exS] := ⟨by decide, b, 0, fun _ => none, fun _ => 0, fun _ => rfl, fun i hi => by
  have hi : i < 1 := hi
  obtain rfl : i = 0 := by omega
  exact ⟨⟨by simp [World.cell?, h]; rfl, by simp [World.cell?, h]; rfl, by simp [World.cell?, h]; rfl, by simp [World.cell?, h]; rfl, by simp [World.cell?, h]; rfl, by simp [World.cell?, h]; rfl, by simp [World.cell?, h]; rfl, by simp [World.cell?, h]; rfl⟩, by simp [World.cell?, h]; rfl, pairs_nilR _⟩⟩
/-- The example's stretch. -/
def ExE (w : World) (e : Ending) (w' : World) : Prop := ∃ g c, e = .returned (.tuple #[.slice (some ⟨g, 0, none⟩) 1 c, .int .i64 0]) ∧ w'.cell? ⟨g, 0, none⟩ = some (.int .i64 200) ∧ w'.cell? ⟨g, 1, none⟩ = some (.int .i64 600) ∧ w'.cell? ⟨g, 2, none⟩ = some (.int .i64 70) ∧ Below w.heap.size w w'
theorem ex_call (b1 b2 : Nat) (w : World) (h1 : IntsS w (some ⟨b1, 0, none⟩) [600]) (h2 : SgnS w (some ⟨b2, 0, none⟩) [exS]) : Calls Tryz.prog 26 #[.agg #[.int .i64 1000, .slice (some ⟨b1, 0, none⟩) 1 1], .slice (some ⟨b2, 0, none⟩) 1 1, .int .i64 3, .int .i64 1, .int .i64 1] w (ExE w) := by
  refine (Held_good 1000 (some ⟨b1, 0, none⟩) [600] 1 (some ⟨b2, 0, none⟩) [exS] 1 3 1 1 ex_lst (by decide) (by decide) (by decide) w h1 h2).mono ?_
  rintro e w' ⟨row, b, c, hRL, rfl, hown, hb⟩
  rw [ex_held row hRL] at hown ⊢
  rcases hown.2 with ⟨h1, h2⟩ | ⟨g2, c2, cur, h1, _⟩
  · cases h2
  · obtain ⟨rfl, rfl⟩ : b = some ⟨g2, 0, none⟩ ∧ c = c2 := by simpa using h1
    exact ⟨g2, c, rfl, (World.ownsRow.cellAt hown 0 (by decide)).trans rfl, (World.ownsRow.cellAt hown 1 (by decide)).trans rfl, (World.ownsRow.cellAt hown 2 (by decide)).trans rfl, hb⟩
set_option maxRecDepth 100000 in
set_option maxHeartbeats 1000000 in
theorem first_any (w : World) : Calls Tryz.prog 12 #[] w fun e w' => e = .returned (.bool true) ∧ Below w.heap.size w w' := by
  go_enter Tryz.func12, Tryz.ntmps12
  go_wp2_with fail
  obtain ⟨wB, hwB⟩ : ∃ wB, ((w.alloc (.cells #[.int .i64 600] 3)).alloc (.cells #[.int .i64 1000, .slice (some ⟨w.heap.size, 0, none⟩) 1 1] 24)).alloc (.cells #[.int .i64 1, .int .i64 1, .int .i64 70, .int .i64 200, .int .i64 1, .int .i64 1, .int .i64 0, .int .i64 9, .slice none 0 0] 34) = wB := ⟨_, rfl⟩
  have hb : Below w.heap.size w wB := by rw [← hwB]; exact (((Below.refl _ _).alloc (Nat.le_refl _) _).alloc (by simp) _).alloc (by simp; omega) _
  have HI : Hid (IntsS wB (some ⟨w.heap.size, 0, none⟩) [600]) := Lib.hid (ex_ints (by rw [← hwB]; simp [go_sem]))
  have HS : Hid (SgnS wB (some ⟨w.heap.size + 1 + 1, 0, none⟩) [exS]) := Lib.hid (ex_sgn (by rw [← hwB]; have := heap_alloc_new ((w.alloc (.cells #[.int .i64 600] 3)).alloc (.cells #[.int .i64 1000, .slice (some ⟨w.heap.size, 0, none⟩) 1 1] 24)) (.cells #[.int .i64 1, .int .i64 1, .int .i64 70, .int .i64 200, .int .i64 1, .int .i64 1, .int .i64 0, .int .i64 9, .slice none 0 0] 34); simpa using this))
  rw [hwB]
  clear hwB
  refine (ex_call _ _ _ HI.out HS.out).mono ?_
  rintro e w1 ⟨g, c, rfl, c0, c1, c2, hb1⟩
  have hb := hb.trans (hb1.mono hb.size)
  clear hb1 HI HS
  go_wp2_with fail
  go_ret
  exact ⟨rfl, hb⟩
end Go.Proofs.YtiagflackfkmnaaGreat

namespace Go.Proofs.YtiagflackfkmnaaGreat
set_option linter.unusedVariables false
set_option linter.unusedSimpArgs false
open Go.RowKit

/-- Heavy says whether an ask is too large. -/
def HvyE (L : Int) (js : List Int) (l : List Sgn) (q : List Edc) (w : World) (e : Ending) (w' : World) : Prop :=
  ∃ b : Bool, (b = false → js.length ≤ 60 ∧ l.length ≤ 120 ∧ q.length ≤ 60 ∧ (lineB L js = true → L ≤ 500)) ∧ e = .returned (.bool b) ∧ Below w.heap.size w w'
set_option maxRecDepth 100000 in
set_option maxHeartbeats 2000000 in
theorem Heavy_any (L : Int) (a : Option Addr) (js : List Int) (ca : Nat) (aa : Option Addr) (l : List Sgn) (cl : Nat) (ae : Option Addr) (q : List Edc) (cq : Nat) (q0 q1 q2 q3 : Int) (w : World) (hI : IntsS w a js) (hA : SgnS w aa l) (hE : EdS w ae q) : Calls Tryz.prog 11 #[.agg #[.int .i64 L, .slice a js.length ca, .slice aa l.length cl, .slice ae q.length cq, .int .i64 q0, .int .i64 q1, .int .i64 q2, .int .i64 q3]] w (HvyE L js l q w) := by
  have HV := Lib.hid (fun W (hW : Below w.heap.size w W) => refValidLine_r L a js ca W (hI.below hW))
  obtain ⟨-, blk, off, ad, cp, hadr, hc⟩ := hA
  have HC : Hid (∀ i, i < l.length → w.cell? ⟨blk, off + i * 9 + 8, none⟩ = some (.slice (ad i) (gs l i).cv.length (cp i))) := Lib.hid fun i hi => (hc i hi).2.1
  have HL : Hid (0 < l.length → aa = some ⟨blk, off, none⟩) := Lib.hid fun h => hadr (List.ne_nil_of_length_pos h)
  have HCV : Hid (∀ i, i < l.length → (gs l i).cv.length ≤ 9223372036854775807) := Lib.hid fun i hi => (hc i hi).2.2.1
  have hq := hE.1
  have hj := hI.1
  clear hI hE hadr hc
  by_cases h1 : 60 < js.length
  · have h1i : (60 : Int) < (js.length : Int) := by omega
    clear HV HC HL
    go_enter Tryz.func11, Tryz.ntmps11
    go_wp2_with fail
    obtain ⟨wB, hwB⟩ : ∃ wB, w.alloc (.cells #[.int .i64 L, .slice a js.length ca, .slice aa l.length cl, .slice ae q.length cq, .int .i64 q0, .int .i64 q1, .int .i64 q2, .int .i64 q3] 28) = wB := ⟨_, rfl⟩
    have hb : Below w.heap.size w wB := by rw [← hwB]; exact (Below.refl _ _).alloc (Nat.le_refl _) _
    have p0 : wB.cell? ⟨w.heap.size, 0, none⟩ = some (.int .i64 L) := by rw [← hwB]; simp [go_sem]
    have p1 : wB.cell? ⟨w.heap.size, 1, none⟩ = some (.slice a js.length ca) := by rw [← hwB]; simp [go_sem]
    have p2 : wB.cell? ⟨w.heap.size, 2, none⟩ = some (.slice aa l.length cl) := by rw [← hwB]; simp [go_sem]
    have p3 : wB.cell? ⟨w.heap.size, 3, none⟩ = some (.slice ae q.length cq) := by rw [← hwB]; simp [go_sem]
    have p4 : wB.cell? ⟨w.heap.size, 4, none⟩ = some (.int .i64 q0) := by rw [← hwB]; simp [go_sem]
    have p5 : wB.cell? ⟨w.heap.size, 5, none⟩ = some (.int .i64 q1) := by rw [← hwB]; simp [go_sem]
    have p6 : wB.cell? ⟨w.heap.size, 6, none⟩ = some (.int .i64 q2) := by rw [← hwB]; simp [go_sem]
    have p7 : wB.cell? ⟨w.heap.size, 7, none⟩ = some (.int .i64 q3) := by rw [← hwB]; simp [go_sem]
    rw [hwB]
    clear hwB
    go_wp2_with fail
    go_ret
    exact ⟨true, (fun h => by cases h), rfl, hb⟩
  have h1i : ¬ (60 : Int) < (js.length : Int) := by omega
  by_cases h2 : 120 < l.length
  · have h2i : (120 : Int) < (l.length : Int) := by omega
    clear HV HC HL
    go_enter Tryz.func11, Tryz.ntmps11
    go_wp2_with fail
    obtain ⟨wB, hwB⟩ : ∃ wB, w.alloc (.cells #[.int .i64 L, .slice a js.length ca, .slice aa l.length cl, .slice ae q.length cq, .int .i64 q0, .int .i64 q1, .int .i64 q2, .int .i64 q3] 28) = wB := ⟨_, rfl⟩
    have hb : Below w.heap.size w wB := by rw [← hwB]; exact (Below.refl _ _).alloc (Nat.le_refl _) _
    have p0 : wB.cell? ⟨w.heap.size, 0, none⟩ = some (.int .i64 L) := by rw [← hwB]; simp [go_sem]
    have p1 : wB.cell? ⟨w.heap.size, 1, none⟩ = some (.slice a js.length ca) := by rw [← hwB]; simp [go_sem]
    have p2 : wB.cell? ⟨w.heap.size, 2, none⟩ = some (.slice aa l.length cl) := by rw [← hwB]; simp [go_sem]
    have p3 : wB.cell? ⟨w.heap.size, 3, none⟩ = some (.slice ae q.length cq) := by rw [← hwB]; simp [go_sem]
    have p4 : wB.cell? ⟨w.heap.size, 4, none⟩ = some (.int .i64 q0) := by rw [← hwB]; simp [go_sem]
    have p5 : wB.cell? ⟨w.heap.size, 5, none⟩ = some (.int .i64 q1) := by rw [← hwB]; simp [go_sem]
    have p6 : wB.cell? ⟨w.heap.size, 6, none⟩ = some (.int .i64 q2) := by rw [← hwB]; simp [go_sem]
    have p7 : wB.cell? ⟨w.heap.size, 7, none⟩ = some (.int .i64 q3) := by rw [← hwB]; simp [go_sem]
    rw [hwB]
    clear hwB
    go_wp2_with fail
    go_ret
    exact ⟨true, (fun h => by cases h), rfl, hb⟩
  have h2i : ¬ (120 : Int) < (l.length : Int) := by omega
  by_cases h3 : 60 < q.length
  · have h3i : (60 : Int) < (q.length : Int) := by omega
    clear HV HC HL
    go_enter Tryz.func11, Tryz.ntmps11
    go_wp2_with fail
    obtain ⟨wB, hwB⟩ : ∃ wB, w.alloc (.cells #[.int .i64 L, .slice a js.length ca, .slice aa l.length cl, .slice ae q.length cq, .int .i64 q0, .int .i64 q1, .int .i64 q2, .int .i64 q3] 28) = wB := ⟨_, rfl⟩
    have hb : Below w.heap.size w wB := by rw [← hwB]; exact (Below.refl _ _).alloc (Nat.le_refl _) _
    have p0 : wB.cell? ⟨w.heap.size, 0, none⟩ = some (.int .i64 L) := by rw [← hwB]; simp [go_sem]
    have p1 : wB.cell? ⟨w.heap.size, 1, none⟩ = some (.slice a js.length ca) := by rw [← hwB]; simp [go_sem]
    have p2 : wB.cell? ⟨w.heap.size, 2, none⟩ = some (.slice aa l.length cl) := by rw [← hwB]; simp [go_sem]
    have p3 : wB.cell? ⟨w.heap.size, 3, none⟩ = some (.slice ae q.length cq) := by rw [← hwB]; simp [go_sem]
    have p4 : wB.cell? ⟨w.heap.size, 4, none⟩ = some (.int .i64 q0) := by rw [← hwB]; simp [go_sem]
    have p5 : wB.cell? ⟨w.heap.size, 5, none⟩ = some (.int .i64 q1) := by rw [← hwB]; simp [go_sem]
    have p6 : wB.cell? ⟨w.heap.size, 6, none⟩ = some (.int .i64 q2) := by rw [← hwB]; simp [go_sem]
    have p7 : wB.cell? ⟨w.heap.size, 7, none⟩ = some (.int .i64 q3) := by rw [← hwB]; simp [go_sem]
    rw [hwB]
    clear hwB
    go_wp2_with fail
    go_ret
    exact ⟨true, (fun h => by cases h), rfl, hb⟩
  have h3i : ¬ (60 : Int) < (q.length : Int) := by omega
  cases h4 : lineB L js with
  | true =>
    rw [h4] at HV
    by_cases h5 : 500 < L
    · clear HC HL h4
      go_enter Tryz.func11, Tryz.ntmps11
      go_wp2_with fail
      obtain ⟨wB, hwB⟩ : ∃ wB, w.alloc (.cells #[.int .i64 L, .slice a js.length ca, .slice aa l.length cl, .slice ae q.length cq, .int .i64 q0, .int .i64 q1, .int .i64 q2, .int .i64 q3] 28) = wB := ⟨_, rfl⟩
      have hb : Below w.heap.size w wB := by rw [← hwB]; exact (Below.refl _ _).alloc (Nat.le_refl _) _
      have p0 : wB.cell? ⟨w.heap.size, 0, none⟩ = some (.int .i64 L) := by rw [← hwB]; simp [go_sem]
      have p1 : wB.cell? ⟨w.heap.size, 1, none⟩ = some (.slice a js.length ca) := by rw [← hwB]; simp [go_sem]
      have p2 : wB.cell? ⟨w.heap.size, 2, none⟩ = some (.slice aa l.length cl) := by rw [← hwB]; simp [go_sem]
      have p3 : wB.cell? ⟨w.heap.size, 3, none⟩ = some (.slice ae q.length cq) := by rw [← hwB]; simp [go_sem]
      have p4 : wB.cell? ⟨w.heap.size, 4, none⟩ = some (.int .i64 q0) := by rw [← hwB]; simp [go_sem]
      have p5 : wB.cell? ⟨w.heap.size, 5, none⟩ = some (.int .i64 q1) := by rw [← hwB]; simp [go_sem]
      have p6 : wB.cell? ⟨w.heap.size, 6, none⟩ = some (.int .i64 q2) := by rw [← hwB]; simp [go_sem]
      have p7 : wB.cell? ⟨w.heap.size, 7, none⟩ = some (.int .i64 q3) := by rw [← hwB]; simp [go_sem]
      rw [hwB]
      clear hwB
      go_wp2_with (go_at_call 41; refine (HV.out _ hb).mono ?_; rintro e w1 ⟨rfl, hb1⟩; have hbw := hb.trans (hb1.mono hb.size); replace p0 := cell_below p0 hb1; replace p1 := cell_below p1 hb1; replace p2 := cell_below p2 hb1; replace p3 := cell_below p3 hb1; replace p4 := cell_below p4 hb1; replace p5 := cell_below p5 hb1; replace p6 := cell_below p6 hb1; replace p7 := cell_below p7 hb1)
      go_ret
      exact ⟨true, (fun h => by cases h), rfl, hbw⟩
    · have HB : Hid (lineB L js = true → L ≤ 500) := Lib.hid (fun _ => by omega)
      clear h4
      go_enter Tryz.func11, Tryz.ntmps11
      go_wp2_with fail
      obtain ⟨wB, hwB⟩ : ∃ wB, w.alloc (.cells #[.int .i64 L, .slice a js.length ca, .slice aa l.length cl, .slice ae q.length cq, .int .i64 q0, .int .i64 q1, .int .i64 q2, .int .i64 q3] 28) = wB := ⟨_, rfl⟩
      have hb : Below w.heap.size w wB := by rw [← hwB]; exact (Below.refl _ _).alloc (Nat.le_refl _) _
      have p0 : wB.cell? ⟨w.heap.size, 0, none⟩ = some (.int .i64 L) := by rw [← hwB]; simp [go_sem]
      have p1 : wB.cell? ⟨w.heap.size, 1, none⟩ = some (.slice a js.length ca) := by rw [← hwB]; simp [go_sem]
      have p2 : wB.cell? ⟨w.heap.size, 2, none⟩ = some (.slice aa l.length cl) := by rw [← hwB]; simp [go_sem]
      have p3 : wB.cell? ⟨w.heap.size, 3, none⟩ = some (.slice ae q.length cq) := by rw [← hwB]; simp [go_sem]
      have p4 : wB.cell? ⟨w.heap.size, 4, none⟩ = some (.int .i64 q0) := by rw [← hwB]; simp [go_sem]
      have p5 : wB.cell? ⟨w.heap.size, 5, none⟩ = some (.int .i64 q1) := by rw [← hwB]; simp [go_sem]
      have p6 : wB.cell? ⟨w.heap.size, 6, none⟩ = some (.int .i64 q2) := by rw [← hwB]; simp [go_sem]
      have p7 : wB.cell? ⟨w.heap.size, 7, none⟩ = some (.int .i64 q3) := by rw [← hwB]; simp [go_sem]
      rw [hwB]
      clear hwB
      go_wp2_with (go_at_call 41; refine (HV.out _ hb).mono ?_; rintro e w1 ⟨rfl, hb1⟩; have hbw := hb.trans (hb1.mono hb.size); replace p0 := cell_below p0 hb1; replace p1 := cell_below p1 hb1; replace p2 := cell_below p2 hb1; replace p3 := cell_below p3 hb1; replace p4 := cell_below p4 hb1; replace p5 := cell_below p5 hb1; replace p6 := cell_below p6 hb1; replace p7 := cell_below p7 hb1)
      go_loopw [3] (fun i wr => ∃ k : Nat, k ≤ l.length ∧ i = .int .i64 k ∧ Below w1.heap.size w1 wr) (fun i _ => l.length - (intOf i).toNat)
      case atStart => exact ⟨0, Nat.zero_le _, rfl, Below.refl _ _⟩
      case round =>
        obtain ⟨k, hk, rfl, hbr⟩ := hrel
        have p2 := cell_below p2 hbr
        by_cases hlt : k < l.length
        · obtain rfl := HL.out (by omega)
          have hbo := hbw.trans (hbr.mono hbw.size)
          have c8 := cell_below (HC.out k hlt) hbo
          have hcv := HCV.out k hlt
          have hkl : (k : Int) < (l.length : Int) := by omega
          have hmeas : l.length - (k + 1) < l.length - k := by omega
          clear HC HL HCV
          generalize ad k = adk at *
          generalize cp k = cpk at *
          generalize (gs l k).cv.length = m at *
          by_cases hm : 20 < m
          · have hmi : (20 : Int) < (m : Int) := by omega
            go_wp2_with fail
            go_ret
            exact ⟨true, (fun h => by cases h), rfl, hbo⟩
          · have hmi : ¬ (20 : Int) < (m : Int) := by omega
            go_wp2_with fail
            go_roundw
            case rel => exact ⟨k + 1, by omega, by go_num, hbr⟩
            case measure => first | (simp [intOf]; exact hmeas) | simpa [intOf] using hmeas
        · obtain rfl : k = l.length := by omega
          go_wp2_with fail
          go_ret
          exact ⟨false, fun _ => ⟨by omega, by omega, by omega, HB.out⟩, rfl, hbw.trans (hbr.mono hbw.size)⟩
  | false =>
    rw [h4] at HV
    have HB : Hid (lineB L js = true → L ≤ 500) := Lib.hid (fun h => by rw [h4] at h; cases h)
    clear h4
    go_enter Tryz.func11, Tryz.ntmps11
    go_wp2_with fail
    obtain ⟨wB, hwB⟩ : ∃ wB, w.alloc (.cells #[.int .i64 L, .slice a js.length ca, .slice aa l.length cl, .slice ae q.length cq, .int .i64 q0, .int .i64 q1, .int .i64 q2, .int .i64 q3] 28) = wB := ⟨_, rfl⟩
    have hb : Below w.heap.size w wB := by rw [← hwB]; exact (Below.refl _ _).alloc (Nat.le_refl _) _
    have p0 : wB.cell? ⟨w.heap.size, 0, none⟩ = some (.int .i64 L) := by rw [← hwB]; simp [go_sem]
    have p1 : wB.cell? ⟨w.heap.size, 1, none⟩ = some (.slice a js.length ca) := by rw [← hwB]; simp [go_sem]
    have p2 : wB.cell? ⟨w.heap.size, 2, none⟩ = some (.slice aa l.length cl) := by rw [← hwB]; simp [go_sem]
    have p3 : wB.cell? ⟨w.heap.size, 3, none⟩ = some (.slice ae q.length cq) := by rw [← hwB]; simp [go_sem]
    have p4 : wB.cell? ⟨w.heap.size, 4, none⟩ = some (.int .i64 q0) := by rw [← hwB]; simp [go_sem]
    have p5 : wB.cell? ⟨w.heap.size, 5, none⟩ = some (.int .i64 q1) := by rw [← hwB]; simp [go_sem]
    have p6 : wB.cell? ⟨w.heap.size, 6, none⟩ = some (.int .i64 q2) := by rw [← hwB]; simp [go_sem]
    have p7 : wB.cell? ⟨w.heap.size, 7, none⟩ = some (.int .i64 q3) := by rw [← hwB]; simp [go_sem]
    rw [hwB]
    clear hwB
    go_wp2_with (go_at_call 41; refine (HV.out _ hb).mono ?_; rintro e w1 ⟨rfl, hb1⟩; have hbw := hb.trans (hb1.mono hb.size); replace p0 := cell_below p0 hb1; replace p1 := cell_below p1 hb1; replace p2 := cell_below p2 hb1; replace p3 := cell_below p3 hb1; replace p4 := cell_below p4 hb1; replace p5 := cell_below p5 hb1; replace p6 := cell_below p6 hb1; replace p7 := cell_below p7 hb1)
    go_loopw [3] (fun i wr => ∃ k : Nat, k ≤ l.length ∧ i = .int .i64 k ∧ Below w1.heap.size w1 wr) (fun i _ => l.length - (intOf i).toNat)
    case atStart => exact ⟨0, Nat.zero_le _, rfl, Below.refl _ _⟩
    case round =>
      obtain ⟨k, hk, rfl, hbr⟩ := hrel
      have p2 := cell_below p2 hbr
      by_cases hlt : k < l.length
      · obtain rfl := HL.out (by omega)
        have hbo := hbw.trans (hbr.mono hbw.size)
        have c8 := cell_below (HC.out k hlt) hbo
        have hcv := HCV.out k hlt
        have hkl : (k : Int) < (l.length : Int) := by omega
        have hmeas : l.length - (k + 1) < l.length - k := by omega
        clear HC HL HCV
        generalize ad k = adk at *
        generalize cp k = cpk at *
        generalize (gs l k).cv.length = m at *
        by_cases hm : 20 < m
        · have hmi : (20 : Int) < (m : Int) := by omega
          go_wp2_with fail
          go_ret
          exact ⟨true, (fun h => by cases h), rfl, hbo⟩
        · have hmi : ¬ (20 : Int) < (m : Int) := by omega
          go_wp2_with fail
          go_roundw
          case rel => exact ⟨k + 1, by omega, by go_num, hbr⟩
          case measure => first | (simp [intOf]; exact hmeas) | simpa [intOf] using hmeas
      · obtain rfl : k = l.length := by omega
        go_wp2_with fail
        go_ret
        exact ⟨false, fun _ => ⟨by omega, by omega, by omega, HB.out⟩, rfl, hbw.trans (hbr.mono hbw.size)⟩
end Go.Proofs.YtiagflackfkmnaaGreat

namespace Go.Proofs.YtiagflackfkmnaaGreat
set_option linter.unusedVariables false
set_option linter.unusedSimpArgs false
open Go.RowKit

theorem cmp_spec (d : Array Int) (hs : ∀ i j, i ≤ j → j < d.size → d[i]! ≤ d[j]!) : ∀ m, m ≤ d.size → (Lib.compactUpTo d m).Pairwise (· < ·) ∧ ∀ x, x ∈ Lib.compactUpTo d m ↔ ∃ j, j < m ∧ d[j]! = x
  | 0, _ => ⟨by simp [Lib.compactUpTo], fun x => by simp [Lib.compactUpTo]⟩
  | m + 1, hm => by
    obtain ⟨h1, h2⟩ := cmp_spec d hs m (by omega)
    rw [Lib.compactUpTo_succ]
    by_cases hk : Lib.keeps d m = true
    · rw [if_pos hk]
      refine ⟨List.pairwise_append.2 ⟨h1, by simp, fun x hx y hy => ?_⟩, fun x => ?_⟩
      · obtain ⟨j, hj, e⟩ := (h2 x).1 hx
        rw [List.mem_singleton.1 hy, ← e]
        by_cases h0 : m = 0
        · omega
        · have h3 := hs j (m - 1) (by omega) (by omega)
          have h4 := hs (m - 1) m (by omega) (by omega)
          have h5 : d[m]! ≠ d[m - 1]! := by
            intro e2
            unfold Lib.keeps at hk
            simp [h0, e2] at hk
          omega
      · rw [List.mem_append, h2, List.mem_singleton]
        constructor
        · rintro (⟨j, hj, e⟩ | e)
          · exact ⟨j, by omega, e⟩
          · exact ⟨m, by omega, e.symm⟩
        · rintro ⟨j, hj, e⟩
          by_cases hjm : j = m
          · right; rw [← e, hjm]
          · left; exact ⟨j, by omega, e⟩
    · rw [if_neg hk, List.append_nil]
      refine ⟨h1, fun x => ?_⟩
      rw [h2]
      have h0 : m ≠ 0 := by rintro rfl; exact hk (by simp [Lib.keeps])
      have h5 : d[m]! = d[m - 1]! := by
        by_cases e : d[m]! = d[m - 1]!
        · exact e
        · exact absurd (by unfold Lib.keeps; simp [h0, e]) hk
      constructor
      · rintro ⟨j, hj, e⟩; exact ⟨j, by omega, e⟩
      · rintro ⟨j, hj, e⟩
        by_cases hjm : j = m
        · exact ⟨m - 1, by omega, by rw [← e, hjm, h5]⟩
        · exact ⟨j, by omega, e⟩
theorem srt_pw (zs : List Int) : (srt zs).Pairwise (· ≤ ·) := by
  have := List.pairwise_mergeSort (le := fun x y : Int => decide (x ≤ y)) (fun a b c h1 h2 => by simp only [decide_eq_true_eq] at *; omega) (fun a b => by simp only [Bool.or_eq_true, decide_eq_true_eq]; omega) zs
  exact this.imp (fun h => by simpa using h)
theorem cmp_sorted {zs : List Int} (h : zs.Pairwise (· ≤ ·)) : (Lib.compact zs).Pairwise (· < ·) ∧ ∀ x, x ∈ Lib.compact zs ↔ x ∈ zs := by
  have hs : ∀ i j, i ≤ j → j < zs.toArray.size → zs.toArray[i]! ≤ zs.toArray[j]! := fun i j hij hj => by
    have hj' : j < zs.length := by simpa using hj
    rw [List.getElem!_toArray, List.getElem!_toArray, getElem!_pos zs i (by omega), getElem!_pos zs j hj']
    by_cases e : i = j
    · subst e; exact Int.le_refl _
    · exact (List.pairwise_iff_getElem.1 h) i j (by omega) hj' (by omega)
  obtain ⟨h1, h2⟩ := cmp_spec zs.toArray hs zs.length (by simp)
  refine ⟨h1, fun x => ?_⟩
  show x ∈ Lib.compactUpTo _ _ ↔ _
  rw [h2]
  constructor
  · rintro ⟨j, hj, e⟩
    rw [List.getElem!_toArray, getElem!_pos zs j hj] at e
    rw [← e]; exact List.getElem_mem hj
  · intro hx
    obtain ⟨j, hj, e⟩ := List.getElem_of_mem hx
    exact ⟨j, hj, by rw [List.getElem!_toArray, getElem!_pos zs j hj]; exact e⟩
theorem asc_pw (cuts : List Int) : (ascL cuts).Pairwise (· < ·) := (cmp_sorted (srt_pw cuts)).1
theorem asc_iff (cuts : List Int) (x : Int) : x ∈ ascL cuts ↔ x ∈ cuts := ((cmp_sorted (srt_pw cuts)).2 x).trans (srt_perm cuts).mem_iff

section
variable {V : Type} [DecidableEq V] [Inhabited V]
def gtV (l : List (Int × Int × V)) (i : Nat) : Int × Int × V := l.getD i (0, 0, default)
def prt1V (acc : List (Int × Int × V)) (x y : Int) (v : V) : List (Int × Int × V) := if 0 < acc.length ∧ (gtV acc (acc.length - 1)).2.2 = v then acc.set (acc.length - 1) ((gtV acc (acc.length - 1)).1, y, v) else acc ++ [(x, y, v)]
def prtV (z : List Int) (f : Int → V) : Nat → List (Int × Int × V)
  | 0 => []
  | k + 1 => if k = 0 then [] else prt1V (prtV z f k) (gi z (k - 1)) (gi z k) (f (gi z (k - 1)))
/-- One metre more, where some values are of no account. -/
def st1V (sk : V → Bool) (acc : List (Int × Int × V)) (m : Int) (v : V) : List (Int × Int × V) :=
  if sk v = true then acc else if 0 < acc.length ∧ (gtV acc (acc.length - 1)).2.1 = m ∧ (gtV acc (acc.length - 1)).2.2 = v then acc.set (acc.length - 1) ((gtV acc (acc.length - 1)).1, m + 1, v) else acc ++ [(m, m + 1, v)]
def strV (sk : V → Bool) (f : Int → V) : Nat → List (Int × Int × V)
  | 0 => []
  | n + 1 => st1V sk (strV sk f n) n (f n)
omit [DecidableEq V] in
theorem gtV_snoc (pre : List (Int × Int × V)) (q : Int × Int × V) : gtV (pre ++ [q]) ((pre ++ [q]).length - 1) = q := by
  unfold gtV; simp
theorem set_snoc {α : Type} (pre : List α) (q r : α) : (pre ++ [q]).set ((pre ++ [q]).length - 1) r = pre ++ [r] := by
  rw [List.length_append, List.length_singleton, Nat.add_sub_cancel, List.set_append_right _ _ (Nat.le_refl _)]
  simp
theorem prt1V_snoc (pre : List (Int × Int × V)) (x y0 a b : Int) (u v : V) : prt1V (pre ++ [(x, y0, u)]) a b v = if u = v then pre ++ [(x, b, v)] else pre ++ [(x, y0, u)] ++ [(a, b, v)] := by
  unfold prt1V
  rw [gtV_snoc, set_snoc]
  by_cases h : u = v
  · rw [if_pos ⟨by simp, h⟩, if_pos h]
  · rw [if_neg (fun hh => h hh.2), if_neg h]
theorem strV_skip {sk : V → Bool} {f : Int → V} {v : V} (hv : sk v = true) (a : Nat) : ∀ n, (∀ i : Nat, a ≤ i → i < a + n → f i = v) → strV sk f (a + n) = strV sk f a
  | 0, _ => rfl
  | n + 1, h => by
    rw [← Nat.add_assoc, strV, h (a + n) (by omega) (by omega)]
    unfold st1V
    rw [if_pos hv]
    exact strV_skip hv a n (fun i h1 h2 => h i h1 (by omega))
theorem strV_more {sk : V → Bool} {f : Int → V} {v : V} (hv : sk v = false) (a : Nat) (pre : List (Int × Int × V)) (x : Int) (hS : strV sk f a = pre ++ [(x, (a : Int), v)]) : ∀ n, (∀ i : Nat, a ≤ i → i < a + n → f i = v) → strV sk f (a + n) = pre ++ [(x, ((a + n : Nat) : Int), v)]
  | 0, _ => hS
  | n + 1, h => by
    have ih := strV_more hv a pre x hS n (fun i h1 h2 => h i h1 (by omega))
    rw [← Nat.add_assoc, strV, h (a + n) (by omega) (by omega), ih]
    unfold st1V
    rw [if_neg (by rw [hv]; simp), gtV_snoc, set_snoc, if_pos ⟨by simp, rfl, rfl⟩]
    simp
theorem strV_new {sk : V → Bool} {f : Int → V} {v : V} (hv : sk v = false) (a : Nat) (hS : ¬ (0 < (strV sk f a).length ∧ (gtV (strV sk f a) ((strV sk f a).length - 1)).2.1 = a ∧ (gtV (strV sk f a) ((strV sk f a).length - 1)).2.2 = v)) (n : Nat) (h : ∀ i : Nat, a ≤ i → i < a + (n + 1) → f i = v) : strV sk f (a + (n + 1)) = strV sk f a ++ [((a : Int), ((a + (n + 1) : Nat) : Int), v)] := by
  have h1 : strV sk f (a + 1) = strV sk f a ++ [((a : Int), ((a + 1 : Nat) : Int), v)] := by
    rw [strV, h a (Nat.le_refl _) (by omega)]
    unfold st1V
    rw [if_neg (by rw [hv]; simp), if_neg hS]
    simp
  have h2 := strV_more hv (a + 1) (strV sk f a) (a : Int) h1 n (fun i h1 h2 => h i (by omega) (by omega))
  rw [show a + 1 + n = a + (n + 1) by omega] at h2
  exact h2
def fltV (sk : V → Bool) (acc : List (Int × Int × V)) : List (Int × Int × V) := acc.filter fun p => !(sk p.2.2)
omit [DecidableEq V] [Inhabited V] in
theorem fltV_snoc (sk : V → Bool) (pre : List (Int × Int × V)) (q : Int × Int × V) : fltV sk (pre ++ [q]) = fltV sk pre ++ if sk q.2.2 = true then [] else [q] := by
  unfold fltV
  rw [List.filter_append]
  cases h : sk q.2.2 <;> simp [List.filter_cons, h]
/-- What the two ways agree on, up to a cut. -/
def InvV (sk : V → Bool) (f : Int → V) (acc : List (Int × Int × V)) (a : Nat) : Prop :=
  strV sk f a = fltV sk acc ∧ ((acc = [] ∧ a = 0) ∨ ∃ pre x u, acc = pre ++ [(x, (a : Int), u)] ∧ x < (a : Int) ∧ ∀ p, p ∈ pre → p.2.1 ≤ x)
theorem invV_step {sk : V → Bool} {f : Int → V} {acc : List (Int × Int × V)} {a b : Nat} (hab : a < b) (hc : ∀ i : Nat, a ≤ i → i < b → f i = f a) (h : InvV sk f acc a) : InvV sk f (prt1V acc a b (f a)) b := by
  obtain ⟨n, rfl⟩ : ∃ n, b = a + (n + 1) := ⟨b - a - 1, by omega⟩
  generalize f a = v at *
  obtain ⟨h1, h2⟩ := h
  rcases h2 with ⟨rfl, rfl⟩ | ⟨pre, x, u, rfl, hx, hp⟩
  · have e : prt1V ([] : List (Int × Int × V)) ((0 : Nat) : Int) ((0 + (n + 1) : Nat) : Int) v = [] ++ [(((0 : Nat) : Int), ((0 + (n + 1) : Nat) : Int), v)] := by unfold prt1V; simp
    rw [e]
    refine ⟨?_, .inr ⟨[], _, v, rfl, by omega, fun p hp => by cases hp⟩⟩
    rw [fltV_snoc]
    cases hv : sk v with
    | true => rw [strV_skip hv 0 (n + 1) hc, if_pos rfl]; rfl
    | false => rw [strV_new hv 0 (fun hh => absurd hh.1 (by simp [strV])) n hc, if_neg (by simp)]; rfl
  · rw [prt1V_snoc]
    rw [fltV_snoc] at h1
    by_cases huv : u = v
    · subst huv
      rw [if_pos rfl]
      refine ⟨?_, .inr ⟨pre, x, u, rfl, by omega, hp⟩⟩
      rw [fltV_snoc]
      cases hv : sk u with
      | true =>
        rw [if_pos hv] at h1
        rw [strV_skip hv a (n + 1) hc, h1, if_pos rfl]
      | false =>
        rw [if_neg (by rw [hv]; simp)] at h1
        rw [strV_more hv a _ x h1 (n + 1) hc, if_neg (by simp)]
    · rw [if_neg huv]
      refine ⟨?_, .inr ⟨pre ++ [(x, (a : Int), u)], a, v, rfl, by omega, fun p hpm => ?_⟩⟩
      · rw [fltV_snoc, fltV_snoc, ← h1]
        cases hv : sk v with
        | true => rw [strV_skip hv a (n + 1) hc, if_pos rfl, List.append_nil]
        | false =>
          rw [strV_new hv a ?_ n hc, if_neg (by simp)]
          rw [h1]
          rintro ⟨g1, g2, g3⟩
          cases hu : sk u with
          | false =>
            rw [hu, if_neg (by simp), gtV_snoc] at g3
            exact huv g3
          | true =>
            rw [hu, if_pos rfl, List.append_nil] at g1 g2
            have hm : gtV (fltV sk pre) ((fltV sk pre).length - 1) ∈ fltV sk pre := by
              unfold gtV
              rw [List.getD_eq_getElem?_getD, List.getElem?_eq_getElem (by omega)]
              exact List.getElem_mem _
            have := hp _ (List.mem_filter.1 hm).1
            omega
      · rw [List.mem_append, List.mem_singleton] at hpm
        rcases hpm with hpm | rfl
        · have := hp p hpm; omega
        · exact Int.le_refl _
theorem parts_str {sk : V → Bool} {f : Int → V} {z : List Int} (hz : z.Pairwise (· < ·)) (h0 : 0 < z.length → gi z 0 = 0) (hc : ∀ k, k + 1 < z.length → ∀ i : Int, gi z k ≤ i → i < gi z (k + 1) → f i = f (gi z k)) : ∀ k, k < z.length → InvV sk f (prtV z f (k + 1)) (gi z k).toNat
  | 0, hk => by
    rw [h0 hk]
    refine ⟨?_, .inl ⟨by rw [prtV, if_pos rfl], rfl⟩⟩
    rw [prtV, if_pos rfl]; rfl
  | k + 1, hk => by
    have ih := parts_str (sk := sk) hz h0 hc k (by omega)
    have hlt : ∀ i j, i < j → j < z.length → gi z i < gi z j := fun i j hij hj => by
      unfold gi
      rw [List.getD_eq_getElem?_getD, List.getD_eq_getElem?_getD, List.getElem?_eq_getElem (by omega), List.getElem?_eq_getElem hj]
      exact (List.pairwise_iff_getElem.1 hz) i j (by omega) hj hij
    have hpos : 0 ≤ gi z k := by
      by_cases e : k = 0
      · subst e; rw [h0 (by omega)]; exact Int.le_refl _
      · have := hlt 0 k (by omega) (by omega); rw [h0 (by omega)] at this; omega
    have hlk := hlt k (k + 1) (by omega) hk
    have e1 : ((gi z k).toNat : Int) = gi z k := Int.toNat_of_nonneg hpos
    have e2 : ((gi z (k + 1)).toNat : Int) = gi z (k + 1) := Int.toNat_of_nonneg (by omega)
    have st := invV_step (b := (gi z (k + 1)).toNat) (by omega) (fun i h1 h2 => by
      rw [e1]; exact hc k hk i (by omega) (by omega)) ih
    rw [e1, e2] at st
    rw [prtV, if_neg (by omega)]
    exact st
/-- Parts between cuts, those of no account left out, are the stretches metre by metre. -/
theorem parts_all {sk : V → Bool} {f : Int → V} {z : List Int} {L : Int} (hz : z.Pairwise (· < ·)) (h0 : gi z 0 = 0) (hL : gi z (z.length - 1) = L) (hne : 0 < z.length) (hc : ∀ k, k + 1 < z.length → ∀ i : Int, gi z k ≤ i → i < gi z (k + 1) → f i = f (gi z k)) : fltV sk (prtV z f z.length) = strV sk f L.toNat := by
  have := (parts_str (sk := sk) hz (fun _ => h0) hc (z.length - 1) (by omega)).1
  rw [hL, show z.length - 1 + 1 = z.length by omega] at this
  exact this.symm
end
theorem prtK_V (z : List Int) (f : Int → Int) : ∀ k, prtK z f k = prtV z f k
  | 0 => rfl
  | k + 1 => by
    rw [prtK, prtV, prtK_V z f k]; rfl
end Go.Proofs.YtiagflackfkmnaaGreat
