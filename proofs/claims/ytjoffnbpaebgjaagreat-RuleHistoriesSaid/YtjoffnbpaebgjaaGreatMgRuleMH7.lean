/-
  Held of package rule at good arguments. By an AI agent.; The sanity check of the laws of package rule. By an AI agent.; Heavy of package rule's laws. By an AI agent.; The reference's ValidSigns and ValidEdicts. By an AI agent.
-/
import Derived.Test.YtjoffnbpaebgjaaGreatMgRuleMH1
import Derived.Test.YtjoffnbpaebgjaaGreatMgRuleMH3
import Derived.Test.YtjoffnbpaebgjaaGreatMgRuleMH5
import Derived.Test.YtjoffnbpaebgjaaGreatMgRuleMH6
import Derived.BigQuiet
import Derived.BigRegion

namespace Go.Proofs.YtjoffnbpaebgjaaGreat
set_option linter.unusedVariables false
set_option linter.unusedSimpArgs false
open Go.RowKit

/-- What a line with signs holds along its way. -/
def hldM (L dir tp : Int) (row : List Pst) : List Tri := heldL (prtK (ascL (cutsK L dir row row.length)) (fun m => hldL tp (begK L dir m) row 0) (ascL (cutsK L dir row row.length)).length)
/-- Held returns. -/
def HeldE (L : Int) (js : List Int) (dir tp h : Int) (l : List Sgn) (w : World) (e : Ending) (w' : World) : Prop :=
  ∃ (row : List Pst) (b : Option Addr) (c : Nat), RowL L js dir h l row ∧ e = .returned (.tuple #[.slice b (hldM L dir tp row).length c, .int .i64 0]) ∧ w'.ownsRow w.heap.size 63 3 (.slice b (hldM L dir tp row).length c) (hldM L dir tp row).length (cl3 (hldM L dir tp row)) ∧ Below w.heap.size w w'
theorem btw_ge {n a b : Int} (h : btw n a b = true) : a ≤ n ∧ n ≤ b := by simpa [btw] using h
theorem val_bd {k v : Int} (h : valB k v = true) : 0 ≤ v ∧ v ≤ 100000 := by
  unfold valB at h
  split at h
  · have := btw_ge h; omega
  · split at h
    · have := eq_of_beq h; omega
    · split at h
      · have := btw_ge h; omega
      · split at h
        · have := btw_ge h; omega
        · cases h
/-- What good lists say of their numbers. -/
theorem lst_good {L : Int} {js : List Int} {l : List Sgn} {q : List Edc} (h : lstE L js l q = 0) : (0 ≤ L ∧ L ≤ 100000) ∧ (∀ j, j < js.length → 0 ≤ gi js j ∧ gi js j ≤ 100000) ∧ (∀ j, j < l.length → (0 ≤ (gs l j).c ∧ (gs l j).c ≤ 100000) ∧ 0 ≤ (gs l j).v ∧ (gs l j).v ≤ 100000) ∧ l.length ≤ 1000 := by
  unfold lstE at h
  split at h
  · cases h
  next h1 =>
  split at h
  · cases h
  next h2 =>
  have h1 : lineB L js = true := by simpa using h1
  have h2 : sgnsB L js l = true := by simpa using h2
  have g := h1
  unfold lineB at g
  simp only [Bool.and_eq_true, decide_eq_true_eq, Bool.not_eq_true'] at g
  have hL := btw_ge g.1.1
  have hJ := (anyK_iff _).1 g.2
  have hj : ∀ j, j < js.length → jOk L js j = true := fun j hj => by simpa using hJ j hj
  unfold sgnsB at h2
  simp only [Bool.and_eq_true, decide_eq_true_eq] at h2
  have hA := h2.1.2
  unfold allB at hA
  simp only [Bool.not_eq_true'] at hA
  have hS := (anyK_iff _).1 hA
  refine ⟨by omega, fun j hjl => ?_, fun j hjl => ?_, by omega⟩
  · have h0 := jOk_pos j (fun i hi => hj i (by omega))
    have h3 := hj j hjl
    unfold jOk at h3
    simp only [Bool.and_eq_true, decide_eq_true_eq] at h3
    omega
  · have h3 : sgnB L (gs l j) = true := by simpa using hS j hjl
    unfold sgnB at h3
    simp only [Bool.and_eq_true, decide_eq_true_eq] at h3
    have hc := btw_ge h3.1.1.1.1.1.2
    have hv := val_bd h3.1.1.1.1.1.1
    omega
theorem cuts_ne (L dir : Int) (row : List Pst) (k : Nat) : cutsK L dir row k ≠ [] := fun e => by
  have := cutsK_len L dir row k
  rw [e] at this
  simp at this
  omega
theorem ed_nil (w : World) : EdS w none [] := ⟨by decide, 0, 0, fun h => (h rfl).elim, fun i hi => absurd hi (Nat.not_lt_zero i)⟩
set_option maxRecDepth 100000 in
set_option maxHeartbeats 1000000 in
theorem Held_good (L : Int) (a : Option Addr) (js : List Int) (ca : Nat) (aa : Option Addr) (l : List Sgn) (cl : Nat) (h dir tp : Int) (hV : lstE L js l [] = 0) (hh : btw h 0 10000000 = true) (hd : dirB dir = true) (ht : topB tp = true) (w : World) (hI : IntsS w a js) (hA : SgnS w aa l) :
    Calls Tryz.prog 25 #[.agg #[.int .i64 L, .slice a js.length ca], .slice aa l.length cl, .int .i64 h, .int .i64 dir, .int .i64 tp] w (HeldE L js dir tp h l w) := by
  obtain ⟨⟨hL1, hL2⟩, hJ, hC, hn⟩ := lst_good hV
  have H1 := Lib.hid (fun W (hW : Below w.heap.size w W) => by
    have := listsError_r L a js ca aa l cl none [] 0 W (hI.below hW) (hA.below hW) (ed_nil W)
    rw [hV] at this
    exact this)
  have H2 := Lib.hid (fun W => hh ▸ isHour_r h W)
  have H3 := Lib.hid (fun W => hd ▸ isDir_r dir W)
  have H4 := Lib.hid (fun W => ht ▸ isTopic_r tp W)
  have H5 := Lib.hid (fun W (hW : Below w.heap.size w W) => told_r L a js ca aa l cl h dir tp hL1 hL2 hJ hC hn W (hI.below hW) (hA.below hW))
  have HF := Lib.hid (And.intro (And.intro hL1 hL2) hn)
  clear hI hA hV hh hd ht hJ hC hL1 hL2 hn
  go_enter Tryz.func25, Tryz.ntmps25
  go_wp2_with fail
  obtain ⟨wB, hwB⟩ : ∃ wB, w.alloc (.cells #[.int .i64 L, .slice a js.length ca] 24) = wB := ⟨_, rfl⟩
  have hb : Below w.heap.size w wB := by rw [← hwB]; exact (Below.refl _ _).alloc (Nat.le_refl _) _
  have l0 : wB.cell? ⟨w.heap.size, 0, none⟩ = some (.int .i64 L) := by rw [← hwB]; simp [go_sem]
  have l1 : wB.cell? ⟨w.heap.size, 1, none⟩ = some (.slice a js.length ca) := by rw [← hwB]; simp [go_sem]
  rw [hwB]
  clear hwB
  go_wp2_with (first | (go_at_call 26; refine (H1.out _ hb).mono ?_; rintro e w1 ⟨rfl, hb1⟩; have hbw := hb.trans (hb1.mono hb.size); replace l0 := cell_below l0 hb1; replace l1 := cell_below l1 hb1) | (go_at_call 41; refine (H2.out _).mono ?_; rintro e w2 ⟨rfl, rfl⟩) | (go_at_call 28; refine (H3.out _).mono ?_; rintro e w2 ⟨rfl, rfl⟩) | (go_at_call 29; refine (H4.out _).mono ?_; rintro e w2 ⟨rfl, rfl⟩) | (go_at_call 49; refine (H5.out _ hbw).mono ?_; rintro e w2 ⟨row, ar, cr, rb, wb, lb, aq, cq, hRL, hrl, hP, g1, g2, g3, g4, g5, rfl, hAq, hm, hb2⟩; have hbz := hbw.trans (hb2.mono hbw.size); have HG := Lib.hid (And.intro hRL hbz)) | (go_at_call 50; refine (heldT_r aq (cutsK L dir row row.length) cq #[.pointer (some ⟨rb, 0, none⟩), .pointer (some ⟨wb, 0, none⟩), .pointer (some ⟨lb, 0, none⟩)] (fun m => hldL tp (begK L dir m) row 0) w2 hAq (cuts_ne L dir row row.length) (by have := HF.out; rw [cutsK_len]; omega) (fun m W hm2 hW => told1_r L a js ca dir tp m row ar cr rb wb lb HF.out.1.1 HF.out.1.2 (hm m hm2).1 (hm m hm2).2 W (hP.below hW) (cell_below g1 hW) (cell_below g2 hW) (cell_below g3 hW) (cell_below g4 hW) (cell_below g5 hW))).mono ?_; rintro e w3 ⟨bb, cc, rfl, hown, hb3⟩; clear g1 g2 g3 g4 g5; have HOW := Lib.hid hown; clear hown))
  go_ret2
  exact ⟨row, bb, cc, HG.out.1, rfl, owns_baseI HOW.out HG.out.2.size, HG.out.2.trans (hb3.mono HG.out.2.size)⟩
end Go.Proofs.YtjoffnbpaebgjaaGreat

namespace Go.Proofs.YtjoffnbpaebgjaaGreat
set_option linter.unusedVariables false
set_option linter.unusedSimpArgs false
open Go.RowKit

def exS : Sgn := ⟨1, 1, 70, 200, 1, 1, 0, 9, []⟩
theorem ex_srt : srt [0, 1000, 200, 600] = [0, 200, 600, 1000] := by simp [srt, List.mergeSort]
theorem ex_srt1 : srt [1] = [1] := by simp [srt]
theorem ex_lst : lstE 1000 [600] [exS] [] = 0 := by
  have e1 : nosK [exS] [exS].length = [1] := rfl
  have e2 : nosE [] ([] : List Edc).length = [] := rfl
  have e3 : srt ([] : List Int) = [] := by simp [srt]
  unfold lstE sgnsB edcsB numB
  rw [e1, e2, e3, ex_srt1]
  decide
theorem ex_held (row : List Pst) (h : RowL 1000 [600] 1 3 [exS] row) : hldM 1000 1 1 row = [(200, 600, 70)] := by
  obtain ⟨ad, cp, l1, hp, -, rfl⟩ := h
  have e : rowK 1000 [600] 1 3 [exS] ad cp [exS].length = [(mkP 1000 [600] 1 exS, ad 0, cp 0)] := rfl
  rw [e] at hp
  obtain rfl := List.perm_singleton.1 hp
  have e2 : (finP [(mkP 1000 [600] 1 exS, ad 0, cp 0)] ([(mkP 1000 [600] 1 exS, ad 0, cp 0)].length - 1)).map (·.1) = [mkP 1000 [600] 1 exS] := rfl
  rw [e2]
  have e3 : cutsK 1000 1 [mkP 1000 [600] 1 exS] [mkP 1000 [600] 1 exS].length = [0, 1000, 200, 600] := by decide
  unfold hldM ascL
  rw [e3, ex_srt]
  decide
theorem pairs_nilR (w : World) : PairsS w none [] := ⟨by decide, fun i hi => absurd hi (Nat.not_lt_zero i), 0, 0, fun h => (h rfl).elim, fun i hi => absurd hi (Nat.not_lt_zero i)⟩
theorem ex_ints {w : World} {b : Nat} (h : w.cell? ⟨b, 0, none⟩ = some (.int .i64 600)) : IntsS w (some ⟨b, 0, none⟩) [600] := ⟨by decide, fun i hi => by
  have hi : i < 1 := hi
  obtain rfl : i = 0 := by omega
  exact ⟨by decide, by decide⟩, b, 0, fun _ => rfl, fun i hi => by
  have hi : i < 1 := hi
  obtain rfl : i = 0 := by omega
  exact h⟩
theorem ex_sgn {w : World} {b : Nat} (h : w.heap[b]? = some (.cells #[.int .i64 1, .int .i64 1, .int .i64 70, .int .i64 200, .int .i64 1, .int .i64 1, .int .i64 0, .int .i64 9, .slice none 0 0] 58)) : SgnS w (some ⟨b, 0, none⟩) [exS] := ⟨by decide, b, 0, fun _ => none, fun _ => 0, fun _ => rfl, fun i hi => by
  have hi : i < 1 := hi
  obtain rfl : i = 0 := by omega
  exact ⟨⟨by simp [World.cell?, h]; rfl, by simp [World.cell?, h]; rfl, by simp [World.cell?, h]; rfl, by simp [World.cell?, h]; rfl, by simp [World.cell?, h]; rfl, by simp [World.cell?, h]; rfl, by simp [World.cell?, h]; rfl, by simp [World.cell?, h]; rfl⟩, by simp [World.cell?, h]; rfl, pairs_nilR _⟩⟩
/-- The example's stretch. -/
def ExE (w : World) (e : Ending) (w' : World) : Prop := ∃ g c, e = .returned (.tuple #[.slice (some ⟨g, 0, none⟩) 1 c, .int .i64 0]) ∧ w'.cell? ⟨g, 0, none⟩ = some (.int .i64 200) ∧ w'.cell? ⟨g, 1, none⟩ = some (.int .i64 600) ∧ w'.cell? ⟨g, 2, none⟩ = some (.int .i64 70) ∧ Below w.heap.size w w'
theorem ex_call (b1 b2 : Nat) (w : World) (h1 : IntsS w (some ⟨b1, 0, none⟩) [600]) (h2 : SgnS w (some ⟨b2, 0, none⟩) [exS]) : Calls Tryz.prog 25 #[.agg #[.int .i64 1000, .slice (some ⟨b1, 0, none⟩) 1 1], .slice (some ⟨b2, 0, none⟩) 1 1, .int .i64 3, .int .i64 1, .int .i64 1] w (ExE w) := by
  refine (Held_good 1000 (some ⟨b1, 0, none⟩) [600] 1 (some ⟨b2, 0, none⟩) [exS] 1 3 1 1 ex_lst (by decide) (by decide) (by decide) w h1 h2).mono ?_
  rintro e w' ⟨row, b, c, hRL, rfl, hown, hb⟩
  rw [ex_held row hRL] at hown ⊢
  rcases hown.2 with ⟨h1, h2⟩ | ⟨g2, c2, cur, h1, _⟩
  · cases h2
  · obtain ⟨rfl, rfl⟩ : b = some ⟨g2, 0, none⟩ ∧ c = c2 := by simpa using h1
    exact ⟨g2, c, rfl, (World.ownsRow.cellAt hown 0 (by decide)).trans rfl, (World.ownsRow.cellAt hown 1 (by decide)).trans rfl, (World.ownsRow.cellAt hown 2 (by decide)).trans rfl, hb⟩
set_option maxRecDepth 100000 in
set_option maxHeartbeats 1000000 in
theorem first_any (w : World) : Calls Tryz.prog 7 #[] w fun e w' => e = .returned (.bool true) ∧ Below w.heap.size w w' := by
  go_enter Tryz.func7, Tryz.ntmps7
  go_wp2_with fail
  obtain ⟨wB, hwB⟩ : ∃ wB, ((w.alloc (.cells #[.int .i64 600] 3)).alloc (.cells #[.int .i64 1000, .slice (some ⟨w.heap.size, 0, none⟩) 1 1] 24)).alloc (.cells #[.int .i64 1, .int .i64 1, .int .i64 70, .int .i64 200, .int .i64 1, .int .i64 1, .int .i64 0, .int .i64 9, .slice none 0 0] 58) = wB := ⟨_, rfl⟩
  have hb : Below w.heap.size w wB := by rw [← hwB]; exact (((Below.refl _ _).alloc (Nat.le_refl _) _).alloc (by simp) _).alloc (by simp; omega) _
  have HI : Hid (IntsS wB (some ⟨w.heap.size, 0, none⟩) [600]) := Lib.hid (ex_ints (by rw [← hwB]; simp [go_sem]))
  have HS : Hid (SgnS wB (some ⟨w.heap.size + 1 + 1, 0, none⟩) [exS]) := Lib.hid (ex_sgn (by rw [← hwB]; have := heap_alloc_new ((w.alloc (.cells #[.int .i64 600] 3)).alloc (.cells #[.int .i64 1000, .slice (some ⟨w.heap.size, 0, none⟩) 1 1] 24)) (.cells #[.int .i64 1, .int .i64 1, .int .i64 70, .int .i64 200, .int .i64 1, .int .i64 1, .int .i64 0, .int .i64 9, .slice none 0 0] 58); simpa using this))
  rw [hwB]
  clear hwB
  refine (ex_call _ _ _ HI.out HS.out).mono ?_
  rintro e w1 ⟨g, c, rfl, c0, c1, c2, hb1⟩
  have hb := hb.trans (hb1.mono hb.size)
  clear hb1 HI HS
  go_wp2_with fail
  go_ret
  exact ⟨rfl, hb⟩
end Go.Proofs.YtjoffnbpaebgjaaGreat

namespace Go.Proofs.YtjoffnbpaebgjaaGreat
set_option linter.unusedVariables false
set_option linter.unusedSimpArgs false
open Go.RowKit

/-- Heavy says whether an ask is too large. -/
def HvyE (L : Int) (js : List Int) (l : List Sgn) (q : List Edc) (w : World) (e : Ending) (w' : World) : Prop :=
  ∃ b : Bool, (b = false → js.length ≤ 60 ∧ l.length ≤ 120 ∧ q.length ≤ 60 ∧ (lineB L js = true → L ≤ 500)) ∧ e = .returned (.bool b) ∧ Below w.heap.size w w'
set_option maxRecDepth 100000 in
set_option maxHeartbeats 2000000 in
theorem Heavy_any (L : Int) (a : Option Addr) (js : List Int) (ca : Nat) (aa : Option Addr) (l : List Sgn) (cl : Nat) (ae : Option Addr) (q : List Edc) (cq : Nat) (q0 q1 q2 q3 : Int) (w : World) (hI : IntsS w a js) (hA : SgnS w aa l) (hE : EdS w ae q) : Calls Tryz.prog 6 #[.agg #[.int .i64 L, .slice a js.length ca, .slice aa l.length cl, .slice ae q.length cq, .int .i64 q0, .int .i64 q1, .int .i64 q2, .int .i64 q3]] w (HvyE L js l q w) := by
  have HV := Lib.hid (fun W (hW : Below w.heap.size w W) => refValidLine_r L a js ca W (hI.below hW))
  obtain ⟨-, blk, off, ad, cp, hadr, hc⟩ := hA
  have HC : Hid (∀ i, i < l.length → w.cell? ⟨blk, off + i * 9 + 8, none⟩ = some (.slice (ad i) (gs l i).cv.length (cp i))) := Lib.hid fun i hi => (hc i hi).2.1
  have HL : Hid (0 < l.length → aa = some ⟨blk, off, none⟩) := Lib.hid fun h => hadr (List.ne_nil_of_length_pos h)
  have HCV : Hid (∀ i, i < l.length → (gs l i).cv.length ≤ 9223372036854775807) := Lib.hid fun i hi => (hc i hi).2.2.1
  have hq := hE.1
  have hj := hI.1
  clear hI hE hadr hc
  by_cases h1 : 60 < js.length
  · have h1i : (60 : Int) < (js.length : Int) := by omega
    clear HV HC HL
    go_enter Tryz.func6, Tryz.ntmps6
    go_wp2_with fail
    obtain ⟨wB, hwB⟩ : ∃ wB, w.alloc (.cells #[.int .i64 L, .slice a js.length ca, .slice aa l.length cl, .slice ae q.length cq, .int .i64 q0, .int .i64 q1, .int .i64 q2, .int .i64 q3] 28) = wB := ⟨_, rfl⟩
    have hb : Below w.heap.size w wB := by rw [← hwB]; exact (Below.refl _ _).alloc (Nat.le_refl _) _
    have p0 : wB.cell? ⟨w.heap.size, 0, none⟩ = some (.int .i64 L) := by rw [← hwB]; simp [go_sem]
    have p1 : wB.cell? ⟨w.heap.size, 1, none⟩ = some (.slice a js.length ca) := by rw [← hwB]; simp [go_sem]
    have p2 : wB.cell? ⟨w.heap.size, 2, none⟩ = some (.slice aa l.length cl) := by rw [← hwB]; simp [go_sem]
    have p3 : wB.cell? ⟨w.heap.size, 3, none⟩ = some (.slice ae q.length cq) := by rw [← hwB]; simp [go_sem]
    have p4 : wB.cell? ⟨w.heap.size, 4, none⟩ = some (.int .i64 q0) := by rw [← hwB]; simp [go_sem]
    have p5 : wB.cell? ⟨w.heap.size, 5, none⟩ = some (.int .i64 q1) := by rw [← hwB]; simp [go_sem]
    have p6 : wB.cell? ⟨w.heap.size, 6, none⟩ = some (.int .i64 q2) := by rw [← hwB]; simp [go_sem]
    have p7 : wB.cell? ⟨w.heap.size, 7, none⟩ = some (.int .i64 q3) := by rw [← hwB]; simp [go_sem]
    rw [hwB]
    clear hwB
    go_wp2_with fail
    go_ret
    exact ⟨true, (fun h => by cases h), rfl, hb⟩
  have h1i : ¬ (60 : Int) < (js.length : Int) := by omega
  by_cases h2 : 120 < l.length
  · have h2i : (120 : Int) < (l.length : Int) := by omega
    clear HV HC HL
    go_enter Tryz.func6, Tryz.ntmps6
    go_wp2_with fail
    obtain ⟨wB, hwB⟩ : ∃ wB, w.alloc (.cells #[.int .i64 L, .slice a js.length ca, .slice aa l.length cl, .slice ae q.length cq, .int .i64 q0, .int .i64 q1, .int .i64 q2, .int .i64 q3] 28) = wB := ⟨_, rfl⟩
    have hb : Below w.heap.size w wB := by rw [← hwB]; exact (Below.refl _ _).alloc (Nat.le_refl _) _
    have p0 : wB.cell? ⟨w.heap.size, 0, none⟩ = some (.int .i64 L) := by rw [← hwB]; simp [go_sem]
    have p1 : wB.cell? ⟨w.heap.size, 1, none⟩ = some (.slice a js.length ca) := by rw [← hwB]; simp [go_sem]
    have p2 : wB.cell? ⟨w.heap.size, 2, none⟩ = some (.slice aa l.length cl) := by rw [← hwB]; simp [go_sem]
    have p3 : wB.cell? ⟨w.heap.size, 3, none⟩ = some (.slice ae q.length cq) := by rw [← hwB]; simp [go_sem]
    have p4 : wB.cell? ⟨w.heap.size, 4, none⟩ = some (.int .i64 q0) := by rw [← hwB]; simp [go_sem]
    have p5 : wB.cell? ⟨w.heap.size, 5, none⟩ = some (.int .i64 q1) := by rw [← hwB]; simp [go_sem]
    have p6 : wB.cell? ⟨w.heap.size, 6, none⟩ = some (.int .i64 q2) := by rw [← hwB]; simp [go_sem]
    have p7 : wB.cell? ⟨w.heap.size, 7, none⟩ = some (.int .i64 q3) := by rw [← hwB]; simp [go_sem]
    rw [hwB]
    clear hwB
    go_wp2_with fail
    go_ret
    exact ⟨true, (fun h => by cases h), rfl, hb⟩
  have h2i : ¬ (120 : Int) < (l.length : Int) := by omega
  by_cases h3 : 60 < q.length
  · have h3i : (60 : Int) < (q.length : Int) := by omega
    clear HV HC HL
    go_enter Tryz.func6, Tryz.ntmps6
    go_wp2_with fail
    obtain ⟨wB, hwB⟩ : ∃ wB, w.alloc (.cells #[.int .i64 L, .slice a js.length ca, .slice aa l.length cl, .slice ae q.length cq, .int .i64 q0, .int .i64 q1, .int .i64 q2, .int .i64 q3] 28) = wB := ⟨_, rfl⟩
    have hb : Below w.heap.size w wB := by rw [← hwB]; exact (Below.refl _ _).alloc (Nat.le_refl _) _
    have p0 : wB.cell? ⟨w.heap.size, 0, none⟩ = some (.int .i64 L) := by rw [← hwB]; simp [go_sem]
    have p1 : wB.cell? ⟨w.heap.size, 1, none⟩ = some (.slice a js.length ca) := by rw [← hwB]; simp [go_sem]
    have p2 : wB.cell? ⟨w.heap.size, 2, none⟩ = some (.slice aa l.length cl) := by rw [← hwB]; simp [go_sem]
    have p3 : wB.cell? ⟨w.heap.size, 3, none⟩ = some (.slice ae q.length cq) := by rw [← hwB]; simp [go_sem]
    have p4 : wB.cell? ⟨w.heap.size, 4, none⟩ = some (.int .i64 q0) := by rw [← hwB]; simp [go_sem]
    have p5 : wB.cell? ⟨w.heap.size, 5, none⟩ = some (.int .i64 q1) := by rw [← hwB]; simp [go_sem]
    have p6 : wB.cell? ⟨w.heap.size, 6, none⟩ = some (.int .i64 q2) := by rw [← hwB]; simp [go_sem]
    have p7 : wB.cell? ⟨w.heap.size, 7, none⟩ = some (.int .i64 q3) := by rw [← hwB]; simp [go_sem]
    rw [hwB]
    clear hwB
    go_wp2_with fail
    go_ret
    exact ⟨true, (fun h => by cases h), rfl, hb⟩
  have h3i : ¬ (60 : Int) < (q.length : Int) := by omega
  cases h4 : lineB L js with
  | true =>
    rw [h4] at HV
    by_cases h5 : 500 < L
    · clear HC HL h4
      go_enter Tryz.func6, Tryz.ntmps6
      go_wp2_with fail
      obtain ⟨wB, hwB⟩ : ∃ wB, w.alloc (.cells #[.int .i64 L, .slice a js.length ca, .slice aa l.length cl, .slice ae q.length cq, .int .i64 q0, .int .i64 q1, .int .i64 q2, .int .i64 q3] 28) = wB := ⟨_, rfl⟩
      have hb : Below w.heap.size w wB := by rw [← hwB]; exact (Below.refl _ _).alloc (Nat.le_refl _) _
      have p0 : wB.cell? ⟨w.heap.size, 0, none⟩ = some (.int .i64 L) := by rw [← hwB]; simp [go_sem]
      have p1 : wB.cell? ⟨w.heap.size, 1, none⟩ = some (.slice a js.length ca) := by rw [← hwB]; simp [go_sem]
      have p2 : wB.cell? ⟨w.heap.size, 2, none⟩ = some (.slice aa l.length cl) := by rw [← hwB]; simp [go_sem]
      have p3 : wB.cell? ⟨w.heap.size, 3, none⟩ = some (.slice ae q.length cq) := by rw [← hwB]; simp [go_sem]
      have p4 : wB.cell? ⟨w.heap.size, 4, none⟩ = some (.int .i64 q0) := by rw [← hwB]; simp [go_sem]
      have p5 : wB.cell? ⟨w.heap.size, 5, none⟩ = some (.int .i64 q1) := by rw [← hwB]; simp [go_sem]
      have p6 : wB.cell? ⟨w.heap.size, 6, none⟩ = some (.int .i64 q2) := by rw [← hwB]; simp [go_sem]
      have p7 : wB.cell? ⟨w.heap.size, 7, none⟩ = some (.int .i64 q3) := by rw [← hwB]; simp [go_sem]
      rw [hwB]
      clear hwB
      go_wp2_with (go_at_call 24; refine (HV.out _ hb).mono ?_; rintro e w1 ⟨rfl, hb1⟩; have hbw := hb.trans (hb1.mono hb.size); replace p0 := cell_below p0 hb1; replace p1 := cell_below p1 hb1; replace p2 := cell_below p2 hb1; replace p3 := cell_below p3 hb1; replace p4 := cell_below p4 hb1; replace p5 := cell_below p5 hb1; replace p6 := cell_below p6 hb1; replace p7 := cell_below p7 hb1)
      go_ret
      exact ⟨true, (fun h => by cases h), rfl, hbw⟩
    · have HB : Hid (lineB L js = true → L ≤ 500) := Lib.hid (fun _ => by omega)
      clear h4
      go_enter Tryz.func6, Tryz.ntmps6
      go_wp2_with fail
      obtain ⟨wB, hwB⟩ : ∃ wB, w.alloc (.cells #[.int .i64 L, .slice a js.length ca, .slice aa l.length cl, .slice ae q.length cq, .int .i64 q0, .int .i64 q1, .int .i64 q2, .int .i64 q3] 28) = wB := ⟨_, rfl⟩
      have hb : Below w.heap.size w wB := by rw [← hwB]; exact (Below.refl _ _).alloc (Nat.le_refl _) _
      have p0 : wB.cell? ⟨w.heap.size, 0, none⟩ = some (.int .i64 L) := by rw [← hwB]; simp [go_sem]
      have p1 : wB.cell? ⟨w.heap.size, 1, none⟩ = some (.slice a js.length ca) := by rw [← hwB]; simp [go_sem]
      have p2 : wB.cell? ⟨w.heap.size, 2, none⟩ = some (.slice aa l.length cl) := by rw [← hwB]; simp [go_sem]
      have p3 : wB.cell? ⟨w.heap.size, 3, none⟩ = some (.slice ae q.length cq) := by rw [← hwB]; simp [go_sem]
      have p4 : wB.cell? ⟨w.heap.size, 4, none⟩ = some (.int .i64 q0) := by rw [← hwB]; simp [go_sem]
      have p5 : wB.cell? ⟨w.heap.size, 5, none⟩ = some (.int .i64 q1) := by rw [← hwB]; simp [go_sem]
      have p6 : wB.cell? ⟨w.heap.size, 6, none⟩ = some (.int .i64 q2) := by rw [← hwB]; simp [go_sem]
      have p7 : wB.cell? ⟨w.heap.size, 7, none⟩ = some (.int .i64 q3) := by rw [← hwB]; simp [go_sem]
      rw [hwB]
      clear hwB
      go_wp2_with (go_at_call 24; refine (HV.out _ hb).mono ?_; rintro e w1 ⟨rfl, hb1⟩; have hbw := hb.trans (hb1.mono hb.size); replace p0 := cell_below p0 hb1; replace p1 := cell_below p1 hb1; replace p2 := cell_below p2 hb1; replace p3 := cell_below p3 hb1; replace p4 := cell_below p4 hb1; replace p5 := cell_below p5 hb1; replace p6 := cell_below p6 hb1; replace p7 := cell_below p7 hb1)
      go_loopw [3] (fun i wr => ∃ k : Nat, k ≤ l.length ∧ i = .int .i64 k ∧ Below w1.heap.size w1 wr) (fun i _ => l.length - (intOf i).toNat)
      case atStart => exact ⟨0, Nat.zero_le _, rfl, Below.refl _ _⟩
      case round =>
        obtain ⟨k, hk, rfl, hbr⟩ := hrel
        have p2 := cell_below p2 hbr
        by_cases hlt : k < l.length
        · obtain rfl := HL.out (by omega)
          have hbo := hbw.trans (hbr.mono hbw.size)
          have c8 := cell_below (HC.out k hlt) hbo
          have hcv := HCV.out k hlt
          have hkl : (k : Int) < (l.length : Int) := by omega
          have hmeas : l.length - (k + 1) < l.length - k := by omega
          clear HC HL HCV
          generalize ad k = adk at *
          generalize cp k = cpk at *
          generalize (gs l k).cv.length = m at *
          by_cases hm : 20 < m
          · have hmi : (20 : Int) < (m : Int) := by omega
            go_wp2_with fail
            go_ret
            exact ⟨true, (fun h => by cases h), rfl, hbo⟩
          · have hmi : ¬ (20 : Int) < (m : Int) := by omega
            go_wp2_with fail
            go_roundw
            case rel => exact ⟨k + 1, by omega, by go_num, hbr⟩
            case measure => first | (simp [intOf]; exact hmeas) | simpa [intOf] using hmeas
        · obtain rfl : k = l.length := by omega
          go_wp2_with fail
          go_ret
          exact ⟨false, fun _ => ⟨by omega, by omega, by omega, HB.out⟩, rfl, hbw.trans (hbr.mono hbw.size)⟩
  | false =>
    rw [h4] at HV
    have HB : Hid (lineB L js = true → L ≤ 500) := Lib.hid (fun h => by rw [h4] at h; cases h)
    clear h4
    go_enter Tryz.func6, Tryz.ntmps6
    go_wp2_with fail
    obtain ⟨wB, hwB⟩ : ∃ wB, w.alloc (.cells #[.int .i64 L, .slice a js.length ca, .slice aa l.length cl, .slice ae q.length cq, .int .i64 q0, .int .i64 q1, .int .i64 q2, .int .i64 q3] 28) = wB := ⟨_, rfl⟩
    have hb : Below w.heap.size w wB := by rw [← hwB]; exact (Below.refl _ _).alloc (Nat.le_refl _) _
    have p0 : wB.cell? ⟨w.heap.size, 0, none⟩ = some (.int .i64 L) := by rw [← hwB]; simp [go_sem]
    have p1 : wB.cell? ⟨w.heap.size, 1, none⟩ = some (.slice a js.length ca) := by rw [← hwB]; simp [go_sem]
    have p2 : wB.cell? ⟨w.heap.size, 2, none⟩ = some (.slice aa l.length cl) := by rw [← hwB]; simp [go_sem]
    have p3 : wB.cell? ⟨w.heap.size, 3, none⟩ = some (.slice ae q.length cq) := by rw [← hwB]; simp [go_sem]
    have p4 : wB.cell? ⟨w.heap.size, 4, none⟩ = some (.int .i64 q0) := by rw [← hwB]; simp [go_sem]
    have p5 : wB.cell? ⟨w.heap.size, 5, none⟩ = some (.int .i64 q1) := by rw [← hwB]; simp [go_sem]
    have p6 : wB.cell? ⟨w.heap.size, 6, none⟩ = some (.int .i64 q2) := by rw [← hwB]; simp [go_sem]
    have p7 : wB.cell? ⟨w.heap.size, 7, none⟩ = some (.int .i64 q3) := by rw [← hwB]; simp [go_sem]
    rw [hwB]
    clear hwB
    go_wp2_with (go_at_call 24; refine (HV.out _ hb).mono ?_; rintro e w1 ⟨rfl, hb1⟩; have hbw := hb.trans (hb1.mono hb.size); replace p0 := cell_below p0 hb1; replace p1 := cell_below p1 hb1; replace p2 := cell_below p2 hb1; replace p3 := cell_below p3 hb1; replace p4 := cell_below p4 hb1; replace p5 := cell_below p5 hb1; replace p6 := cell_below p6 hb1; replace p7 := cell_below p7 hb1)
    go_loopw [3] (fun i wr => ∃ k : Nat, k ≤ l.length ∧ i = .int .i64 k ∧ Below w1.heap.size w1 wr) (fun i _ => l.length - (intOf i).toNat)
    case atStart => exact ⟨0, Nat.zero_le _, rfl, Below.refl _ _⟩
    case round =>
      obtain ⟨k, hk, rfl, hbr⟩ := hrel
      have p2 := cell_below p2 hbr
      by_cases hlt : k < l.length
      · obtain rfl := HL.out (by omega)
        have hbo := hbw.trans (hbr.mono hbw.size)
        have c8 := cell_below (HC.out k hlt) hbo
        have hcv := HCV.out k hlt
        have hkl : (k : Int) < (l.length : Int) := by omega
        have hmeas : l.length - (k + 1) < l.length - k := by omega
        clear HC HL HCV
        generalize ad k = adk at *
        generalize cp k = cpk at *
        generalize (gs l k).cv.length = m at *
        by_cases hm : 20 < m
        · have hmi : (20 : Int) < (m : Int) := by omega
          go_wp2_with fail
          go_ret
          exact ⟨true, (fun h => by cases h), rfl, hbo⟩
        · have hmi : ¬ (20 : Int) < (m : Int) := by omega
          go_wp2_with fail
          go_roundw
          case rel => exact ⟨k + 1, by omega, by go_num, hbr⟩
          case measure => first | (simp [intOf]; exact hmeas) | simpa [intOf] using hmeas
      · obtain rfl : k = l.length := by omega
        go_wp2_with fail
        go_ret
        exact ⟨false, fun _ => ⟨by omega, by omega, by omega, HB.out⟩, rfl, hbw.trans (hbr.mono hbw.size)⟩
end Go.Proofs.YtjoffnbpaebgjaaGreat

namespace Go.Proofs.YtjoffnbpaebgjaaGreat
set_option linter.unusedVariables false
set_option linter.unusedSimpArgs false
open Go.RowKit

theorem gi_at (l : List Int) {i : Nat} (h : i < l.length) : gi l i = l[i] := by unfold gi; simp [h]
theorem num_iff (ns : List Int) : numB ns = true ↔ (∀ x, x ∈ ns → 1 ≤ x ∧ x ≤ 1000000000) ∧ ns.Nodup := by
  have hp := srt_perm ns
  have hs : (srt ns).Pairwise (fun a b : Int => a ≤ b) := by
    have h := List.pairwise_mergeSort (le := fun a b : Int => decide (a ≤ b)) (by intro a b c h1 h2; simp at *; omega) (by intro a b; simp; omega) ns
    exact h.imp (fun h => by simpa using h)
  unfold numB
  generalize srt ns = S at *
  have hle : ∀ i j, i < j → j < S.length → gi S i ≤ gi S j := fun i j h1 h2 => by
    rw [gi_at S (by omega), gi_at S h2]
    exact List.pairwise_iff_getElem.1 hs i j (by omega) h2 h1
  constructor
  · intro h
    unfold ascB at h
    simp only [Bool.not_eq_true'] at h
    have hk : ∀ k, k < S.length → prvR S k < gi S k ∧ gi S k ≤ 1000000000 := fun k hk => by
      have h2 := (anyK_iff _).1 h k hk
      simp only [Bool.not_eq_false', nOk, Bool.and_eq_true, decide_eq_true_eq] at h2
      exact h2
    have hlt : ∀ j i, i < j → j < S.length → gi S i < gi S j := by
      intro j
      induction j with
      | zero => intro i h1; omega
      | succ j ih =>
        intro i h1 h2
        have h3 := (hk (j + 1) h2).1
        have h3 : gi S j < gi S (j + 1) := h3
        by_cases e : i = j
        · rw [e]; exact h3
        · have := ih i (by omega) (by omega); omega
    have h0 : ∀ k, k < S.length → 0 < gi S k := fun k hkl => by
      have h1 : 0 < gi S 0 := (hk 0 (by omega)).1
      by_cases e : k = 0
      · rw [e]; exact h1
      · have := hlt k 0 (by omega) hkl; omega
    refine ⟨fun x hx => ?_, ?_⟩
    · obtain ⟨k, hkl, e⟩ := List.getElem_of_mem (hp.mem_iff.2 hx)
      have h1 := h0 k hkl
      have h2 := (hk k hkl).2
      rw [gi_at S hkl, e] at h1 h2
      omega
    · refine hp.nodup_iff.1 (List.pairwise_iff_getElem.2 fun i j hi hj hij => ?_)
      have := hlt j i hij hj
      rw [gi_at S hi, gi_at S hj] at this
      omega
  · rintro ⟨h1, h2⟩
    have h2 := hp.nodup_iff.2 h2
    have hm : ∀ k, k < S.length → 1 ≤ gi S k ∧ gi S k ≤ 1000000000 := fun k hk => by
      rw [gi_at S hk]
      exact h1 _ (hp.mem_iff.1 (List.getElem_mem hk))
    refine asc_end fun k hk => ?_
    simp only [nOk, Bool.and_eq_true, decide_eq_true_eq]
    refine ⟨?_, (hm k hk).2⟩
    rcases k with _ | k
    · have := hm 0 hk; show (0 : Int) < _; omega
    · show gi S k < gi S (k + 1)
      have h3 := hle k (k + 1) (by omega) hk
      have h4 := List.pairwise_iff_getElem.1 h2 k (k + 1) (by omega) hk (by omega)
      rw [← gi_at S (by omega), ← gi_at S hk] at h4
      omega
/-- Is number k right, and is it none of those ahead of it? -/
def rNum (ns : List Int) (k : Nat) : Bool := btw (gi ns k) 1 1000000000 && !(anyK (fun j => gi ns j == gi ns k) k)
theorem num_end {ns : List Int} (h : ∀ k, k < ns.length → rNum ns k = true) : numB ns = true := by
  have h3 : ∀ k, k < ns.length → (1 ≤ gi ns k ∧ gi ns k ≤ 1000000000) ∧ ∀ j, j < k → gi ns j ≠ gi ns k := fun k hk => by
    have h2 := h k hk
    simp only [rNum, Bool.and_eq_true, Bool.not_eq_true'] at h2
    exact ⟨(btw_iff _ _ _).1 h2.1, fun j hj e => by have := (anyK_iff _).1 h2.2 j hj; simp [e] at this⟩
  refine (num_iff ns).2 ⟨fun x hx => ?_, List.pairwise_iff_getElem.2 fun i j hi hj hij => ?_⟩
  · obtain ⟨k, hk, e⟩ := List.getElem_of_mem hx
    have := (h3 k hk).1
    rw [gi_at ns hk, e] at this
    exact this
  · have := (h3 j hj).2 i hij
    rw [gi_at ns hi, gi_at ns hj] at this
    exact this
theorem num_bad1 {ns : List Int} {k : Nat} (hk : k < ns.length) (h : btw (gi ns k) 1 1000000000 = false) : numB ns = false := by
  cases e : numB ns with
  | false => rfl
  | true =>
    have := ((num_iff ns).1 e).1 _ (List.getElem_mem hk)
    rw [← gi_at ns hk, ← btw_iff, h] at this
    cases this
theorem num_bad2 {ns : List Int} {j k : Nat} (hk : k < ns.length) (hj : j < k) (h : gi ns j = gi ns k) : numB ns = false := by
  cases e : numB ns with
  | false => rfl
  | true =>
    have := List.pairwise_iff_getElem.1 ((num_iff ns).1 e).2 j k (by omega) hk hj
    rw [← gi_at ns (by omega), ← gi_at ns hk] at this
    exact absurd h this
theorem s_num (l : List Sgn) {k : Nat} (h : k < l.length) : gi (nosK l l.length) k = (gs l k).n := by
  unfold nosK gi gs; simp [h]
theorem s_bad0 {Ln : Int} {js : List Int} {l : List Sgn} (h : lineB Ln js = false) : sgnsB Ln js l = false := by unfold sgnsB; rw [h]; rfl
theorem s_bad9 {Ln : Int} {js : List Int} {l : List Sgn} (h : 100 < l.length) : sgnsB Ln js l = false := by unfold sgnsB; rw [decide_eq_false (by omega), Bool.and_false]; rfl
theorem s_bad1 {Ln : Int} {js : List Int} {l : List Sgn} {k : Nat} (hk : k < l.length) (h : btw (gs l k).n 1 1000000000 = false) : sgnsB Ln js l = false := by
  unfold sgnsB; rw [num_bad1 (k := k) (by rw [nosK_len l (Nat.le_refl _)]; exact hk) (by rw [s_num l hk]; exact h), Bool.and_false]
theorem s_bad2 {Ln : Int} {js : List Int} {l : List Sgn} {k : Nat} (hk : k < l.length) (h : sgnB Ln (gs l k) = false) : sgnsB Ln js l = false := by
  unfold sgnsB allB; rw [anyK_true (j := k) (by simp [h]) _ hk]; simp
theorem s_bad3 {Ln : Int} {js : List Int} {l : List Sgn} {j k : Nat} (hk : k < l.length) (hj : j < k) (h : (gs l j).n = (gs l k).n) : sgnsB Ln js l = false := by
  unfold sgnsB; rw [num_bad2 (k := k) (j := j) (by rw [nosK_len l (Nat.le_refl _)]; exact hk) hj (by rw [s_num l hk, s_num l (by omega)]; exact h), Bool.and_false]
/-- One of them is right, and its number is none of those ahead. -/
def sRt (Ln : Int) (l : List Sgn) (k : Nat) : Prop := btw (gs l k).n 1 1000000000 = true ∧ sgnB Ln (gs l k) = true ∧ ∀ j, j < k → (gs l j).n ≠ (gs l k).n
theorem s_end {Ln : Int} {js : List Int} {l : List Sgn} (h0 : lineB Ln js = true) (h9 : l.length ≤ 100) (h : ∀ k, k < l.length → sRt Ln l k) : sgnsB Ln js l = true := by
  have hn : numB (nosK l l.length) = true := num_end fun k hk => by
    rw [nosK_len l (Nat.le_refl _)] at hk
    obtain ⟨a, b, c⟩ := h k hk
    unfold rNum
    rw [s_num l hk, a, Bool.true_and, Bool.not_eq_true', anyK_iff]
    intro j hj
    rw [s_num l (by omega)]
    exact beq_false_of_ne (c j hj)
  have ha : allB Ln l = true := by
    unfold allB
    rw [Bool.not_eq_true', anyK_iff]
    intro j hj
    rw [(h j hj).2.1]; rfl
  unfold sgnsB
  rw [h0, hn, ha, decide_eq_true h9]; rfl
theorem e_num (l : List Edc) {k : Nat} (h : k < l.length) : gi (nosE l l.length) k = (ge l k).n := by
  unfold nosE gi ge; simp [h]
theorem e_bad0 {Ln : Int} {js : List Int} {l : List Edc} (h : lineB Ln js = false) : edcsB Ln js l = false := by unfold edcsB; rw [h]; rfl
theorem e_bad9 {Ln : Int} {js : List Int} {l : List Edc} (h : 50 < l.length) : edcsB Ln js l = false := by unfold edcsB; rw [decide_eq_false (by omega), Bool.and_false]; rfl
theorem e_bad1 {Ln : Int} {js : List Int} {l : List Edc} {k : Nat} (hk : k < l.length) (h : btw (ge l k).n 1 1000000000 = false) : edcsB Ln js l = false := by
  unfold edcsB; rw [num_bad1 (k := k) (by rw [nosE_len l (Nat.le_refl _)]; exact hk) (by rw [e_num l hk]; exact h), Bool.and_false]
theorem e_bad2 {Ln : Int} {js : List Int} {l : List Edc} {k : Nat} (hk : k < l.length) (h : edcB Ln (ge l k) = false) : edcsB Ln js l = false := by
  unfold edcsB allE; rw [anyK_true (j := k) (by simp [h]) _ hk]; simp
theorem e_bad3 {Ln : Int} {js : List Int} {l : List Edc} {j k : Nat} (hk : k < l.length) (hj : j < k) (h : (ge l j).n = (ge l k).n) : edcsB Ln js l = false := by
  unfold edcsB; rw [num_bad2 (k := k) (j := j) (by rw [nosE_len l (Nat.le_refl _)]; exact hk) hj (by rw [e_num l hk, e_num l (by omega)]; exact h), Bool.and_false]
/-- One of them is right, and its number is none of those ahead. -/
def eRt (Ln : Int) (l : List Edc) (k : Nat) : Prop := btw (ge l k).n 1 1000000000 = true ∧ edcB Ln (ge l k) = true ∧ ∀ j, j < k → (ge l j).n ≠ (ge l k).n
theorem e_end {Ln : Int} {js : List Int} {l : List Edc} (h0 : lineB Ln js = true) (h9 : l.length ≤ 50) (h : ∀ k, k < l.length → eRt Ln l k) : edcsB Ln js l = true := by
  have hn : numB (nosE l l.length) = true := num_end fun k hk => by
    rw [nosE_len l (Nat.le_refl _)] at hk
    obtain ⟨a, b, c⟩ := h k hk
    unfold rNum
    rw [e_num l hk, a, Bool.true_and, Bool.not_eq_true', anyK_iff]
    intro j hj
    rw [e_num l (by omega)]
    exact beq_false_of_ne (c j hj)
  have ha : allE Ln l = true := by
    unfold allE
    rw [Bool.not_eq_true', anyK_iff]
    intro j hj
    rw [(h j hj).2.1]; rfl
  unfold edcsB
  rw [h0, hn, ha, decide_eq_true h9]; rfl
end Go.Proofs.YtjoffnbpaebgjaaGreat
