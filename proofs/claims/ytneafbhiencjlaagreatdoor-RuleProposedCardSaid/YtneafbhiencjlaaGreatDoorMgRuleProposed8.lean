/-
  Held of package rule at good arguments. By an AI agent.; Row of both, as the laws ask it. By an AI agent.; The reference's Holding. By an AI agent.; The reference's Holding. By an AI agent.; isMetre, Holds and Must of both. By an AI agent.
-/
import Derived.Test.YtneafbhiencjlaaGreatDoorMgRuleProposed3
import Derived.Test.YtneafbhiencjlaaGreatDoorMgRuleProposed4
import Derived.Test.YtneafbhiencjlaaGreatDoorMgRuleProposed6
import Derived.Test.YtneafbhiencjlaaGreatDoorMgRuleProposed7
import Derived.Deep.RegionHeld3
import Derived.BigQuiet
import Derived.BigRegion
import Derived.Deep.DeepCutAuto

namespace Go.Proofs.YtneafbhiencjlaaGreatDoor
set_option linter.unusedVariables false
set_option linter.unusedSimpArgs false
open Go.RowKit

/-- What a line with signs holds along its way. -/
def hldM (L dir tp : Int) (row : List Pst) : List Tri := heldL (prtK (ascL (cutsK L dir row row.length)) (fun m => hldL tp (begK L dir m) row 0) (ascL (cutsK L dir row row.length)).length)
/-- Held returns. -/
def HeldE (L : Int) (js : List Int) (dir tp h : Int) (l : List Sgn) (w : World) (e : Ending) (w' : World) : Prop :=
  ∃ (row : List Pst) (b : Option Addr) (c : Nat), RowL L js dir h l row ∧ e = .returned (.tuple #[.slice b (hldM L dir tp row).length c, .int .i64 0]) ∧ w'.ownsRow w.heap.size 56 3 (.slice b (hldM L dir tp row).length c) (hldM L dir tp row).length (cl3 (hldM L dir tp row)) ∧ Below w.heap.size w w'
theorem btw_ge {n a b : Int} (h : btw n a b = true) : a ≤ n ∧ n ≤ b := by simpa [btw] using h
theorem val_bd {k v : Int} (h : valB k v = true) : 0 ≤ v ∧ v ≤ 100000 := by
  unfold valB at h
  split at h
  · have := btw_ge h; omega
  · split at h
    · have := eq_of_beq h; omega
    · split at h
      · have := btw_ge h; omega
      · split at h
        · have := btw_ge h; omega
        · cases h
/-- What good lists say of their numbers. -/
theorem lst_good {L : Int} {js : List Int} {l : List Sgn} {q : List Edc} (h : lstE L js l q = 0) : (0 ≤ L ∧ L ≤ 100000) ∧ (∀ j, j < js.length → 0 ≤ gi js j ∧ gi js j ≤ 100000) ∧ (∀ j, j < l.length → (0 ≤ (gs l j).c ∧ (gs l j).c ≤ 100000) ∧ 0 ≤ (gs l j).v ∧ (gs l j).v ≤ 100000) ∧ l.length ≤ 1000 := by
  unfold lstE at h
  split at h
  · cases h
  next h1 =>
  split at h
  · cases h
  next h2 =>
  have h1 : lineB L js = true := by simpa using h1
  have h2 : sgnsB L js l = true := by simpa using h2
  have g := h1
  unfold lineB at g
  simp only [Bool.and_eq_true, decide_eq_true_eq, Bool.not_eq_true'] at g
  have hL := btw_ge g.1.1
  have hJ := (anyK_iff _).1 g.2
  have hj : ∀ j, j < js.length → jOk L js j = true := fun j hj => by simpa using hJ j hj
  unfold sgnsB at h2
  simp only [Bool.and_eq_true, decide_eq_true_eq] at h2
  have hA := h2.1.2
  unfold allB at hA
  simp only [Bool.not_eq_true'] at hA
  have hS := (anyK_iff _).1 hA
  refine ⟨by omega, fun j hjl => ?_, fun j hjl => ?_, by omega⟩
  · have h0 := jOk_pos j (fun i hi => hj i (by omega))
    have h3 := hj j hjl
    unfold jOk at h3
    simp only [Bool.and_eq_true, decide_eq_true_eq] at h3
    omega
  · have h3 : sgnB L (gs l j) = true := by simpa using hS j hjl
    unfold sgnB at h3
    simp only [Bool.and_eq_true, decide_eq_true_eq] at h3
    have hc := btw_ge h3.1.1.1.1.1.2
    have hv := val_bd h3.1.1.1.1.1.1
    omega
theorem cuts_ne (L dir : Int) (row : List Pst) (k : Nat) : cutsK L dir row k ≠ [] := fun e => by
  have := cutsK_len L dir row k
  rw [e] at this
  simp at this
  omega
theorem ed_nil (w : World) : EdS w none [] := ⟨by decide, 0, 0, fun h => (h rfl).elim, fun i hi => absurd hi (Nat.not_lt_zero i)⟩
set_option maxRecDepth 100000 in
set_option maxHeartbeats 1000000 in
theorem Held_good (L : Int) (a : Option Addr) (js : List Int) (ca : Nat) (aa : Option Addr) (l : List Sgn) (cl : Nat) (h dir tp : Int) (hV : lstE L js l [] = 0) (hh : btw h 0 10000000 = true) (hd : dirB dir = true) (ht : topB tp = true) (w : World) (hI : IntsS w a js) (hA : SgnS w aa l) :
    Calls Tryz.prog 23 #[.agg #[.int .i64 L, .slice a js.length ca], .slice aa l.length cl, .int .i64 h, .int .i64 dir, .int .i64 tp] w (HeldE L js dir tp h l w) := by
  obtain ⟨⟨hL1, hL2⟩, hJ, hC, hn⟩ := lst_good hV
  have H1 := Lib.hid (fun W (hW : Below w.heap.size w W) => by
    have := listsError_r L a js ca aa l cl none [] 0 W (hI.below hW) (hA.below hW) (ed_nil W)
    rw [hV] at this
    exact this)
  have H2 := Lib.hid (fun W => hh ▸ isHour_r h W)
  have H3 := Lib.hid (fun W => hd ▸ isDir_r dir W)
  have H4 := Lib.hid (fun W => ht ▸ isTopic_r tp W)
  have H5 := Lib.hid (fun W (hW : Below w.heap.size w W) => told_r L a js ca aa l cl h dir tp hL1 hL2 hJ hC hn W (hI.below hW) (hA.below hW))
  have HF := Lib.hid (And.intro (And.intro hL1 hL2) hn)
  clear hI hA hV hh hd ht hJ hC hL1 hL2 hn
  go_enter Tryz.func23, Tryz.ntmps23
  go_wp2_with fail
  obtain ⟨wB, hwB⟩ : ∃ wB, w.alloc (.cells #[.int .i64 L, .slice a js.length ca] 24) = wB := ⟨_, rfl⟩
  have hb : Below w.heap.size w wB := by rw [← hwB]; exact (Below.refl _ _).alloc (Nat.le_refl _) _
  have l0 : wB.cell? ⟨w.heap.size, 0, none⟩ = some (.int .i64 L) := by rw [← hwB]; simp [go_sem]
  have l1 : wB.cell? ⟨w.heap.size, 1, none⟩ = some (.slice a js.length ca) := by rw [← hwB]; simp [go_sem]
  rw [hwB]
  clear hwB
  go_wp2_with (first | (go_at_call 24; refine (H1.out _ hb).mono ?_; rintro e w1 ⟨rfl, hb1⟩; have hbw := hb.trans (hb1.mono hb.size); replace l0 := cell_below l0 hb1; replace l1 := cell_below l1 hb1) | (go_at_call 25; refine (H2.out _).mono ?_; rintro e w2 ⟨rfl, rfl⟩) | (go_at_call 55; refine (H3.out _).mono ?_; rintro e w2 ⟨rfl, rfl⟩) | (go_at_call 56; refine (H4.out _).mono ?_; rintro e w2 ⟨rfl, rfl⟩) | (go_at_call 31; refine (H5.out _ hbw).mono ?_; rintro e w2 ⟨row, ar, cr, rb, wb, lb, aq, cq, hRL, hrl, hP, g1, g2, g3, g4, g5, rfl, hAq, hm, hb2⟩; have hbz := hbw.trans (hb2.mono hbw.size); have HG := Lib.hid (And.intro hRL hbz)) | (go_at_call 57; refine (heldT_r aq (cutsK L dir row row.length) cq #[.pointer (some ⟨rb, 0, none⟩), .pointer (some ⟨wb, 0, none⟩), .pointer (some ⟨lb, 0, none⟩)] (fun m => hldL tp (begK L dir m) row 0) w2 hAq (cuts_ne L dir row row.length) (by have := HF.out; rw [cutsK_len]; omega) (fun m W hm2 hW => told1_r L a js ca dir tp m row ar cr rb wb lb HF.out.1.1 HF.out.1.2 (hm m hm2).1 (hm m hm2).2 W (hP.below hW) (cell_below g1 hW) (cell_below g2 hW) (cell_below g3 hW) (cell_below g4 hW) (cell_below g5 hW))).mono ?_; rintro e w3 ⟨bb, cc, rfl, hown, hb3⟩; clear g1 g2 g3 g4 g5; have HOW := Lib.hid hown; clear hown))
  go_ret2
  exact ⟨row, bb, cc, HG.out.1, rfl, owns_baseI HOW.out HG.out.2.size, HG.out.2.trans (hb3.mono HG.out.2.size)⟩
end Go.Proofs.YtneafbhiencjlaaGreatDoor

namespace Go.Proofs.YtneafbhiencjlaaGreatDoor
set_option linter.unusedVariables false
set_option linter.unusedSimpArgs false
open Go.RowKit

theorem nil_nums : numB [] = true := by
  have e3 : srt ([] : List Int) = [] := by simp [srt]
  unfold numB
  rw [e3]
  decide
theorem edcs_nil (L : Int) (js : List Int) : edcsB L js [] = lineB L js := by
  have e2 : nosE [] ([] : List Edc).length = [] := rfl
  unfold edcsB
  rw [e2, nil_nums]
  cases lineB L js <;> rfl
theorem sgns_nil (L : Int) (js : List Int) : sgnsB L js [] = lineB L js := by
  have e2 : nosK [] ([] : List Sgn).length = [] := rfl
  unfold sgnsB
  rw [e2, nil_nums]
  cases lineB L js <;> rfl
theorem sgns_line {L : Int} {js : List Int} {l : List Sgn} (h : sgnsB L js l = true) : lineB L js = true := by
  unfold sgnsB at h
  simp only [Bool.and_eq_true] at h
  exact h.1.1.1
theorem edcs_line {L : Int} {js : List Int} {l : List Edc} (h : edcsB L js l = true) : lineB L js = true := by
  unfold edcsB at h
  simp only [Bool.and_eq_true] at h
  exact h.1.1.1
/-- The numbers of good signs. -/
theorem sgn_nums {L : Int} {js : List Int} {l : List Sgn} (h : sgnsB L js l = true) : (∀ k, k < l.length → 1 ≤ (gs l k).n ∧ (gs l k).n ≤ 1000000000) ∧ ∀ i j, i < j → j < l.length → (gs l i).n ≠ (gs l j).n := by
  unfold sgnsB at h
  simp only [Bool.and_eq_true] at h
  obtain ⟨h1, h2⟩ := (num_iff _).1 h.2
  have hl : (nosK l l.length).length = l.length := by exact nosK_len _ (Nat.le_refl _)
  refine ⟨fun k hk => ?_, fun i j hij hj e => ?_⟩
  · rw [← s_num l hk]
    refine h1 _ ?_
    rw [gi_at _ (by omega)]
    exact List.getElem_mem _
  · rw [← s_num l (by omega), ← s_num l hj, gi_at _ (by omega), gi_at _ (by omega)] at e
    exact (List.pairwise_iff_getElem.1 h2) i j (by omega) (by omega) hij e
theorem lst_sgns {L : Int} {js : List Int} {l : List Sgn} {q : List Edc} (h : lstE L js l q = 0) : sgnsB L js l = true := by
  unfold lstE at h
  split at h
  · cases h
  split at h
  · cases h
  next h2 => simpa using h2
theorem lst_edcs {L : Int} {js : List Int} {l : List Sgn} {q : List Edc} (h : lstE L js l q = 0) : edcsB L js q = true := by
  unfold lstE at h
  split at h
  · cases h
  split at h
  · cases h
  split at h
  · cases h
  next h2 => simpa using h2
/-- The numbers of a row. -/
def numsR (L dir h : Int) (l : List Sgn) : List Int := (insR L dir h l l.length).map (·.n)
/-- Row answers: the numbers, or an error and none. -/
def RwA (X : List Int) (E : Int) (w : World) (e : Ending) (w' : World) : Prop := ∃ b c, e = .returned (.tuple #[.slice b X.length c, .int .i64 E]) ∧ IntsS w' b X ∧ Below w.heap.size w w'
/-- The reference's row. -/
def RrZ (L dir h : Int) (l : List Sgn) (w : World) (e : Ending) (w' : World) : Prop := ∃ b c, e = .returned (.slice b (numsR L dir h l).length c) ∧ SgnS w' b (insR L dir h l l.length) ∧ Below w.heap.size w w'
/-- A row with its numbers. -/
def RrQ (X : List Int) (R : List Sgn) (w : World) (e : Ending) (w' : World) : Prop := ∃ b c, e = .returned (.slice b X.length c) ∧ SgnS w' b R ∧ Below w.heap.size w w'
end Go.Proofs.YtneafbhiencjlaaGreatDoor

namespace Go.Proofs.YtneafbhiencjlaaGreatDoor
set_option linter.unusedVariables false
set_option linter.unusedSimpArgs false
open Go.RowKit

/-- The value of a start of a topic, or 0. -/
def strR (k v t : Int) : Int := if t = 1 ∧ k = 1 then v else if t = 2 ∧ k = 3 then 1 else 0
/-- Is a sign of account at a distance? -/
def relB (L dir t k : Int) (R : List Sgn) (i : Nat) : Bool := decide (dstK L dir (gs R i).c ≤ k) && (decide (0 < strR (gs R i).k (gs R i).v t) || endB (gs R i).k t)
/-- The last of n for which p holds, or -1. -/
def lstX (p : Nat → Bool) : Nat → Int
  | 0 => -1
  | i + 1 => if p i = true then (i : Int) else lstX p i
/-- Is the sign behind number i its plate? -/
def plB (R : List Sgn) (i : Nat) : Bool := decide (i + 1 < R.length) && (((gs R (i + 1)).k == 7) && ((gs R (i + 1)).c == (gs R i).c))
theorem dst_eq (L dir a b : Int) : (dstK L dir a == dstK L dir b) = (a == b) := by
  unfold dstK
  rw [Bool.eq_iff_iff, beq_iff_eq, beq_iff_eq]
  split <;> omega
set_option maxRecDepth 100000 in
set_option maxHeartbeats 1000000 in
theorem refBeginning_r (L : Int) (a : Option Addr) (n ca : Nat) (dir c : Int) (hL1 : 0 ≤ L) (hL2 : L ≤ 100000) (hc1 : -1000000 ≤ c) (hc2 : c ≤ 1000000) (w : World) :
    Calls Tryz.prog 29 #[.agg #[.int .i64 L, .slice a n ca], .int .i64 dir, .int .i64 c] w fun e w' => e = .returned (.int .i64 (begK L dir c)) ∧ Below w.heap.size w w' := by
  by_cases h1 : dir = 1
  · subst h1
    have hr : Hid (begK L 1 c = c) := Lib.hid (by unfold begK; simp)
    go_enter Tryz.func29, Tryz.ntmps29
    go_wp2_with fail
    go_ret
    exact ⟨by rw [hr.out]; rfl, (Below.refl _ _).alloc (Nat.le_refl _) _⟩
  · have hr : Hid (begK L dir c = L - 1 - c) := Lib.hid (by unfold begK; simp [h1])
    go_enter Tryz.func29, Tryz.ntmps29
    go_wp2_with fail
    go_ret
    exact ⟨by rw [hr.out]; rfl, (Below.refl _ _).alloc (Nat.le_refl _) _⟩
end Go.Proofs.YtneafbhiencjlaaGreatDoor

namespace Go.Proofs.YtneafbhiencjlaaGreatDoor
set_option linter.unusedVariables false
set_option linter.unusedSimpArgs false
open Go.RowKit

end Go.Proofs.YtneafbhiencjlaaGreatDoor

namespace Go.Proofs.YtneafbhiencjlaaGreatDoor
set_option linter.unusedVariables false
set_option linter.unusedSimpArgs false
open Go.RowKit

theorem sg_nil (w : World) : SgnS w none [] := ⟨by decide, 0, 0, fun _ => none, fun _ => 0, fun h => (h rfl).elim, fun i hi => absurd hi (Nat.not_lt_zero i)⟩
/-- What holds on a metre. -/
def hldV (L : Int) (js : List Int) (l : List Sgn) (h dir t m : Int) : Int := hS L js dir t (begK L dir m) (insR L dir h l l.length) 0
/-- Is an edict for a metre? -/
def edB (x : Edc) (h t d m : Int) : Bool := (x.tp == t) && ((x.d == d) && (decide (x.fr ≤ m) && (decide (m < x.tt) && (decide (x.st ≤ h) && decide (h < x.en)))))
/-- The greatest number of the first k edicts for a metre, and its value. -/
def mustK (q : List Edc) (h t d m : Int) : Nat → Int × Int
  | 0 => (0, 0)
  | k + 1 => if (edB (ge q k) h t d m && decide ((mustK q h t d m k).1 < (ge q k).n)) = true then ((ge q k).n, (ge q k).v) else mustK q h t d m k
def mustV (q : List Edc) (h t d m : Int) : Int := (mustK q h t d m q.length).2
set_option maxRecDepth 100000 in
set_option maxHeartbeats 4000000 in
theorem mustAt_r (ae : Option Addr) (q : List Edc) (cq : Nat) (h t d m : Int) (w : World) (hE : EdS w ae q) :
    Calls Tryz.prog 69 #[.slice ae q.length cq, .int .i64 h, .agg #[.int .i64 t, .int .i64 d], .int .i64 m] w fun e w' => e = .returned (.int .i64 (mustV q h t d m)) ∧ Below w.heap.size w w' := by
  obtain ⟨hlen, blk, off, hadr, hc⟩ := hE
  have HC := Lib.hid hc
  have HL : Hid (0 < q.length → ae = some ⟨blk, off, none⟩) := Lib.hid fun h => hadr (List.ne_nil_of_length_pos h)
  clear hc hadr
  go_enter Tryz.func69, Tryz.ntmps69
  go_wp2_with fail
  obtain ⟨wB, hwB⟩ : ∃ wB, w.alloc (.cells #[.int .i64 t, .int .i64 d] 59) = wB := ⟨_, rfl⟩
  have hb : Below w.heap.size w wB := by rw [← hwB]; exact (Below.refl _ _).alloc (Nat.le_refl _) _
  have p0 : wB.cell? ⟨w.heap.size, 0, none⟩ = some (.int .i64 t) := by rw [← hwB]; simp [go_sem]
  have p1 : wB.cell? ⟨w.heap.size, 1, none⟩ = some (.int .i64 d) := by rw [← hwB]; simp [go_sem]
  rw [hwB]
  clear hwB
  have P0 := Lib.hid p0
  have P1 := Lib.hid p1
  have HB := Lib.hid hb
  clear p0 p1 hb
  go_wp2_with fail
  go_loopw [9, 10, 15] (fun g9 v9 i9 wr => ∃ k : Nat, k ≤ q.length ∧ i9 = .int .i64 k ∧ g9 = .int .i64 (mustK q h t d m k).1 ∧ v9 = .int .i64 (mustK q h t d m k).2 ∧ Below wB.heap.size wB wr) (fun _ _ i9 _ => q.length - (intOf i9).toNat)
  case atStart => exact ⟨0, Nat.zero_le _, rfl, rfl, rfl, Below.refl _ _⟩
  case round =>
    obtain ⟨k, hk, rfl, rfl, rfl, hbr⟩ := hrel
    have hbw := HB.out.trans (hbr.mono HB.out.size)
    have p0 := cell_below P0.out hbr
    have p1 := cell_below P1.out hbr
    have hzp := block_lt p0
    by_cases hlt : k < q.length
    · obtain rfl := HL.out (by omega)
      obtain ⟨c0, c1, c2, c3, c4, c5, c6, c7⟩ := HC.out k hlt
      have c0 := cell_below c0 hbw
      have c1 := cell_below c1 hbw
      have c2 := cell_below c2 hbw
      have c3 := cell_below c3 hbw
      have c4 := cell_below c4 hbw
      have c5 := cell_below c5 hbw
      have c6 := cell_below c6 hbw
      have c7 := cell_below c7 hbw
      have g1 : (k : Int) < (q.length : Int) := by omega
      have HK : Hid (mustK q h t d m (k + 1) = if (edB (ge q k) h t d m && decide ((mustK q h t d m k).1 < (ge q k).n)) = true then ((ge q k).n, (ge q k).v) else mustK q h t d m k) := Lib.hid rfl
      have HM : Hid (∃ y, mustK q h t d m (k + 1) = y) := Lib.hid ⟨_, rfl⟩
      obtain ⟨y, hy⟩ := HM.out
      have HY := Lib.hid hy
      rw [hy] at HK
      obtain ⟨g, v, hgv⟩ : ∃ g v, mustK q h t d m k = (g, v) := ⟨_, _, rfl⟩
      rw [hgv] at HK ⊢
      clear hy hgv HM HC HL
      obtain ⟨x, hx⟩ : ∃ x, ge q k = x := ⟨_, rfl⟩
      rw [hx] at HK c0 c1 c2 c3 c4 c5 c6 c7
      clear hx
      show Code.wp _ _ _ _ _
      by_cases e0 : x.tp = t
      · have b0 : (x.tp == t) = true := by rw [e0]; simp
        clear e0
        by_cases e1 : x.d = d
        · have b1 : (x.d == d) = true := by rw [e1]; simp
          clear e1
          by_cases e2 : x.fr ≤ m
          · have b2 : decide (x.fr ≤ m) = true := decide_eq_true e2
            clear e2
            by_cases e3 : m < x.tt
            · have b3 : decide (m < x.tt) = true := decide_eq_true e3
              clear e3
              by_cases e4 : x.st ≤ h
              · have b4 : decide (x.st ≤ h) = true := decide_eq_true e4
                clear e4
                by_cases e5 : h < x.en
                · have b5 : decide (h < x.en) = true := decide_eq_true e5
                  clear e5
                  by_cases e6 : g < x.n
                  · have b6 : decide (g < x.n) = true := decide_eq_true e6
                    clear e6
                    have hv : y = (x.n, x.v) := by rw [HK.out]; simp only [edB, b0, b1, b2, b3, b4, b5, b6]; rfl
                    have HV := Lib.hid hv
                    clear hv HK
                    obtain ⟨wq, hwq⟩ : ∃ wq, wr.alloc (.cells #[.int .i64 x.n, .int .i64 x.tp, .int .i64 x.v, .int .i64 x.d, .int .i64 x.fr, .int .i64 x.tt, .int .i64 x.st, .int .i64 x.en] 104) = wq := ⟨_, rfl⟩
                    have q1 : ∀ c T o b, b < wr.heap.size → (wr.alloc (.cells c T)).cell? ⟨b, o, none⟩ = wr.cell? ⟨b, o, none⟩ := fun c T o b hb => (Below.alloc (Below.refl _ wr) (Nat.le_refl _) _).cell (p := ⟨b, o, none⟩) hb
                    clear hwq wq
                    go_wp2_with fail
                    go_quiet (fail)
                    go_wp2_with fail
                    go_roundw
                    case rel => exact ⟨k + 1, by omega, by go_num, by rw [HY.out, HV.out], by rw [HY.out, HV.out], below_drewN (hbr.alloc hbr.size _) _⟩
                    case measure => simp [intOf]; omega
                  · have b6 : decide (g < x.n) = false := decide_eq_false e6
                    clear e6
                    have hv : y = (g, v) := by rw [HK.out]; simp [edB, b0, b1, b2, b3, b4, b5, b6]
                    have HV := Lib.hid hv
                    clear hv HK
                    have q1 : ∀ c T o b, b < wr.heap.size → (wr.alloc (.cells c T)).cell? ⟨b, o, none⟩ = wr.cell? ⟨b, o, none⟩ := fun c T o b hb => (Below.alloc (Below.refl _ wr) (Nat.le_refl _) _).cell (p := ⟨b, o, none⟩) hb
                    go_wp2_with fail
                    go_roundw
                    case rel => exact ⟨k + 1, by omega, by go_num, by rw [HY.out, HV.out], by rw [HY.out, HV.out], hbr.alloc hbr.size _⟩
                    case measure => simp [intOf]; omega
                · have b5 : decide (h < x.en) = false := decide_eq_false e5
                  clear e5
                  have hv : y = (g, v) := by rw [HK.out]; simp [edB, b0, b1, b2, b3, b4, b5]
                  have HV := Lib.hid hv
                  clear hv HK
                  have q1 : ∀ c T o b, b < wr.heap.size → (wr.alloc (.cells c T)).cell? ⟨b, o, none⟩ = wr.cell? ⟨b, o, none⟩ := fun c T o b hb => (Below.alloc (Below.refl _ wr) (Nat.le_refl _) _).cell (p := ⟨b, o, none⟩) hb
                  go_wp2_with fail
                  go_roundw
                  case rel => exact ⟨k + 1, by omega, by go_num, by rw [HY.out, HV.out], by rw [HY.out, HV.out], hbr.alloc hbr.size _⟩
                  case measure => simp [intOf]; omega
              · have b4 : decide (x.st ≤ h) = false := decide_eq_false e4
                clear e4
                have hv : y = (g, v) := by rw [HK.out]; simp [edB, b0, b1, b2, b3, b4]
                have HV := Lib.hid hv
                clear hv HK
                have q1 : ∀ c T o b, b < wr.heap.size → (wr.alloc (.cells c T)).cell? ⟨b, o, none⟩ = wr.cell? ⟨b, o, none⟩ := fun c T o b hb => (Below.alloc (Below.refl _ wr) (Nat.le_refl _) _).cell (p := ⟨b, o, none⟩) hb
                go_wp2_with fail
                go_roundw
                case rel => exact ⟨k + 1, by omega, by go_num, by rw [HY.out, HV.out], by rw [HY.out, HV.out], hbr.alloc hbr.size _⟩
                case measure => simp [intOf]; omega
            · have b3 : decide (m < x.tt) = false := decide_eq_false e3
              clear e3
              have hv : y = (g, v) := by rw [HK.out]; simp [edB, b0, b1, b2, b3]
              have HV := Lib.hid hv
              clear hv HK
              have q1 : ∀ c T o b, b < wr.heap.size → (wr.alloc (.cells c T)).cell? ⟨b, o, none⟩ = wr.cell? ⟨b, o, none⟩ := fun c T o b hb => (Below.alloc (Below.refl _ wr) (Nat.le_refl _) _).cell (p := ⟨b, o, none⟩) hb
              go_wp2_with fail
              go_roundw
              case rel => exact ⟨k + 1, by omega, by go_num, by rw [HY.out, HV.out], by rw [HY.out, HV.out], hbr.alloc hbr.size _⟩
              case measure => simp [intOf]; omega
          · have b2 : decide (x.fr ≤ m) = false := decide_eq_false e2
            clear e2
            have hv : y = (g, v) := by rw [HK.out]; simp [edB, b0, b1, b2]
            have HV := Lib.hid hv
            clear hv HK
            have q1 : ∀ c T o b, b < wr.heap.size → (wr.alloc (.cells c T)).cell? ⟨b, o, none⟩ = wr.cell? ⟨b, o, none⟩ := fun c T o b hb => (Below.alloc (Below.refl _ wr) (Nat.le_refl _) _).cell (p := ⟨b, o, none⟩) hb
            go_wp2_with fail
            go_roundw
            case rel => exact ⟨k + 1, by omega, by go_num, by rw [HY.out, HV.out], by rw [HY.out, HV.out], hbr.alloc hbr.size _⟩
            case measure => simp [intOf]; omega
        · have b1 : (x.d == d) = false := beq_false_of_ne e1
          clear e1
          have hv : y = (g, v) := by rw [HK.out]; simp [edB, b0, b1]
          have HV := Lib.hid hv
          clear hv HK
          have q1 : ∀ c T o b, b < wr.heap.size → (wr.alloc (.cells c T)).cell? ⟨b, o, none⟩ = wr.cell? ⟨b, o, none⟩ := fun c T o b hb => (Below.alloc (Below.refl _ wr) (Nat.le_refl _) _).cell (p := ⟨b, o, none⟩) hb
          go_wp2_with fail
          go_roundw
          case rel => exact ⟨k + 1, by omega, by go_num, by rw [HY.out, HV.out], by rw [HY.out, HV.out], hbr.alloc hbr.size _⟩
          case measure => simp [intOf]; omega
      · have b0 : (x.tp == t) = false := beq_false_of_ne e0
        clear e0
        have hv : y = (g, v) := by rw [HK.out]; simp [edB, b0]
        have HV := Lib.hid hv
        clear hv HK
        have q1 : ∀ c T o b, b < wr.heap.size → (wr.alloc (.cells c T)).cell? ⟨b, o, none⟩ = wr.cell? ⟨b, o, none⟩ := fun c T o b hb => (Below.alloc (Below.refl _ wr) (Nat.le_refl _) _).cell (p := ⟨b, o, none⟩) hb
        go_wp2_with fail
        go_roundw
        case rel => exact ⟨k + 1, by omega, by go_num, by rw [HY.out, HV.out], by rw [HY.out, HV.out], hbr.alloc hbr.size _⟩
        case measure => simp [intOf]; omega
    · obtain rfl : k = q.length := by omega
      have HV : Hid (mustV q h t d m = (mustK q h t d m q.length).2) := Lib.hid rfl
      clear HC HL
      go_wp2_with fail
      go_ret
      exact ⟨by rw [HV.out]; rfl, hbw⟩
set_option maxRecDepth 100000 in
set_option maxHeartbeats 4000000 in
theorem refMust_r (ae : Option Addr) (q : List Edc) (cq : Nat) (h t d m : Int) (w : World) (hE : EdS w ae q) :
    Calls Tryz.prog 28 #[.slice ae q.length cq, .int .i64 h, .int .i64 d, .int .i64 t, .int .i64 m] w fun e w' => e = .returned (.int .i64 (mustV q h t d m)) ∧ Below w.heap.size w w' := by
  obtain ⟨hlen, blk, off, hadr, hc⟩ := hE
  have HC := Lib.hid hc
  have HL : Hid (0 < q.length → ae = some ⟨blk, off, none⟩) := Lib.hid fun h => hadr (List.ne_nil_of_length_pos h)
  clear hc hadr
  go_enter Tryz.func28, Tryz.ntmps28
  go_wp2_with fail
  go_loopw [11, 12, 13] (fun g9 v9 i9 wr => ∃ k : Nat, k ≤ q.length ∧ i9 = .int .i64 k ∧ g9 = .int .i64 (mustK q h t d m k).1 ∧ v9 = .int .i64 (mustK q h t d m k).2 ∧ Below w.heap.size w wr) (fun _ _ i9 _ => q.length - (intOf i9).toNat)
  case atStart => exact ⟨0, Nat.zero_le _, rfl, rfl, rfl, Below.refl _ _⟩
  case round =>
    obtain ⟨k, hk, rfl, rfl, rfl, hbr⟩ := hrel
    have hbw := hbr
    by_cases hlt : k < q.length
    · obtain rfl := HL.out (by omega)
      obtain ⟨c0, c1, c2, c3, c4, c5, c6, c7⟩ := HC.out k hlt
      have c0 := cell_below c0 hbw
      have c1 := cell_below c1 hbw
      have c2 := cell_below c2 hbw
      have c3 := cell_below c3 hbw
      have c4 := cell_below c4 hbw
      have c5 := cell_below c5 hbw
      have c6 := cell_below c6 hbw
      have c7 := cell_below c7 hbw
      have g1 : (k : Int) < (q.length : Int) := by omega
      have HK : Hid (mustK q h t d m (k + 1) = if (edB (ge q k) h t d m && decide ((mustK q h t d m k).1 < (ge q k).n)) = true then ((ge q k).n, (ge q k).v) else mustK q h t d m k) := Lib.hid rfl
      have HM : Hid (∃ y, mustK q h t d m (k + 1) = y) := Lib.hid ⟨_, rfl⟩
      obtain ⟨y, hy⟩ := HM.out
      have HY := Lib.hid hy
      rw [hy] at HK
      obtain ⟨g, v, hgv⟩ : ∃ g v, mustK q h t d m k = (g, v) := ⟨_, _, rfl⟩
      rw [hgv] at HK ⊢
      clear hy hgv HM HC HL
      obtain ⟨x, hx⟩ : ∃ x, ge q k = x := ⟨_, rfl⟩
      rw [hx] at HK c0 c1 c2 c3 c4 c5 c6 c7
      clear hx
      show Code.wp _ _ _ _ _
      by_cases e0 : x.tp = t
      · have b0 : (x.tp == t) = true := by rw [e0]; simp
        clear e0
        by_cases e1 : x.d = d
        · have b1 : (x.d == d) = true := by rw [e1]; simp
          clear e1
          by_cases e2 : x.fr ≤ m
          · have b2 : decide (x.fr ≤ m) = true := decide_eq_true e2
            clear e2
            by_cases e3 : m < x.tt
            · have b3 : decide (m < x.tt) = true := decide_eq_true e3
              clear e3
              by_cases e4 : x.st ≤ h
              · have b4 : decide (x.st ≤ h) = true := decide_eq_true e4
                clear e4
                by_cases e5 : h < x.en
                · have b5 : decide (h < x.en) = true := decide_eq_true e5
                  clear e5
                  by_cases e6 : g < x.n
                  · have b6 : decide (g < x.n) = true := decide_eq_true e6
                    clear e6
                    have hv : y = (x.n, x.v) := by rw [HK.out]; simp only [edB, b0, b1, b2, b3, b4, b5, b6]; rfl
                    have HV := Lib.hid hv
                    clear hv HK
                    obtain ⟨wq, hwq⟩ : ∃ wq, wr.alloc (.cells #[.int .i64 x.n, .int .i64 x.tp, .int .i64 x.v, .int .i64 x.d, .int .i64 x.fr, .int .i64 x.tt, .int .i64 x.st, .int .i64 x.en] 104) = wq := ⟨_, rfl⟩
                    have q1 : ∀ c T o b, b < wr.heap.size → (wr.alloc (.cells c T)).cell? ⟨b, o, none⟩ = wr.cell? ⟨b, o, none⟩ := fun c T o b hb => (Below.alloc (Below.refl _ wr) (Nat.le_refl _) _).cell (p := ⟨b, o, none⟩) hb
                    clear hwq wq
                    go_wp2_with fail
                    go_quiet (fail)
                    go_wp2_with fail
                    go_roundw
                    case rel => exact ⟨k + 1, by omega, by go_num, by rw [HY.out, HV.out], by rw [HY.out, HV.out], below_drewN (hbr.alloc hbr.size _) _⟩
                    case measure => simp [intOf]; omega
                  · have b6 : decide (g < x.n) = false := decide_eq_false e6
                    clear e6
                    have hv : y = (g, v) := by rw [HK.out]; simp [edB, b0, b1, b2, b3, b4, b5, b6]
                    have HV := Lib.hid hv
                    clear hv HK
                    have q1 : ∀ c T o b, b < wr.heap.size → (wr.alloc (.cells c T)).cell? ⟨b, o, none⟩ = wr.cell? ⟨b, o, none⟩ := fun c T o b hb => (Below.alloc (Below.refl _ wr) (Nat.le_refl _) _).cell (p := ⟨b, o, none⟩) hb
                    go_wp2_with fail
                    go_roundw
                    case rel => exact ⟨k + 1, by omega, by go_num, by rw [HY.out, HV.out], by rw [HY.out, HV.out], hbr.alloc hbr.size _⟩
                    case measure => simp [intOf]; omega
                · have b5 : decide (h < x.en) = false := decide_eq_false e5
                  clear e5
                  have hv : y = (g, v) := by rw [HK.out]; simp [edB, b0, b1, b2, b3, b4, b5]
                  have HV := Lib.hid hv
                  clear hv HK
                  have q1 : ∀ c T o b, b < wr.heap.size → (wr.alloc (.cells c T)).cell? ⟨b, o, none⟩ = wr.cell? ⟨b, o, none⟩ := fun c T o b hb => (Below.alloc (Below.refl _ wr) (Nat.le_refl _) _).cell (p := ⟨b, o, none⟩) hb
                  go_wp2_with fail
                  go_roundw
                  case rel => exact ⟨k + 1, by omega, by go_num, by rw [HY.out, HV.out], by rw [HY.out, HV.out], hbr.alloc hbr.size _⟩
                  case measure => simp [intOf]; omega
              · have b4 : decide (x.st ≤ h) = false := decide_eq_false e4
                clear e4
                have hv : y = (g, v) := by rw [HK.out]; simp [edB, b0, b1, b2, b3, b4]
                have HV := Lib.hid hv
                clear hv HK
                have q1 : ∀ c T o b, b < wr.heap.size → (wr.alloc (.cells c T)).cell? ⟨b, o, none⟩ = wr.cell? ⟨b, o, none⟩ := fun c T o b hb => (Below.alloc (Below.refl _ wr) (Nat.le_refl _) _).cell (p := ⟨b, o, none⟩) hb
                go_wp2_with fail
                go_roundw
                case rel => exact ⟨k + 1, by omega, by go_num, by rw [HY.out, HV.out], by rw [HY.out, HV.out], hbr.alloc hbr.size _⟩
                case measure => simp [intOf]; omega
            · have b3 : decide (m < x.tt) = false := decide_eq_false e3
              clear e3
              have hv : y = (g, v) := by rw [HK.out]; simp [edB, b0, b1, b2, b3]
              have HV := Lib.hid hv
              clear hv HK
              have q1 : ∀ c T o b, b < wr.heap.size → (wr.alloc (.cells c T)).cell? ⟨b, o, none⟩ = wr.cell? ⟨b, o, none⟩ := fun c T o b hb => (Below.alloc (Below.refl _ wr) (Nat.le_refl _) _).cell (p := ⟨b, o, none⟩) hb
              go_wp2_with fail
              go_roundw
              case rel => exact ⟨k + 1, by omega, by go_num, by rw [HY.out, HV.out], by rw [HY.out, HV.out], hbr.alloc hbr.size _⟩
              case measure => simp [intOf]; omega
          · have b2 : decide (x.fr ≤ m) = false := decide_eq_false e2
            clear e2
            have hv : y = (g, v) := by rw [HK.out]; simp [edB, b0, b1, b2]
            have HV := Lib.hid hv
            clear hv HK
            have q1 : ∀ c T o b, b < wr.heap.size → (wr.alloc (.cells c T)).cell? ⟨b, o, none⟩ = wr.cell? ⟨b, o, none⟩ := fun c T o b hb => (Below.alloc (Below.refl _ wr) (Nat.le_refl _) _).cell (p := ⟨b, o, none⟩) hb
            go_wp2_with fail
            go_roundw
            case rel => exact ⟨k + 1, by omega, by go_num, by rw [HY.out, HV.out], by rw [HY.out, HV.out], hbr.alloc hbr.size _⟩
            case measure => simp [intOf]; omega
        · have b1 : (x.d == d) = false := beq_false_of_ne e1
          clear e1
          have hv : y = (g, v) := by rw [HK.out]; simp [edB, b0, b1]
          have HV := Lib.hid hv
          clear hv HK
          have q1 : ∀ c T o b, b < wr.heap.size → (wr.alloc (.cells c T)).cell? ⟨b, o, none⟩ = wr.cell? ⟨b, o, none⟩ := fun c T o b hb => (Below.alloc (Below.refl _ wr) (Nat.le_refl _) _).cell (p := ⟨b, o, none⟩) hb
          go_wp2_with fail
          go_roundw
          case rel => exact ⟨k + 1, by omega, by go_num, by rw [HY.out, HV.out], by rw [HY.out, HV.out], hbr.alloc hbr.size _⟩
          case measure => simp [intOf]; omega
      · have b0 : (x.tp == t) = false := beq_false_of_ne e0
        clear e0
        have hv : y = (g, v) := by rw [HK.out]; simp [edB, b0]
        have HV := Lib.hid hv
        clear hv HK
        have q1 : ∀ c T o b, b < wr.heap.size → (wr.alloc (.cells c T)).cell? ⟨b, o, none⟩ = wr.cell? ⟨b, o, none⟩ := fun c T o b hb => (Below.alloc (Below.refl _ wr) (Nat.le_refl _) _).cell (p := ⟨b, o, none⟩) hb
        go_wp2_with fail
        go_roundw
        case rel => exact ⟨k + 1, by omega, by go_num, by rw [HY.out, HV.out], by rw [HY.out, HV.out], hbr.alloc hbr.size _⟩
        case measure => simp [intOf]; omega
    · obtain rfl : k = q.length := by omega
      have HV : Hid (mustV q h t d m = (mustK q h t d m q.length).2) := Lib.hid rfl
      clear HC HL
      go_wp2_with fail
      go_ret
      exact ⟨by rw [HV.out]; rfl, hbw⟩
end Go.Proofs.YtneafbhiencjlaaGreatDoor
